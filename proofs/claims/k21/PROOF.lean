import PyProof.Rows.All
import Wide.All
import OpenK.AllK
import Wide.FinOn
import Lean
import PyProof.EqAt
import PyProof.EqKinds
import PyProof.TupleCall
import PyProof.StrBlock2
import PySem.Challenge.RW_gapscribe_k21_fills_cuts_changes
set_option Elab.async false
set_option linter.all false
set_option maxRecDepth 100000
namespace L2
open PySem PySem.Spec PyProof.Rows

noncomputable abbrev Key := Sum Int Str
noncomputable def keyIs : Key → Value → Bool
  | .inl k, v => Value.isInt k v
  | .inr x, v => Value.isStrOf x v
noncomputable def keyH (w : World) : Key → Int
  | .inl k => hashInt k
  | .inr x => hashStr w x
theorem keyIs_shape : ∀ {k : Key} {v : Value}, keyIs k v = true → (∃ i t, k = Sum.inl i ∧ v = Value.int i t) ∨ (∃ x t, k = Sum.inr x ∧ v = Value.str x t)
  | .inl i, v, h => by
    obtain ⟨t, e⟩ := Value.isInt_shape (k := i) (v := v) h
    exact .inl ⟨i, t, rfl, e⟩
  | .inr x, v, h => by
    obtain ⟨t, e⟩ := Value.isStrOf_shape (x := x) (v := v) h
    exact .inr ⟨x, t, rfl, e⟩
theorem key_ll (a b : Int) : decide ((Sum.inl a : Key) = Sum.inl b) = (a == b) := by
  by_cases e : a = b
  · subst e; simp
  · have h : ¬ (Sum.inl a : Key) = Sum.inl b := fun q => e (Sum.inl.inj q)
    rw [decide_eq_false h]
    exact (beq_eq_false_iff_ne.mpr e).symm
theorem key_rr (a b : Str) : decide ((Sum.inr a : Key) = Sum.inr b) = decide (a = b) := by
  by_cases e : a = b
  · subst e; simp
  · have h : ¬ (Sum.inr a : Key) = Sum.inr b := fun q => e (Sum.inr.inj q)
    rw [decide_eq_false h, decide_eq_false e]
theorem key_lr (a : Int) (b : Str) : decide ((Sum.inl a : Key) = Sum.inr b) = false := decide_eq_false (fun q => nomatch q)
theorem key_rl (a : Str) (b : Int) : decide ((Sum.inr a : Key) = Sum.inl b) = false := decide_eq_false (fun q => nomatch q)

noncomputable def mixKind (prog : Program) (w : World) : PySem.KeyKind prog w Key where
  is := keyIs
  hash := keyH w
  inj := fun v a b ha hb => by
    rcases keyIs_shape ha with ⟨i, t, rfl, rfl⟩ | ⟨x, t, rfl, rfl⟩
    · rcases keyIs_shape hb with ⟨j, u, rfl, e⟩ | ⟨y, u, rfl, e⟩
      · injection e with e1 _; rw [e1]
      · exact nomatch e
    · rcases keyIs_shape hb with ⟨j, u, rfl, e⟩ | ⟨y, u, rfl, e⟩
      · exact nomatch e
      · injection e with e1 _; rw [e1]
  byValue := fun k v h => by
    rcases keyIs_shape h with ⟨i, t, rfl, rfl⟩ | ⟨x, t, rfl, rfl⟩ <;> rfl
  pyHash := fun hv h => by
    rcases keyIs_shape hv with ⟨i, t, rfl, rfl⟩ | ⟨x, t, rfl, rfl⟩
    · exact wpAny_pyHash_int h
    · exact wpAny_pyHash_str h
  eqBool := fun hu hv h => by
    rcases keyIs_shape hu with ⟨i, t, rfl, rfl⟩ | ⟨x, t, rfl, rfl⟩
    · rcases keyIs_shape hv with ⟨j, u, rfl, rfl⟩ | ⟨y, u, rfl, rfl⟩
      · rw [key_ll] at h; exact wpAny_eqBool_int h
      · rw [key_lr] at h; exact SeqAt.EqAt.int_str i t y u _ _ _ _ h
    · rcases keyIs_shape hv with ⟨j, u, rfl, rfl⟩ | ⟨y, u, rfl, rfl⟩
      · rw [key_rl] at h; exact SeqAt.EqAt.str_int x t j u _ _ _ _ h
      · rw [key_rr] at h; exact wpAny_eqBool_str h
  «strs» := fun k x t v h => by
    rcases keyIs_shape h with ⟨i, u, rfl, e⟩ | ⟨y, u, rfl, e⟩
    · exact nomatch e
    · injection e with e1 _
      subst e1
      cases v <;> rfl

end L2

namespace L2
open PySem PySem.Spec PyProof.Rows

inductive V where
  | non | bl (b : Bool) | int (i : Int) | str (x : Str) | byt (b : Array UInt8) | flt (b : UInt64) | ref (a : Addr) | ty (n : String)
  deriving DecidableEq

noncomputable def RelV : V → Value → Prop
  | .non, u => u = Value.none
  | .bl b, u => u = Value.bool b
  | .int i, u => ∃ t, u = Value.int i t
  | .str x, u => ∃ t, u = Value.str x t
  | .byt b, u => ∃ t, u = Value.bytes b t
  | .flt b, u => ∃ t, u = Value.float b t
  | .ref a, u => u = Value.ref a
  | .ty n, u => u = Value.type n

noncomputable abbrev Vals : List V → List Value → Prop := Paired RelV
theorem Vals.length {xs : List V} {us : List Value} (r : Vals xs us) : xs.length = us.length := Paired.length r
theorem Vals.get : ∀ {xs : List V} {us : List Value} {i : Nat} {x : V}, Vals xs us → xs[i]? = some x → ∃ u, us[i]? = some u ∧ RelV x u
  | _, _, _, _, .nil, e => by simp at e
  | _, _, 0, _, .cons r _, e => by simp at e; subst e; exact ⟨_, rfl, r⟩
  | _, _, i + 1, x, .cons _ t, e => by
    obtain ⟨u, h1, h2⟩ := Vals.get (i := i) (x := x) t (by simpa using e)
    exact ⟨u, by simpa using h1, h2⟩
theorem Vals.set {x : V} {u : Value} (r : RelV x u) : ∀ {xs : List V} {us : List Value} (i : Nat), Vals xs us → Vals (xs.set i x) (us.set i u)
  | _, _, _, .nil => .nil
  | _, _, 0, .cons _ t => .cons r t
  | _, _, i + 1, .cons q t => .cons q (Vals.set r i t)
theorem Vals.append : ∀ {xs ys : List V} {us ws : List Value}, Vals xs us → Vals ys ws → Vals (xs ++ ys) (us ++ ws)
  | _, _, _, _, .nil, s => s
  | _, _, _, _, .cons r t, s => .cons r (Vals.append t s)
theorem Vals.take : ∀ {xs : List V} {us : List Value} (n : Nat), Vals xs us → Vals (xs.take n) (us.take n)
  | _, _, 0, _ => .nil
  | _, _, _ + 1, .nil => .nil
  | _, _, n + 1, .cons r t => .cons r (Vals.take n t)
theorem Vals.drop : ∀ {xs : List V} {us : List Value} (n : Nat), Vals xs us → Vals (xs.drop n) (us.drop n)
  | _, _, 0, r => r
  | _, _, _ + 1, .nil => .nil
  | _, _, n + 1, .cons _ t => Vals.drop n t
theorem Vals.none_of : ∀ {xs : List V} {us : List Value} {i : Nat}, Vals xs us → xs[i]? = none → us[i]? = none := fun {xs us i} r e => by
  have h1 := r.length
  have h2 : xs.length ≤ i := List.getElem?_eq_none_iff.mp e
  exact List.getElem?_eq_none_iff.mpr (by omega)

noncomputable def RelO : Option V → Option Value → Prop
  | some v, some u => RelV v u
  | none, none => True
  | _, _ => False
noncomputable def KV {κ : Type} : List (κ × V) → List (κ × Value) → Prop := Paired fun (p : κ × V) (q : κ × Value) => p.1 = q.1 ∧ RelV p.2 q.2

noncomputable def kV : Key → V
  | .inl i => .int i
  | .inr x => .str x

inductive HO where
  /-- a list -/
  | lst (xs : List V)
  /-- a tuple (never changes) -/
  | tup (xs : List V)
  /-- a dict whose keys are ints and texts; one whose keys are tuples of ints and texts (the empty one is both) -/
  | dK (kvs : List (Key × V)) | dT (kvs : List (List Key × V))
  /-- a set of ints: its members, its size -/
  | set (S : Int → Bool) (n : Nat)
  /-- an instance of the class at C, its dict at dx, its attributes -/
  | ins (C dx : Addr) (fs : List (Str × V))
  /-- the dict of the instance at x -/
  | own (x : Addr)
  /-- the dict of an exception -/
  | xd (fs : List (Str × V))
  /-- a bound method, f of x -/
  | met (f x : Addr)
  /-- a range object lo, lo + 1, .. below hi -/
  | rng (lo hi : Int)
  /-- a thing that is known to the object (the script; a dict while a loop walks it): read, never written while it is so -/
  | frz (o : Obj) (u : HO)
  /-- a code object's table -/
  | tbl (ps : Array Value)
  /-- any other thing, by what is true of its one object (a def of one's own: SetO a S n := HO.ext fun h => ..) -/
  | ext (φ : Heap → Prop)

noncomputable abbrev Hp := Addr → Option HO
noncomputable def upd (H : Hp) (a : Addr) (o : HO) : Hp := fun b => if b = a then some o else H b
theorem upd_same {H : Hp} {a : Addr} {o : HO} : upd H a o a = some o := by unfold upd; rw [if_pos rfl]
theorem upd_ne {H : Hp} {a b : Addr} {o : HO} (h : b ≠ a) : upd H a o b = H b := by unfold upd; rw [if_neg h]
theorem ne_of {H : Hp} {a b : Addr} {o u : HO} (h : H a = some o) (h' : H b = some u) (d : o ≠ u) : a ≠ b := by
  intro e; subst e; rw [h] at h'; exact d (Option.some.inj h')
theorem ne_of_none {H : Hp} {a b : Addr} {o : HO} (h : H a = some o) (h' : H b = none) : a ≠ b := by
  intro e; subst e; rw [h] at h'; cases h'

section
variable (P : Program) (w : World)
noncomputable def ObjOk (H : Hp) (h : Heap) (a : Addr) : HO → Prop
  | .lst xs => xs.length ≤ sizeLine ∧ ∃ (its : List Value) (n : Nat), Vals xs its ∧ h.get? a = some { cls := .type "list", data := .seq its.toArray n }
  | .tup xs => xs.length ≤ sizeLine ∧ ∃ its : List Value, Vals xs its ∧ IsTup h a its.toArray
  | .dK kvs => kvs.length ≤ sizeLine ∧ (a == sysModules) = false ∧ ∃ vs, KV kvs vs ∧ h.DictOf (mixKind P w) a vs
  | .dT kvs => kvs.length ≤ sizeLine ∧ (a == sysModules) = false ∧ ∃ xs : List (List Key × Addr × Value),
      Paired (fun (p : List Key × V) (q : List Key × Addr × Value) => p.1 = q.1 ∧ H q.2.1 = some (.tup (p.1.map kV)) ∧ RelV p.2 q.2.2) kvs xs ∧
      ∃ o es ep, h.get? a = some o ∧ o.ExactDict ∧ o.data = .dict es ep ∧ es.toList = xs.map (entryOfKey (tupleKind (mixKind P w))) ∧ (xs.map (·.1)).Nodup
  | .set S n => h.SetOf (intKind P w) a S n
  | .ins C dx fs => H dx = some (.own a) ∧ fs.length ≤ 1000 ∧ dx ≠ a ∧ h.get? a = some (PySem.W.instObj C dx) ∧
      ∃ mA, h.Ns1 dx mA ∧ (∀ f, RelO (fs.lookup f) (mA f)) ∧ PySem.Within mA (fs.map (·.1))
  | .own _ => ∃ o, h.get? a = some o
  | .xd fs => ∃ mA, h.Ns1 a mA ∧ ∀ f, RelO (fs.lookup f) (mA f)
  | .rng lo hi => ∃ t u v, h.get? a = some { cls := .type "range", data := .fields #[.int lo t, .int hi u, .int 1 v] }
  | .frz o u => h.get? a = some o ∧ ObjOk H h a u
  | .tbl ps => h.get? a = some { cls := .none, data := .fields ps }
  | .met f x => h.get? a = some (PySem.W.methodObj (.ref f) (.ref x))
  | .ext φ => φ h ∧ (∃ o, h.get? a = some o) ∧ ∀ h1 h2 : Heap, φ h1 → (∀ o, h1.get? a = some o → h2.get? a = some o) → φ h2
noncomputable def HOk (H : Hp) (h : Heap) : Prop := ∀ a o, H a = some o → ObjOk P w H h a o
end

section
variable {P : Program} {w : World} {H H' : Hp} {h h' : Heap} {a : Addr} {o : HO}
theorem ObjOk.lt (x : ObjOk P w H h a o) : a < h.objs.size := by
  cases o with
  | lst xs => obtain ⟨_, _, _, _, e⟩ := x; exact Heap.lt_size e
  | tup xs => obtain ⟨_, _, _, p⟩ := x; exact p.lt
  | dK kvs => obtain ⟨_, _, _, _, o, _, _, e, _⟩ := x; exact Heap.lt_size e
  | dT kvs => obtain ⟨_, _, _, _, o, _, _, e, _⟩ := x; exact Heap.lt_size e
  | set S n => obtain ⟨o, _, _, _, e, _⟩ := x; exact Heap.lt_size e
  | ins C dx fs => obtain ⟨_, _, _, e, _⟩ := x; exact Heap.lt_size e
  | own y => obtain ⟨_, e⟩ := x; exact Heap.lt_size e
  | xd fs => obtain ⟨_, ⟨_, _, _, e, _⟩, _⟩ := x; exact Heap.lt_size e
  | rng lo hi => obtain ⟨_, _, _, e⟩ := x; exact Heap.lt_size e
  | frz ob u => obtain ⟨e, _⟩ := x; exact Heap.lt_size e
  | tbl ps => exact Heap.lt_size (show h.get? a = some _ from x)
  | met f y => exact Heap.lt_size (show h.get? a = some _ from x)
  | ext φ => obtain ⟨_, ⟨_, e⟩, _⟩ := x; exact Heap.lt_size e
theorem Paired.mapP {α β : Type} {F G : α → β → Prop} : ∀ {l₁ : List α} {l₂ : List β}, Paired F l₁ l₂ → (∀ a b, F a b → G a b) → Paired G l₁ l₂
  | _, _, .nil, _ => .nil
  | _, _, .cons r t, f => .cons (f _ _ r) (Paired.mapP t f)
theorem ObjOk.stay (x : ObjOk P w H h a o) (k : ∀ b u, (b = a ∨ H b = some (.own a)) → h.get? b = some u → h'.get? b = some u)
    (ho : ∀ b, H b = some (.own a) → H' b = some (.own a)) (ht : ∀ b xs, H b = some (.tup xs) → H' b = some (.tup xs)) : ObjOk P w H' h' a o := by
  induction o with
  | lst xs => obtain ⟨z, its, n, r, e⟩ := x; exact ⟨z, its, n, r, k _ _ (.inl rfl) e⟩
  | tup xs => obtain ⟨z, its, r, ob, e, c⟩ := x; exact ⟨z, its, r, ob, k _ _ (.inl rfl) e, c⟩
  | dK kvs => obtain ⟨z, y, vs, r, ob, es, ep, e, c⟩ := x; exact ⟨z, y, vs, r, ob, es, ep, k _ _ (.inl rfl) e, c⟩
  | dT kvs =>
    obtain ⟨z, y, xs, r, ob, es, ep, e, c⟩ := x
    exact ⟨z, y, xs, Paired.mapP r fun p q z => ⟨z.1, ht _ _ z.2.1, z.2.2⟩, ob, es, ep, k _ _ (.inl rfl) e, c⟩
  | set S n => obtain ⟨ob, es, ep, t, e, c⟩ := x; exact ⟨ob, es, ep, t, k _ _ (.inl rfl) e, c⟩
  | ins C dx fs =>
    obtain ⟨d, z, ne, e, mA, ⟨od, es, ep, e2, c⟩, r⟩ := x
    exact ⟨ho _ d, z, ne, k _ _ (.inl rfl) e, mA, ⟨od, es, ep, k _ _ (.inr d) e2, c⟩, r⟩
  | own y => obtain ⟨ob, e⟩ := x; exact ⟨ob, k _ _ (.inl rfl) e⟩
  | xd fs => obtain ⟨mA, ⟨od, es, ep, e, c⟩, r⟩ := x; exact ⟨mA, ⟨od, es, ep, k _ _ (.inl rfl) e, c⟩, r⟩
  | rng lo hi => obtain ⟨t, u, v, e⟩ := x; exact ⟨t, u, v, k _ _ (.inl rfl) e⟩
  | frz ob u ih => obtain ⟨e, q⟩ := x; exact ⟨k _ _ (.inl rfl) e, ih q⟩
  | tbl ps =>
    have e : h.get? a = some { cls := .none, data := .fields ps } := x
    show h'.get? a = some { cls := .none, data := .fields ps }
    exact k a _ (.inl rfl) e
  | met f y =>
    have e : h.get? a = some (PySem.W.methodObj (.ref f) (.ref y)) := x
    show h'.get? a = some (PySem.W.methodObj (.ref f) (.ref y))
    exact k a _ (.inl rfl) e
  | ext φ => obtain ⟨p, ⟨o, e⟩, st⟩ := x; exact ⟨st _ _ p fun o q => k _ _ (.inl rfl) q, ⟨o, k _ _ (.inl rfl) e⟩, st⟩
theorem HOk.lt (x : HOk P w H h) (e : H a = some o) : a < h.objs.size := (x a o e).lt
theorem HOk.fresh (x : HOk P w H h) (e : h.objs.size ≤ a) : H a = none := by
  cases q : H a with
  | none => rfl
  | some u => exact absurd (Nat.lt_of_lt_of_le (x.lt q) e) (Nat.lt_irrefl _)
theorem HOk.kept (x : HOk P w H h) (k : ∀ b u, h.get? b = some u → h'.get? b = some u) : HOk P w H h' := fun a o e =>
  (x a o e).stay (fun b u _ q => k b u q) (fun _ q => q) fun _ _ q => q
theorem HOk.laid (x : HOk P w H h) (k : ∀ b u, h.get? b = some u → h'.get? b = some u) (hp : h.objs.size ≤ a) (new : ObjOk P w (upd H a o) h' a o) : HOk P w (upd H a o) h' := fun b u e => by
  have hn := x.fresh hp
  by_cases hb : b = a
  · subst hb; rw [upd_same] at e; cases e; exact new
  · rw [upd_ne hb] at e
    exact (x b u e).stay (fun c v _ q => k c v q) (fun c q => by rw [upd_ne (ne_of_none q hn)]; exact q) fun c xs q => by rw [upd_ne (ne_of_none q hn)]; exact q
end

noncomputable def Rd (H : Hp) (a : Addr) (u : HO) : Prop := H a = some u ∨ ∃ o, H a = some (.frz o u)
theorem Rd.of {H : Hp} {a : Addr} {u : HO} (h : H a = some u) : Rd H a u := .inl h
theorem Rd.ok {P : Program} {w : World} {H : Hp} {h : Heap} {a : Addr} {u : HO} (r : Rd H a u) (x : HOk P w H h) : ObjOk P w H h a u := by
  rcases r with r | ⟨o, r⟩
  · exact x a u r
  · obtain ⟨_, q⟩ := x a _ r
    exact q
noncomputable def Mut : Option HO → Prop
  | some (.lst _) => True
  | some (.dK _) => True
  | some (.dT _) => True
  | some (.set _ _) => True
  | some (.ins _ _ _) => True
  | some (.ext _) => True
  | _ => False
section
variable {P : Program} {w : World} {H : Hp} {h h' : Heap} {x e : Addr} {o' : HO}
theorem HOk.write (ok : HOk P w H h) (mu : Mut (H x)) (he : e = x ∨ H e = some (.own x)) (k : ∀ b u, b ≠ e → h.get? b = some u → h'.get? b = some u) (heo : ∃ u, h'.get? e = some u)
    (new : ObjOk P w (upd H x o') h' x o') : HOk P w (upd H x o') h' := fun b u q => by
  have nown : ∀ c y, H c = some (.own y) → c ≠ x := fun c y r z => by subst z; rw [r] at mu; exact mu
  have ntup : ∀ c xs, H c = some (.tup xs) → c ≠ x := fun c xs r z => by subst z; rw [r] at mu; exact mu
  by_cases hb : b = x
  · subst hb; rw [upd_same] at q; cases q; exact new
  · rw [upd_ne hb] at q
    by_cases hbe : b = e
    · have q' : H b = some (.own x) := by
        rcases he with z | z
        · exact absurd (hbe.trans z) hb
        · rw [hbe]; exact z
      rw [q] at q'; cases q'
      obtain ⟨v, hv⟩ := heo
      exact ⟨v, by rw [hbe]; exact hv⟩
    · refine (ok b u q).stay (fun c v hc r => k c v ?_ r) (fun c r => by rw [upd_ne (nown c b r)]; exact r) fun c xs r => by rw [upd_ne (ntup c xs r)]; exact r
      rcases hc with rfl | hc
      · exact hbe
      · rintro rfl
        rcases he with z | z
        · exact nown c b hc z
        · rw [hc] at z; cases z; exact hb rfl
end

structure Un (fs ex : List Addr) (H H' : Hp) (h h' : Heap) : Prop where
  keep : ∀ b o, h.get? b = some o → H b = none → b ∉ fs → b ∉ ex → h'.get? b = some o
  slot : ∀ b o, h.get? b = some o → H b = none → b ∈ fs → b ∉ ex → ∃ sl, h'.get? b = some { o with slots := sl }
  free : ∀ b o, h.get? b = some o → H b = none → b ∉ ex → H' b = none
  there : ∀ b o, h.get? b = some o → b ∉ ex → ∃ o', h'.get? b = some o'
  tups : ∀ b xs, H b = some (.tup xs) → H' b = some (.tup xs)
  frzs : ∀ b o u, H b = some (.frz o u) → H' b = some (.frz o u)
  tbls : ∀ b ps, H b = some (.tbl ps) → ∃ more, H' b = some (.tbl (ps ++ more))
section
variable {fs fs' ex ex' : List Addr} {H H1 H2 : Hp} {h h1 h2 h' : Heap} {a x e : Addr} {o : HO}
theorem Un.any (u : Un fs ex H H1 h h1) {b : Addr} {ob : Obj} (q : h.get? b = some ob) (n : H b = none) (hx : b ∉ ex) : ∃ sl, h1.get? b = some { ob with slots := sl } := by
  by_cases hb : b ∈ fs
  · exact u.slot b ob q n hb hx
  · exact ⟨ob.slots, u.keep b ob q n hb hx⟩
theorem Un.trans (a : Un fs ex H H1 h h1) (b : Un fs ex H1 H2 h1 h2) : Un fs ex H H2 h h2 where
  keep := fun c ob q n hc hx => b.keep c ob (a.keep c ob q n hc hx) (a.free c ob q n hx) hc hx
  slot := fun c ob q n hc hx => by
    obtain ⟨sl, e1⟩ := a.slot c ob q n hc hx
    obtain ⟨sl', e2⟩ := b.slot c _ e1 (a.free c ob q n hx) hc hx
    exact ⟨sl', e2⟩
  free := fun c ob q n hx => by
    obtain ⟨o', e1⟩ := a.there c ob q hx
    exact b.free c o' e1 (a.free c ob q n hx) hx
  there := fun c ob q hx => by
    obtain ⟨o', e1⟩ := a.there c ob q hx
    exact b.there c o' e1 hx
  tups := fun c xs q => b.tups c xs (a.tups c xs q)
  frzs := fun c ob xs q => b.frzs c ob xs (a.frzs c ob xs q)
  tbls := fun c ps q => by
    obtain ⟨m1, e1⟩ := a.tbls c ps q
    obtain ⟨m2, e2⟩ := b.tbls c _ e1
    exact ⟨m1 ++ m2, by rw [e2, Array.append_assoc]⟩
theorem Un.kept (k : ∀ b u, h.get? b = some u → h'.get? b = some u) : Un fs ex H H h h' :=
  ⟨fun b ob q _ _ _ => k b ob q, fun b ob q _ _ _ => ⟨ob.slots, k b ob q⟩, fun _ _ _ n _ => n, fun b ob q _ => ⟨ob, k b ob q⟩, fun _ _ q => q, fun _ _ _ q => q, fun _ ps q => ⟨#[], by rw [q]; simp⟩⟩
theorem Un.refl : Un fs ex H H h h := Un.kept fun _ _ q => q
theorem Un.laid (k : ∀ b u, h.get? b = some u → h'.get? b = some u) (hp : h.objs.size ≤ a) (hn : H a = none) : Un fs ex H (upd H a o) h h' where
  keep := fun b u q _ _ _ => k b u q
  slot := fun b u q _ _ _ => ⟨u.slots, k b u q⟩
  free := fun b u q n _ => by rw [upd_ne (Nat.ne_of_lt (Nat.lt_of_lt_of_le (Heap.lt_size q) hp))]; exact n
  there := fun b u q _ => ⟨u, k b u q⟩
  tups := fun b xs q => by rw [upd_ne (ne_of_none q hn)]; exact q
  frzs := fun b u xs q => by rw [upd_ne (ne_of_none q hn)]; exact q
  tbls := fun b ps q => ⟨#[], by rw [upd_ne (ne_of_none q hn), q]; simp⟩
theorem Un.write (mu : Mut (H x)) (he : e = x ∨ H e = some (.own x)) (k : ∀ b u, b ≠ e → h.get? b = some u → h'.get? b = some u) (heo : ∃ u, h'.get? e = some u) : Un fs ex H (upd H x o) h h' := by
  have hx : ∀ b, H b = none → b ≠ x := fun b n z => by subst z; rw [n] at mu; exact mu
  have hb : ∀ b, H b = none → b ≠ e := fun b n z => by
    subst z
    rcases he with r | r
    · exact hx b n r
    · rw [n] at r; cases r
  have hm : ∀ b u, H b = some u → ¬ Mut (some u) → b ≠ x := fun b u q nm z => by subst z; rw [q] at mu; exact nm mu
  refine ⟨fun b u q n _ _ => k b u (hb b n) q, fun b u q n _ _ => ⟨u.slots, k b u (hb b n) q⟩, fun b u q n _ => by rw [upd_ne (hx b n)]; exact n, fun b u q _ => ?_,
    fun b xs q => by rw [upd_ne (hm b _ q fun z => z)]; exact q, fun b u xs q => by rw [upd_ne (hm b _ q fun z => z)]; exact q, fun b ps q => ⟨#[], by rw [upd_ne (hm b _ q fun z => z), q]; simp⟩⟩
  by_cases hbe : b = e
  · subst hbe; exact heo
  · exact ⟨u, k b u hbe q⟩
theorem Un.mono (u : Un fs ex H H1 h h1) (hs : ∀ b ∈ fs, b ∈ fs') (hx : ∀ b ∈ ex, b ∈ ex') : Un fs' ex' H H1 h h1 :=
  ⟨fun b ob q n hb he => u.keep b ob q n (fun z => hb (hs b z)) fun z => he (hx b z), fun _ _ q n _ he => u.any q n fun z => he (hx _ z), fun b ob q n he => u.free b ob q n fun z => he (hx b z), fun b ob q he => u.there b ob q fun z => he (hx b z), u.tups, u.frzs, u.tbls⟩
end

noncomputable def trk (h : Heap) (H : Hp) : List Addr := (List.range h.objs.size).filter fun a => (H a).isSome
noncomputable def hidT (h : Heap) (H : Hp) : Heap := PySem.W.hideAll h (trk h H)
theorem hidT_size (h : Heap) (H : Hp) : (hidT h H).objs.size = h.objs.size := PySem.W.hideAll_size _ _
theorem hidT_get {h : Heap} {H : Hp} {b : Addr} {o : Obj} (e : h.get? b = some o) (n : H b = none) : (hidT h H).get? b = some o :=
  PySem.W.hideAll_get _ e fun hm => by
    have q : (H b).isSome = true := (List.mem_filter.mp hm).2
    rw [n] at q; simp at q
theorem of_hidT {h : Heap} {H : Hp} {b : Addr} {o : Obj} (e : (hidT h H).get? b = some o) : h.get? b = some o ∧ H b = none := by
  have e' : h.get? b = some o := PySem.W.of_hideAll (trk h H) e
  refine ⟨e', ?_⟩
  cases q : H b with
  | none => rfl
  | some x =>
    have hm : b ∈ trk h H := List.mem_filter.mpr ⟨List.mem_range.mpr (Heap.lt_size e'), by simp [q]⟩
    have z : (hidT h H).get? b = none := PySem.W.hideAll_none (trk h H) hm
    rw [z] at e; cases e

noncomputable def allNews (g h : Heap) (L : Addr) : List (Addr × Obj) := (List.range h.objs.size).filterMap fun a => if a = L ∨ (g.get? a).isSome = true then none else (h.get? a).map fun o => (a, o)
noncomputable def rest (g h : Heap) (L d : Addr) : List (Addr × Obj) := (allNews g h L).filter fun p => decide (p.1 ≠ d)
end L2

namespace L2
open PySem PySem.Spec PyProof.Rows

structure Mod (K : PySem.W.Frag) (mg : Str → Option Value) (base : Heap) : Prop where
  kin : K.In base
  glob : base.Ns mainGlobals mg
  blt : ∃ mb, base.Ns builtinsNs mb ∧ ∀ x : Str, x ≠ "__name__" → mb x = bootBuiltins x
  nolimit : base.NoLimit

structure Cx where
  prog : Program
  w : World
  K : PySem.W.Frag
  mg : Str → Option Value
  base : Heap
  A : Around
  N : List Str
  s₀ : Shared
  H₀ : Hp
  env : Env
  outer : List Env
  stack : List Env
  ex : List Addr
  fn : Str → Bool
  calm : Bool
  pn : List (Addr × Obj)
  xe : Value → Shared → Prop
noncomputable def frs (l : List Env) : List Addr := l.filterMap (·.frame)
noncomputable abbrev Cx.fs (X : Cx) : List Addr := frs X.outer

noncomputable def Vis (sc : Scope) (x : Str) : Prop := sc.names.lookup x = some .local ∨ sc.names.lookup x = some .cell ∨ sc.names.lookup x = some .free
noncomputable def Loc (sc : Scope) (x : Str) : Prop := sc.names.lookup x = some .local ∨ sc.names.lookup x = some .cell
noncomputable def Look (env : Env) (h : Heap) (m : Str → Option Value) (x : Str) (u : Value) : Prop :=
  (env.kindOf x = some .local ∧ m x = some u) ∨ ((env.kindOf x = some .cell ∨ env.kindOf x = some .free) ∧ ∃ c, env.cells.lookup x = some c ∧ h.IsCell c (some u))

structure Cx.Ok (X : Cx) : Prop where
  mod : Mod X.K X.mg X.base
  kind : X.env.scope.kind = .function
  glob : X.env.globals = mainGlobals
  blt : X.env.builtins = builtinsNs
  above : X.s₀.heap.objs.size ≤ X.env.locals
  inj : ∀ x y c, X.env.cells.lookup x = some c → X.env.cells.lookup y = some c → x = y
  has : ∀ x, (X.env.kindOf x = some .cell ∨ X.env.kindOf x = some .free) → ∃ c, X.env.cells.lookup x = some c
  cab : ∀ x c, X.fn x = true → X.env.cells.lookup x = some c → X.s₀.heap.objs.size ≤ c
  hd : X.calm = true → X.A.handled = none
  frames : X.A.frames = some X.stack
  stk : X.stack = X.outer ∨ (X.stack = X.env :: X.outer ∧ X.env.frame = some X.env.locals)
  exf : ∀ b ∈ X.ex, b ≠ X.env.locals ∧ ∀ x c, X.env.cells.lookup x = some c → c ≠ b
  bs : ∀ b o, X.base.get? b = some o → X.s₀.heap.get? b = some o ∧ X.H₀ b = none
  bsz : X.base.objs.size ≤ X.s₀.heap.objs.size
  noex : ∀ b o, X.base.get? b = some o → b ∉ X.ex
  exfs : ∀ b ∈ X.ex, b ∉ X.fs
  funs : X.s₀.heap.FunFrames X.base X.outer
  frf : ∀ b ∈ X.fs, X.H₀ b = none

structure Inv (X : Cx) (pins : List (Addr × Obj)) (σ : List (Option V)) (H : Hp) (s : Shared) : Prop where
  ok : X.Ok
  os : s.os = X.s₀.os
  bare : AllBare s.gens
  base : Un X.fs X.ex X.H₀ H X.s₀.heap s.heap
  loc : ∃ m, s.heap.Ns X.env.locals m ∧ ∀ (i : Nat) (x : Str) (v : V), X.N[i]? = some x → σ[i]? = some (some v) → Vis X.env.scope x → ∃ u, RelV v u ∧ Look X.env s.heap m x u
  cell : ∀ x c, X.env.cells.lookup x = some c → ∃ v, s.heap.IsCell c v
  free : H X.env.locals = none
  freeC : ∀ x c, X.env.cells.lookup x = some c → H c = none
  pin : ∀ p ∈ X.pn ++ pins, s.heap.get? p.1 = some p.2 ∧ H p.1 = none ∧ p.1 ≠ X.env.locals ∧ p.1 ∉ X.fs ∧ ∀ v, p.2.data ≠ .cell v
  hok : HOk X.prog X.w H s.heap
  len : σ.length = X.N.length

section
variable {X : Cx} {pins : List (Addr × Obj)} {σ : List (Option V)} {H H' : Hp} {s : Shared} {h' : Heap}

theorem Cx.Ok.nofr (ok : X.Ok) {b : Addr} {o : Obj} (e : X.base.get? b = some o) : b ∉ X.fs := fun hb => by
  have := (ok.funs.mem hb).1
  rw [e] at this; cases this
theorem Inv.bs (I : Inv X pins σ H s) : ∀ b o, X.base.get? b = some o → s.heap.get? b = some o ∧ H b = none := fun b o e =>
  ⟨I.base.keep b o (I.ok.bs b o e).1 (I.ok.bs b o e).2 (I.ok.nofr e) (I.ok.noex b o e), I.base.free b o (I.ok.bs b o e).1 (I.ok.bs b o e).2 (I.ok.noex b o e)⟩
theorem Inv.bk (I : Inv X pins σ H s) : ∀ b o, X.base.get? b = some o → s.heap.get? b = some o := fun b o e => (I.bs b o e).1
theorem Inv.mod (I : Inv X pins σ H s) : Mod X.K X.mg X.base := I.ok.mod
theorem Inv.kIn (I : Inv X pins σ H s) : X.K.In s.heap := I.ok.mod.kin.keeps I.bk
theorem Inv.nolimit (I : Inv X pins σ H s) : s.heap.NoLimit := I.ok.mod.nolimit.keeps I.bk
theorem Inv.fr (I : Inv X pins σ H s) : ∃ m, Fr X.base X.env.locals s.heap m :=
  let ⟨m, hn, _⟩ := I.loc
  ⟨m, hn, I.bk, Nat.le_trans I.ok.bsz I.ok.above⟩
theorem Inv.lt (I : Inv X pins σ H s) : X.env.locals < s.heap.objs.size := let ⟨_, hn, _⟩ := I.loc; hn.lt
theorem Inv.sz (I : Inv X pins σ H s) : X.s₀.heap.objs.size ≤ s.heap.objs.size := Nat.le_trans I.ok.above (Nat.le_of_lt I.lt)
theorem Inv.nofs (I : Inv X pins σ H s) {a : Addr} (h : s.heap.objs.size ≤ a) : a ∉ X.fs := fun hb => by
  obtain ⟨_, o, ho, _⟩ := I.ok.funs.mem hb
  exact absurd (Nat.lt_of_lt_of_le (Heap.lt_size ho) (Nat.le_trans I.sz h)) (Nat.lt_irrefl _)
theorem Inv.cne (I : Inv X pins σ H s) : ∀ x c, X.env.cells.lookup x = some c → c ≠ X.env.locals := fun x c e z => by
  obtain ⟨v, o, ho, hd⟩ := I.cell x c e
  obtain ⟨m, ⟨o', es, ep, ho', hd', _⟩, _⟩ := I.loc
  rw [z, ho'] at ho; cases ho; rw [hd'] at hd; cases hd
theorem Inv.funs (I : Inv X pins σ H s) : s.heap.FunFrames X.base X.outer := by
  have all : ∀ (l : List Env), (∀ b ∈ frs l, b ∈ X.fs) → X.s₀.heap.FunFrames X.base l → s.heap.FunFrames X.base l := by
    intro l
    induction l with
    | nil => intro _ _; trivial
    | cons env r ih =>
      intro hs hl
      obtain ⟨hk, ⟨L, o, hf, hn, ho, hd⟩, hr⟩ := hl
      have hL : L ∈ X.fs := hs L (by unfold frs; rw [List.filterMap_cons, hf]; exact List.mem_cons_self)
      obtain ⟨sl, e⟩ := I.base.slot L o ho (I.ok.frf L hL) hL fun z => I.ok.exfs L z hL
      exact ⟨hk, ⟨L, _, hf, hn, e, hd⟩, ih (fun b hb => hs b (by unfold frs; rw [List.filterMap_cons, hf]; exact List.mem_cons_of_mem _ hb)) hr⟩
  exact all X.outer (fun _ hb => hb) I.ok.funs

theorem Inv.stack (I : Inv X pins σ H s) : s.heap.FunFrames X.base X.stack := by
  rcases I.ok.stk with e | ⟨e, hf⟩
  · rw [e]; exact I.funs
  · rw [e]
    obtain ⟨m, hn, _⟩ := I.loc
    refine .cons (by rw [I.ok.kind]; decide) hf hn ?_ I.funs
    exact Heap.get?_none_of_le (Nat.le_trans I.ok.bsz I.ok.above)
theorem Inv.stkSub (I : Inv X pins σ H s) : ∀ b ∈ frs X.stack, b ∈ X.env.locals :: X.fs := fun b hb => by
  rcases I.ok.stk with e | ⟨e, hf⟩
  · rw [e] at hb; exact List.mem_cons_of_mem _ hb
  · rw [e] at hb
    unfold frs at hb
    rw [List.filterMap_cons, hf] at hb
    exact hb
theorem Inv.stkFree (I : Inv X pins σ H s) : ∀ b ∈ frs X.stack, H b = none := fun b hb => by
  rcases List.mem_cons.mp (I.stkSub b hb) with e | hb
  · rw [e]; exact I.free
  · obtain ⟨_, o, ho, _⟩ := I.ok.funs.mem hb
    exact I.base.free b o ho (I.ok.frf b hb) fun z => I.ok.exfs b z hb

theorem Inv.step {g' : Array GenState} {t' : Nat} {d' : Drawn} {ch : List Addr} (I : Inv X pins σ H s)
    (hch : ∀ b ∈ ch, (b ∈ X.ex ∨ X.s₀.heap.objs.size ≤ b) ∧ b ≠ X.env.locals ∧ (∀ x c, X.env.cells.lookup x = some c → c ≠ b) ∧ ∀ p ∈ X.pn ++ pins, p.1 ≠ b)
    (keep : ∀ b o, b ≠ X.env.locals → b ∉ X.fs → b ∉ ch → s.heap.get? b = some o → H b = none → h'.get? b = some o)
    (slot : ∀ b o, b ≠ X.env.locals → b ∈ X.fs → b ∉ ch → s.heap.get? b = some o → H b = none → ∃ sl, h'.get? b = some { o with slots := sl }) (free : ∀ b o, b ∉ ch → s.heap.get? b = some o → H b = none → H' b = none)
    (there : ∀ b o, b ∉ ch → s.heap.get? b = some o → ∃ o', h'.get? b = some o')
    (tups : ∀ b xs, H b = some (.tup xs) → H' b = some (.tup xs)) (frzs : ∀ b o u, H b = some (.frz o u) → H' b = some (.frz o u)) (tbls : ∀ b ps, H b = some (.tbl ps) → ∃ more, H' b = some (.tbl (ps ++ more)))
    (ns : ∀ m, s.heap.Ns X.env.locals m → h'.Ns X.env.locals m) (hok : HOk X.prog X.w H' h') (hg : AllBare g') :
    Inv X pins σ H' { s with heap := h', gens := g', drawn := d', toks := t' } := by
  have neL : ∀ b o, X.s₀.heap.get? b = some o → b ≠ X.env.locals := fun b o e => Nat.ne_of_lt (Nat.lt_of_lt_of_le (Heap.lt_size e) I.ok.above)
  have neC : ∀ b o, X.s₀.heap.get? b = some o → b ∉ X.ex → b ∉ ch := fun b o e hx hb => by
    rcases (hch b hb).1 with z | z
    · exact hx z
    · exact absurd (Nat.lt_of_lt_of_le (Heap.lt_size e) z) (Nat.lt_irrefl _)
  have cellK : ∀ x c, X.env.cells.lookup x = some c → ∀ v, s.heap.IsCell c v → h'.IsCell c v := fun x c e v ⟨o, ho, hd⟩ => by
    have nch : c ∉ ch := fun z => (hch c z).2.2.1 x c e rfl
    by_cases hc : c ∈ X.fs
    · obtain ⟨sl, q⟩ := slot c o (I.cne x c e) hc nch ho (I.freeC x c e)
      exact ⟨_, q, hd⟩
    · exact ⟨o, keep c o (I.cne x c e) hc nch ho (I.freeC x c e), hd⟩
  refine ⟨I.ok, I.os, hg, ⟨fun b o e n hb hx => ?_, fun b o e n hb hx => ?_, fun b o e n hx => ?_, fun b o e hx => ?_, fun b xs e => tups b xs (I.base.tups b xs e), fun b o xs e => frzs b o xs (I.base.frzs b o xs e), fun b ps e => ?_⟩, ?_, fun x c e => ?_, ?_, fun x c e => ?_, fun p hp => ?_, hok, I.len⟩
  · exact keep b o (neL b o e) hb (neC b o e hx) (I.base.keep b o e n hb hx) (I.base.free b o e n hx)
  · obtain ⟨sl, e1⟩ := I.base.slot b o e n hb hx
    obtain ⟨sl', e2⟩ := slot b _ (neL b o e) hb (neC b o e hx) e1 (I.base.free b o e n hx)
    exact ⟨sl', e2⟩
  · obtain ⟨o', e1⟩ := I.base.there b o e hx
    exact free b o' (neC b o e hx) e1 (I.base.free b o e n hx)
  · obtain ⟨o', e1⟩ := I.base.there b o e hx
    exact there b o' (neC b o e hx) e1
  · obtain ⟨m1, e1⟩ := I.base.tbls b ps e
    obtain ⟨m2, e2⟩ := tbls b _ e1
    exact ⟨m1 ++ m2, by rw [e2, Array.append_assoc]⟩
  · obtain ⟨m, hn, hl⟩ := I.loc
    refine ⟨m, ns m hn, fun i x v e1 e2 e3 => ?_⟩
    obtain ⟨u, r, l⟩ := hl i x v e1 e2 e3
    refine ⟨u, r, ?_⟩
    rcases l with l | ⟨k, c, e, z⟩
    · exact .inl l
    · exact .inr ⟨k, c, e, cellK x c e _ z⟩
  · obtain ⟨v, z⟩ := I.cell x c e
    exact ⟨v, cellK x c e v z⟩
  · obtain ⟨m, ⟨o, _, _, ho, _⟩, _⟩ := I.loc
    exact free _ o (fun z => (hch _ z).2.1 rfl) ho I.free
  · obtain ⟨v, o, ho, hd⟩ := I.cell x c e
    exact free c o (fun z => (hch c z).2.2.1 x c e rfl) ho (I.freeC x c e)
  · obtain ⟨e, n, ne, nf, d⟩ := I.pin p hp
    have nch : p.1 ∉ ch := fun z => (hch p.1 z).2.2.2 p hp rfl
    exact ⟨keep p.1 p.2 ne nf nch e n, free p.1 p.2 nch e n, ne, nf, d⟩
theorem Inv.un {t' : Nat} (I : Inv X pins σ H s) (u : Un X.fs [] H H' s.heap h') (hok : HOk X.prog X.w H' h') : Inv X pins σ H' { s with heap := h', toks := t' } := by
  obtain ⟨m, ⟨o, es, ep, ho, r⟩, _⟩ := id I.loc
  obtain ⟨sl, hL⟩ := u.any ho I.free (by simp)
  exact I.step (g' := s.gens) (d' := s.drawn) (ch := []) (fun _ z => nomatch z) (fun b o _ hb _ e n => u.keep b o e n hb (by simp)) (fun b o _ hb _ e n => u.slot b o e n hb (by simp)) (fun b o _ e n => u.free b o e n (by simp)) (fun b o _ e => u.there b o e (by simp)) u.tups u.frzs u.tbls (fun m' hm => by
    obtain ⟨o', es', ep', ho', r'⟩ := hm
    rw [ho] at ho'; cases ho'
    exact ⟨_, es', ep', hL, r'⟩) hok I.bare
theorem Inv.call {g' : Array GenState} {t' : Nat} {d' : Drawn} {ch : List Addr} (I : Inv X pins σ H s) (u : Un (frs X.stack) ch H H' s.heap h') (hok : HOk X.prog X.w H' h') (hg : AllBare g')
    (hch : ∀ b ∈ ch, (b ∈ X.ex ∨ X.s₀.heap.objs.size ≤ b) ∧ b ≠ X.env.locals ∧ (∀ x c, X.env.cells.lookup x = some c → c ≠ b) ∧ ∀ p ∈ X.pn ++ pins, p.1 ≠ b) :
    Inv X pins σ H' { s with heap := h', gens := g', drawn := d', toks := t' } := by
  obtain ⟨m, ⟨o, es, ep, ho, r⟩, _⟩ := id I.loc
  obtain ⟨sl, hL⟩ := u.any ho I.free fun z => (hch _ z).2.1 rfl
  exact I.step (ch := ch) hch (fun b o hL hb hc e n => u.keep b o e n (fun z => (List.mem_cons.mp (I.stkSub b z)).elim hL hb) hc) (fun b o _ _ hc e n => u.any e n hc) (fun b o hc e n => u.free b o e n hc) (fun b o hc e => u.there b o e hc) u.tups u.frzs u.tbls (fun m' hm => by
    obtain ⟨o', es', ep', ho', r'⟩ := hm
    rw [ho] at ho'; cases ho'
    exact ⟨_, es', ep', hL, r'⟩) hok hg
theorem Inv.turned {t' : Nat} {it : Addr} (I : Inv X pins σ H s) (k : ∀ b o, b ≠ it → s.heap.get? b = some o → h'.get? b = some o) (hn : H it = none) (hL : it ≠ X.env.locals)
    (h1 : it ∈ X.ex ∨ X.s₀.heap.objs.size ≤ it) (h2 : ∀ x c, X.env.cells.lookup x = some c → c ≠ it) (h3 : ∀ p ∈ X.pn ++ pins, p.1 ≠ it) : Inv X pins σ H { s with heap := h', toks := t' } := by
  have nit : ∀ b u, H b = some u → b ≠ it := fun b u e z => by rw [z, hn] at e; cases e
  refine I.step (g' := s.gens) (d' := s.drawn) (ch := [it]) (fun b hb => ?_) (fun b o _ _ hc e _ => k b o (fun z => hc (by simp [z])) e) (fun b o _ _ hc e _ => ⟨o.slots, k b o (fun z => hc (by simp [z])) e⟩) (fun _ _ _ _ n => n)
    (fun b o hc e => ⟨o, k b o (fun z => hc (by simp [z])) e⟩) (fun _ _ e => e) (fun _ _ _ e => e) (fun b ps e => ⟨#[], by rw [e]; simp⟩) (fun m hm => ?_) (fun b u e => ?_) I.bare
  · have e : b = it := by simpa using hb
    subst e
    exact ⟨h1, hL, h2, h3⟩
  · obtain ⟨o, es, ep, ho, r⟩ := hm
    exact ⟨o, es, ep, k _ o (Ne.symm hL) ho, r⟩
  · refine (I.hok b u e).stay (fun c v hc q => k c v ?_ q) (fun _ q => q) fun _ _ q => q
    rcases hc with z | z
    · rw [z]; exact nit b u e
    · exact nit c _ z
theorem Inv.tok (I : Inv X pins σ H s) (t : Nat) : Inv X pins σ H { s with toks := t } := I.un (h' := s.heap) (t' := t) Un.refl I.hok
theorem Inv.kept {t' : Nat} (I : Inv X pins σ H s) (k : ∀ b u, s.heap.get? b = some u → h'.get? b = some u) : Inv X pins σ H { s with heap := h', toks := t' } := I.un (Un.kept k) (I.hok.kept k)
theorem Inv.laid {a : Addr} {o : HO} {t' : Nat} (I : Inv X pins σ H s) (k : ∀ b u, s.heap.get? b = some u → h'.get? b = some u) (hp : s.heap.objs.size ≤ a) (new : ObjOk X.prog X.w (upd H a o) h' a o) :
    Inv X pins σ (upd H a o) { s with heap := h', toks := t' } := I.un (Un.laid k hp (I.hok.fresh hp)) (I.hok.laid k hp new)
theorem Inv.write {x e : Addr} {o : HO} {t' : Nat} (I : Inv X pins σ H s) (mu : Mut (H x)) (he : e = x ∨ H e = some (.own x)) (k : ∀ b u, b ≠ e → s.heap.get? b = some u → h'.get? b = some u) (heo : ∃ u, h'.get? e = some u)
    (new : ObjOk X.prog X.w (upd H x o) h' x o) : Inv X pins σ (upd H x o) { s with heap := h', toks := t' } := I.un (Un.write mu he k heo) (I.hok.write mu he k heo new)
theorem Inv.pins_of {pins' : List (Addr × Obj)} (I : Inv X pins σ H s) (h : ∀ p ∈ pins', s.heap.get? p.1 = some p.2 ∧ H p.1 = none ∧ p.1 ≠ X.env.locals ∧ p.1 ∉ X.fs ∧ ∀ v, p.2.data ≠ .cell v) : Inv X pins' σ H s :=
  ⟨I.ok, I.os, I.bare, I.base, I.loc, I.cell, I.free, I.freeC, fun p hp => (List.mem_append.mp hp).elim (fun z => I.pin p (List.mem_append_left _ z)) (h p), I.hok, I.len⟩

theorem nodup_ix {N : List Str} (hN : N.Nodup) {i j : Nat} {x : Str} (a : N[i]? = some x) (b : N[j]? = some x) : i = j := by
  obtain ⟨h1, e1⟩ := List.getElem?_eq_some_iff.mp a
  obtain ⟨h2, e2⟩ := List.getElem?_eq_some_iff.mp b
  exact (List.getElem_inj hN).mp (e1.trans e2.symm)

theorem store_ok2 {M : Model} {A : Around} {E : Value → Shared → Prop} {i : Nat} {x : Str} {v : V} {u : Value} {Q : Unit → Shared → Prop} (I : Inv X pins σ H s) (hN : X.N.Nodup) (hi : X.N[i]? = some x) (hx : Loc X.env.scope x) (r : RelV v u)
    (h : ∀ s', Inv X pins (σ.set i (some v)) H s' → (∃ a, Heap.SameBut a s.heap s'.heap ∧ (a = X.env.locals ∨ X.env.cells.lookup x = some a)) → Q () s') (hf : X.fn x = true ∨ X.env.scope.names.lookup x = some .local := by first | exact .inl rfl | exact .inr rfl | assumption) : wpAny M A (storeName X.env x u) Q E s := by
  obtain ⟨m, hn, hl⟩ := id I.loc
  have hcls : (X.env.scope.kind == .class || (X.env.scope.kind == .module && X.env.locals != X.env.globals)) = false := by rw [I.ok.kind]; rfl
  have hiσ : i < σ.length := by rw [I.len]; exact (List.getElem?_eq_some_iff.mp hi).1
  have cne := I.cne
  have tracked : ∀ {a : Addr} {h' : Heap}, (∃ o, s.heap.get? a = some o ∧ H a = none) → Heap.SameBut a s.heap h' → HOk X.prog X.w H h' := fun {a h'} ha hs b ob e => by
    obtain ⟨_, _, hfree⟩ := ha
    refine (I.hok b ob e).stay (fun c w' hc q => (hs.2 c ?_).trans q) (fun _ q => q) fun _ _ q => q
    rintro rfl
    rcases hc with rfl | hc
    · rw [hfree] at e; cases e
    · rw [hfree] at hc; cases hc
  rcases hx with hk | hk
  · refine wpAny_storeName_local hk hn (fun h' hn' hs => ?_) hcls
    obtain ⟨oL, _, _, hoL, _⟩ := id hn
    refine h _ ⟨I.ok, I.os, I.bare, ⟨fun b o e n hb hx => ?_, fun b o e n hb hx => ?_, I.base.free, fun b o e hx => ?_, I.base.tups, I.base.frzs, I.base.tbls⟩, ⟨_, hn', fun j y v' e1 e2 e3 => ?_⟩, fun y c e => ?_, I.free, I.freeC, fun p hp => ?_, tracked ⟨oL, hoL, I.free⟩ hs, by simpa using I.len⟩ ⟨_, hs, .inl rfl⟩
    · exact (hs.2 b (Nat.ne_of_lt (Nat.lt_of_lt_of_le (Heap.lt_size e) I.ok.above))).trans (I.base.keep b o e n hb hx)
    · obtain ⟨sl, e1⟩ := I.base.slot b o e n hb hx
      exact ⟨sl, (hs.2 b (Nat.ne_of_lt (Nat.lt_of_lt_of_le (Heap.lt_size e) I.ok.above))).trans e1⟩
    · obtain ⟨o', e1⟩ := I.base.there b o e hx
      exact ⟨o', (hs.2 b (Nat.ne_of_lt (Nat.lt_of_lt_of_le (Heap.lt_size e) I.ok.above))).trans e1⟩
    · by_cases hj : j = i
      · subst hj
        rw [hi] at e1; cases e1
        rw [List.getElem?_set_self hiσ] at e2
        cases e2
        exact ⟨u, r, .inl ⟨hk, by simp⟩⟩
      · rw [List.getElem?_set_ne (Ne.symm hj)] at e2
        obtain ⟨u', r', q⟩ := hl j y v' e1 e2 e3
        refine ⟨u', r', ?_⟩
        rcases q with ⟨k, e⟩ | ⟨k, c, e, z⟩
        · refine .inl ⟨k, ?_⟩
          have : y ≠ x := fun e => hj (nodup_ix hN e1 (e ▸ hi))
          simp [this, e]
        · exact .inr ⟨k, c, e, z.sameBut hs (cne y c e)⟩
    · obtain ⟨w', z⟩ := I.cell y c e
      exact ⟨w', z.sameBut hs (cne y c e)⟩
    · obtain ⟨e, n, ne, nf, d⟩ := I.pin p hp
      exact ⟨(hs.2 p.1 ne).trans e, n, ne, nf, d⟩
  · have hfn : X.fn x = true := by
      rcases hf with z | z
      · exact z
      · rw [z] at hk; cases hk
    obtain ⟨c, hc⟩ := I.ok.has x (.inl hk)
    obtain ⟨w', z⟩ := I.cell x c hc
    refine wpAny_storeName_cell I.ok.kind hk hc z (fun h' hc' hs => ?_)
    obtain ⟨oc, hoc, hocd⟩ := id z
    refine h { s with heap := h' } ⟨I.ok, I.os, I.bare, ⟨fun b o e n hb hx => ?_, fun b o e n hb hx => ?_, I.base.free, fun b o e hx => ?_, I.base.tups, I.base.frzs, I.base.tbls⟩, ⟨m, hn.sameBut hs (Ne.symm (cne x c hc)), fun j y v' e1 e2 e3 => ?_⟩, fun y c' e => ?_, I.free, I.freeC, fun p hp => ?_, tracked ⟨oc, hoc, I.freeC x c hc⟩ hs, by simpa using I.len⟩ ⟨c, hs, .inr hc⟩
    · exact (hs.2 b (Nat.ne_of_lt (Nat.lt_of_lt_of_le (Heap.lt_size e) (I.ok.cab x c hfn hc)))).trans (I.base.keep b o e n hb hx)
    · obtain ⟨sl, e1⟩ := I.base.slot b o e n hb hx
      exact ⟨sl, (hs.2 b (Nat.ne_of_lt (Nat.lt_of_lt_of_le (Heap.lt_size e) (I.ok.cab x c hfn hc)))).trans e1⟩
    · obtain ⟨o', e1⟩ := I.base.there b o e hx
      exact ⟨o', (hs.2 b (Nat.ne_of_lt (Nat.lt_of_lt_of_le (Heap.lt_size e) (I.ok.cab x c hfn hc)))).trans e1⟩
    · by_cases hj : j = i
      · subst hj
        rw [hi] at e1; cases e1
        rw [List.getElem?_set_self hiσ] at e2
        cases e2
        exact ⟨u, r, .inr ⟨.inl hk, c, hc, hc'⟩⟩
      · rw [List.getElem?_set_ne (Ne.symm hj)] at e2
        obtain ⟨u', r', q⟩ := hl j y v' e1 e2 e3
        refine ⟨u', r', ?_⟩
        rcases q with q | ⟨k, c', e, z'⟩
        · exact .inl q
        · refine .inr ⟨k, c', e, z'.sameBut hs ?_⟩
          rintro rfl
          exact hj (nodup_ix hN e1 (I.ok.inj _ _ _ e hc ▸ hi))
    · by_cases hcc : c' = c
      · subst hcc; exact ⟨_, hc'⟩
      · obtain ⟨w2, z2⟩ := I.cell y c' e
        exact ⟨w2, z2.sameBut hs hcc⟩
    · obtain ⟨e, n, ne, nf, d⟩ := I.pin p hp
      refine ⟨(hs.2 p.1 ?_).trans e, n, ne, nf, d⟩
      intro q
      rw [q, hoc] at e
      have q' : oc = p.2 := Option.some.inj e
      exact d w' (by rw [← q']; exact hocd)
theorem store_ok {M : Model} {A : Around} {E : Value → Shared → Prop} {i : Nat} {x : Str} {v : V} {u : Value} {Q : Unit → Shared → Prop} (I : Inv X pins σ H s) (hN : X.N.Nodup) (hi : X.N[i]? = some x) (hx : Loc X.env.scope x) (r : RelV v u)
    (h : ∀ s', Inv X pins (σ.set i (some v)) H s' → Q () s') (hf : X.fn x = true ∨ X.env.scope.names.lookup x = some .local := by first | exact .inl rfl | exact .inr rfl | assumption) : wpAny M A (storeName X.env x u) Q E s :=
  store_ok2 I hN hi hx r (fun s' I' _ => h s' I') hf
theorem Inv.call' {s' : Shared} {ch : List Addr} (I : Inv X pins σ H s) (ho : s'.os = s.os) (u : Un (frs X.stack) ch H H' s.heap s'.heap) (hok : HOk X.prog X.w H' s'.heap) (hg : AllBare s'.gens)
    (hch : ∀ b ∈ ch, (b ∈ X.ex ∨ X.s₀.heap.objs.size ≤ b) ∧ b ≠ X.env.locals ∧ (∀ x c, X.env.cells.lookup x = some c → c ≠ b) ∧ ∀ p ∈ X.pn ++ pins, p.1 ≠ b) : Inv X pins σ H' s' := by
  obtain ⟨h', g', d', t', o'⟩ := s'
  have e : o' = s.os := ho
  subst e
  exact I.call (g' := g') (t' := t') (d' := d') u hok hg hch
end

noncomputable abbrev XK := Value → Option Addr → Hp → Prop
noncomputable abbrev St := List (Option V)
noncomputable abbrev VK := V → Hp → Prop
noncomputable abbrev TE := St → Hp → VK → Prop
noncomputable abbrev TT := St → Hp → (Bool → Hp → Prop) → Prop
noncomputable abbrev TA := St → Hp → (List V → Hp → Prop) → Prop
structure Ends where
  nx : St → Hp → Prop
  rt : VK
  bk : St → Hp → Prop := fun _ _ => False
  ct : St → Hp → Prop := fun _ _ => False
noncomputable abbrev TS := Ends → St → Hp → Prop

noncomputable def EP (X : Cx) (pins : List (Addr × Obj)) (σ : St) (Q : VK) (u : Value) (s' : Shared) : Prop := ∃ v H', Inv X pins σ H' s' ∧ RelV v u ∧ Q v H'
noncomputable def TP (X : Cx) (pins : List (Addr × Obj)) (σ : St) (Q : Bool → Hp → Prop) (b : Bool) (s' : Shared) : Prop := ∃ H', Inv X pins σ H' s' ∧ Q b H'
noncomputable def AP (X : Cx) (pins : List (Addr × Obj)) (σ : St) (Q : List V → Hp → Prop) (us : List Value) (s' : Shared) : Prop := ∃ vs H', Inv X pins σ H' s' ∧ Vals vs us ∧ Q vs H'
noncomputable def SP (X : Cx) (pins : List (Addr × Obj)) (D : Ends) (f : Flow) (s' : Shared) : Prop :=
  match f with
  | .next => ∃ σ' H', Inv X pins σ' H' s' ∧ D.nx σ' H'
  | .brk => ∃ σ' H', Inv X pins σ' H' s' ∧ D.bk σ' H'
  | .cont => ∃ σ' H', Inv X pins σ' H' s' ∧ D.ct σ' H'
  | .ret u => ∃ v σ' H', Inv X pins σ' H' s' ∧ RelV v u ∧ D.rt v H'

noncomputable def PE (X : Cx) (e : Expr) (t : TE) : Prop :=
  ∀ (pins : List (Addr × Obj)) (s : Shared) (σ : St) (H : Hp) (Q : VK), Inv X pins σ H s → t σ H Q → wpAny (model X.prog X.w) X.A (eval e X.env) (EP X pins σ Q) X.xe s
noncomputable def PT (X : Cx) (e : Expr) (t : TT) : Prop :=
  ∀ (pins : List (Addr × Obj)) (s : Shared) (σ : St) (H : Hp) (Q : Bool → Hp → Prop), Inv X pins σ H s → t σ H Q → wpAny (model X.prog X.w) X.A (isTrue e X.env (eval e X.env)) (TP X pins σ Q) X.xe s
noncomputable def PW (X : Cx) (e : Expr) (t : TT) : Prop :=
  ∀ (whole : Sem Value) (pins : List (Addr × Obj)) (s : Shared) (σ : St) (H : Hp) (Q : Bool → Hp → Prop), Inv X pins σ H s → t σ H Q → wpAny (model X.prog X.w) X.A (isTrue e X.env whole) (TP X pins σ Q) X.xe s
theorem PW.pt {X : Cx} {e : Expr} {t : TT} (h : PW X e t) : PT X e t := h _
noncomputable def PA (X : Cx) (es : List Expr) (t : TA) : Prop :=
  ∀ (pos : Pos) (pins : List (Addr × Obj)) (s : Shared) (σ : St) (H : Hp) (Q : List V → Hp → Prop), Inv X pins σ H s → t σ H Q → wpAny (model X.prog X.w) X.A (spliced (backTo pos (starEach es X.env))) (AP X pins σ Q) X.xe s
noncomputable def PS (X : Cx) (st : Stmt) (t : TS) : Prop :=
  ∀ (pins : List (Addr × Obj)) (s : Shared) (σ : St) (H : Hp) (D : Ends), Inv X pins σ H s → t D σ H → wpAny (model X.prog X.w) X.A (exec st X.env) (SP X pins D) X.xe s
noncomputable def PSs (X : Cx) (st : List Stmt) (t : TS) : Prop :=
  ∀ (pins : List (Addr × Obj)) (s : Shared) (σ : St) (H : Hp) (D : Ends), Inv X pins σ H s → t D σ H → wpAny (model X.prog X.w) X.A (execs st X.env) (SP X pins D) X.xe s
theorem thn {α : Type} {t : Sem α} {Q Q' : α → Shared → Prop} {M : Model} {A : Around} {E : Value → Shared → Prop} {s : Shared} (h : wpAny M A t Q E s) (hQ : ∀ a s, Q a s → Q' a s) : wpAny M A t Q' E s := wpAny_mono h hQ fun _ _ x => x
end L2

namespace L2
open PySem PySem.Spec PyProof.Rows
section
variable {X : Cx}

noncomputable def tVar (i : Nat) : TE := fun σ H Q => ∃ v, σ[i]? = some (some v) ∧ Q v H
noncomputable def tC (v : V) : TE := fun _ H Q => Q v H
theorem pe_var {i : Nat} {x : Str} {pos : Pos} (hN : X.N[i]? = some x) (hv : Vis X.env.scope x) (hd : (x == ("__debug__" : Str)) = false := by decide) (hcd : (x == ("__classdict__" : Str)) = false := by decide) : PE X (.Name x pos) (tVar i) := by
  intro pins s σ H Q I h
  obtain ⟨v, e, h⟩ := h
  obtain ⟨m, hn, hl⟩ := I.loc
  obtain ⟨u, r, l⟩ := hl i x v hN e hv
  have fin : EP X pins σ Q u s := ⟨v, H, I, r, h⟩
  rcases l with ⟨hk, hm⟩ | ⟨hk, c, hc, hcell⟩
  · exact wpAny_Name (wpAny_loadName_local I.ok.kind hk hn hm fin) hd
  · rcases hk with hk | hk
    · exact wpAny_Name (wpAny_loadName_cell I.ok.kind hk hc hcell fin) hd
    · exact wpAny_Name (wpAny_loadName_free I.ok.kind hk hc hcell fin hcd) hd
theorem pe_int {i j pos} : PE X (.Constant (.int i) j pos) (tC (.int i)) := fun _ _ _ H _ I h => wpAny_Constant_int ⟨.int i, H, I.tok _, ⟨_, rfl⟩, h⟩
theorem pe_bl {b j pos} : PE X (.Constant (.bool b) j pos) (tC (.bl b)) := fun _ _ _ H _ I h => Constant_bool ⟨.bl b, H, I, rfl, h⟩
theorem pe_non {j pos} : PE X (.Constant .none j pos) (tC .non) := fun _ _ _ H _ I h => Constant_none ⟨.non, H, I, rfl, h⟩
theorem pe_str {x j pos} : PE X (.Constant (.str x) j pos) (tC (.str x)) := fun _ _ _ H _ I h => Calls.Constant_str ⟨.str x, H, I.tok _, ⟨_, rfl⟩, h⟩

noncomputable def Gl (X : Cx) (x : Str) : Prop := X.env.kindOf x = some .globalImplicit
theorem ld_glob {E : Value → Shared → Prop} {pins : List (Addr × Obj)} {s : Shared} {σ : St} {H : Hp} {x : Str} {u : Value} {pos : Pos} {Q : Value → Shared → Prop} (I : Inv X pins σ H s) (hg : Gl X x) (hm : X.mg x = some u) (h : Q u s)
    (hd : (x == ("__debug__" : Str)) = false := by decide) : wpAny (model X.prog X.w) X.A (eval (.Name x pos) X.env) Q E s :=
  Calls.Name_function_global I.ok.kind hg (Calls.loadGlobal_global (by rw [I.ok.glob]; exact I.mod.glob.keeps I.bk) hm h) hd
theorem ld_blt {E : Value → Shared → Prop} {pins : List (Addr × Obj)} {s : Shared} {σ : St} {H : Hp} {x : Str} {u : Value} {pos : Pos} {Q : Value → Shared → Prop} (I : Inv X pins σ H s) (hg : Gl X x) (hm : X.mg x = none) (hv : bootBuiltins x = some u) (h : Q u s)
    (hn : x ≠ "__name__" := by decide) (hd : (x == ("__debug__" : Str)) = false := by decide) : wpAny (model X.prog X.w) X.A (eval (.Name x pos) X.env) Q E s := by
  obtain ⟨mb, h1, h2⟩ := I.mod.blt
  exact Calls.Name_function_global I.ok.kind hg (Calls.loadGlobal_builtin (by rw [I.ok.glob]; exact I.mod.glob.keeps I.bk) hm (by rw [I.ok.blt]; exact h1.keeps I.bk) ((h2 x hn).trans hv) h) hd
theorem pe_glob {x : Str} {v : V} {u : Value} {pos : Pos} (hg : Gl X x) (hm : X.mg x = some u) (r : RelV v u) (hd : (x == ("__debug__" : Str)) = false := by decide) : PE X (.Name x pos) (tC v) :=
  fun _ _ _ H _ I h => ld_glob I hg hm ⟨v, H, I, r, h⟩ hd
theorem pe_bltn {x : Str} {v : V} {u : Value} {pos : Pos} (hg : Gl X x) (hm : X.mg x = none) (hv : bootBuiltins x = some u) (r : RelV v u) (hn : x ≠ "__name__" := by decide) (hd : (x == ("__debug__" : Str)) = false := by decide) : PE X (.Name x pos) (tC v) :=
  fun _ _ _ H _ I h => ld_blt I hg hm hv ⟨v, H, I, r, h⟩ hn hd

variable {a b : Expr} {ta tb : TE} {pos : Pos}
noncomputable def PC (X : Cx) (op : CmpOp) (a b : Expr) (t : TE) : Prop :=
  ∀ (pins : List (Addr × Obj)) (s : Shared) (σ : St) (H : Hp) (Q : VK), Inv X pins σ H s → t σ H Q →
    wpAny (model X.prog X.w) X.A (eval a X.env) (fun v s₁ => wpAny (model X.prog X.w) X.A (eval b X.env) (fun u s₂ => wpAny (model X.prog X.w) X.A (compareOp op v u) (EP X pins σ Q) X.xe s₂) X.xe s₁) X.xe s
theorem nobehind (b : Expr) {op : CmpOp} (h : op ≠ .In) (h2 : op ≠ .NotIn) : behindInMarks op b = false := by
  have e1 : (op == CmpOp.In) = false := by cases op <;> first | rfl | exact absurd rfl h
  have e2 : (op == CmpOp.NotIn) = false := by cases op <;> first | rfl | exact absurd rfl h2
  cases b <;> simp [behindInMarks, e1, e2]
noncomputable def tIsN (ta : TE) : TE := fun σ H Q => ta σ H fun x H1 => Q (.bl (decide (x = .non))) H1
noncomputable def tNotN (ta : TE) : TE := fun σ H Q => ta σ H fun x H1 => Q (.bl (!decide (x = .non))) H1
theorem RelV.none_iff {x : V} {v : Value} (r : RelV x v) : (v == Value.none) = decide (x = .non) := by
  cases x with
  | non => cases r; rfl
  | bl _ => cases r; rfl
  | int _ => obtain ⟨t, rfl⟩ := r; rfl
  | str _ => obtain ⟨t, rfl⟩ := r; rfl
  | byt _ => obtain ⟨t, rfl⟩ := r; rfl
  | flt _ => obtain ⟨t, rfl⟩ := r; rfl
  | ref _ => cases r; rfl
  | ty _ => cases r; rfl
theorem pc_isN {j pos'} (ha : PE X a ta) : PC X .Is a (.Constant .none j pos') (tIsN ta) := by
  intro pins s σ H Q I h
  refine thn (ha pins s σ H _ I h) fun v s1 ⟨x, H1, I1, r1, q1⟩ => ?_
  exact Constant_none (is_none_gen ⟨.bl _, H1, I1, by rw [r1.none_iff]; rfl, q1⟩)
noncomputable def tB (t : TE) : TT := fun σ H Q => t σ H fun x H1 => ∃ c, x = .bl c ∧ Q c H1
theorem pe_cmp {op : CmpOp} {t : TE} (h : PC X op a b t) (h1 : behindInMarks op b = false := by first | exact nobehind _ (by decide) (by decide) | rfl) : PE X (.Compare a [op] [b] pos) t := fun pins s σ H Q I hw => wpAny_Compare1 (h pins s σ H Q I hw) h1
theorem pt_val {e : Expr} {t : TE} (h : PE X e t) (he : ∀ whole, isTrue e X.env whole = (do let v ← whole; standAt e.pos; holding [v] (truthy v)) := by intro _; rfl) : PT X e (tB t) := by
  intro pins s σ H Q I hw
  refine isTrue_plain (thn (h pins s σ H _ I hw) fun v s1 ⟨x, H1, I1, r1, q1⟩ => ?_) (he _)
  obtain ⟨d, rfl, q⟩ := q1
  cases r1
  exact wpAny_truthy_bool ⟨H1, I1, q⟩

variable {tA tB' : TT} {rest : List Expr}
noncomputable def tAnd (t u : TT) : TT := fun σ H Q => t σ H fun c H1 => if c = true then u σ H1 Q else Q false H1
noncomputable def tOr (t u : TT) : TT := fun σ H Q => t σ H fun c H1 => if c = true then Q true H1 else u σ H1 Q
noncomputable def tNot (t : TT) : TT := fun σ H Q => t σ H fun c H1 => Q (!c) H1
theorem pw_and1 (ha : PT X a tA) : PW X (.BoolOp .And [a] pos) tA := by
  intro wh pins s σ H Q I h
  refine isTrue_and (thn (ha pins s σ H Q I h) fun c s1 e => ?_)
  cases c with
  | true => exact isTrue_and_nil e
  | false => exact e
theorem pw_or1 (ha : PT X a tA) : PW X (.BoolOp .Or [a] pos) tA := by
  intro wh pins s σ H Q I h
  refine isTrue_or (thn (ha pins s σ H Q I h) fun c s1 e => ?_)
  cases c with
  | false => exact isTrue_or_nil e
  | true => exact e
theorem pw_and (ha : PT X a tA) (hb : PW X (.BoolOp .And (b :: rest) pos) tB') : PW X (.BoolOp .And (a :: b :: rest) pos) (tAnd tA tB') := by
  intro wh pins s σ H Q I h
  refine isTrue_and (thn (ha pins s σ H _ I h) fun c s1 ⟨H1, I1, q1⟩ => ?_)
  cases c with
  | true => exact hb wh pins s1 σ H1 Q I1 q1
  | false => exact ⟨H1, I1, q1⟩
theorem pw_or (ha : PT X a tA) (hb : PW X (.BoolOp .Or (b :: rest) pos) tB') : PW X (.BoolOp .Or (a :: b :: rest) pos) (tOr tA tB') := by
  intro wh pins s σ H Q I h
  refine isTrue_or (thn (ha pins s σ H _ I h) fun c s1 ⟨H1, I1, q1⟩ => ?_)
  cases c with
  | true => exact ⟨H1, I1, q1⟩
  | false => exact hb wh pins s1 σ H1 Q I1 q1
theorem pt_not (ha : PT X a tA) : PT X (.UnaryOp .Not a pos) (tNot tA) := by
  intro pins s σ H Q I h
  exact isTrue_not (ha pins s σ H (fun c H1 => Q (!c) H1) I h)
noncomputable def tAndV (ta tb : TE) : TE := fun σ H Q => ta σ H fun x H1 => ∃ c, x = .bl c ∧ if c = true then tb σ H1 Q else Q (.bl false) H1
noncomputable def tOrV (ta tb : TE) : TE := fun σ H Q => ta σ H fun x H1 => ∃ c, x = .bl c ∧ if c = true then Q (.bl true) H1 else tb σ H1 Q
noncomputable def tNotV (ta : TE) : TE := fun σ H Q => ta σ H fun x H1 => ∃ c, x = .bl c ∧ Q (.bl (!c)) H1
theorem pe_one {op} {t : TE} (h : PE X a t) : PE X (.BoolOp op [a] pos) t := fun pins s σ H Q I hw => BoolOp_one (h pins s σ H Q I hw)
theorem pe_and (ha : PE X a ta) (hb : PE X (.BoolOp .And (b :: rest) pos) tb) : PE X (.BoolOp .And (a :: b :: rest) pos) (tAndV ta tb) := by
  intro pins s σ H Q I h
  refine BoolOp_and (thn (ha pins s σ H _ I h) fun v s1 ⟨x, H1, I1, r1, q1⟩ => ?_)
  obtain ⟨c, rfl, q1⟩ := q1
  cases r1
  refine wpAny_truthy_bool ?_
  cases c with
  | true => exact hb pins s1 σ H1 Q I1 q1
  | false => exact ⟨.bl false, H1, I1, rfl, q1⟩
theorem pe_or (ha : PE X a ta) (hb : PE X (.BoolOp .Or (b :: rest) pos) tb) : PE X (.BoolOp .Or (a :: b :: rest) pos) (tOrV ta tb) := by
  intro pins s σ H Q I h
  refine BoolOp_or (thn (ha pins s σ H _ I h) fun v s1 ⟨x, H1, I1, r1, q1⟩ => ?_)
  obtain ⟨c, rfl, q1⟩ := q1
  cases r1
  refine wpAny_truthy_bool ?_
  cases c with
  | false => exact hb pins s1 σ H1 Q I1 q1
  | true => exact ⟨.bl true, H1, I1, rfl, q1⟩
theorem pe_not (ha : PE X a ta) : PE X (.UnaryOp .Not a pos) (tNotV ta) := by
  intro pins s σ H Q I h
  refine UnaryOp_ (thn (ha pins s σ H _ I h) fun v s1 ⟨x, H1, I1, r1, q1⟩ => ?_)
  obtain ⟨c, rfl, q1⟩ := q1
  cases r1
  exact not_of (wpAny_truthy_bool ⟨.bl (!c), H1, I1, rfl, q1⟩)
end
end L2

namespace L2
open PySem PySem.Spec PyProof.Rows

noncomputable def SqL (K : PySem.W.Frag) (H : Hp) (a : Addr) (xs : List V) : Prop :=
  Rd H a (.lst xs) ∨
    ∃ (o : Obj) (its : Array Value) (n : Nat), K.lookup a = some o ∧ o.cls = .type "list" ∧ o.dict = none ∧ o.data = .seq its n ∧ its.size ≤ sizeLine ∧ Vals xs its.toList
noncomputable def SqT (K : PySem.W.Frag) (H : Hp) (a : Addr) (xs : List V) : Prop :=
  Rd H a (.tup xs) ∨
    ∃ (o : Obj) (its : Array Value) (n : Nat), K.lookup a = some o ∧ o.cls = .type "tuple" ∧ o.data = .seq its n ∧ its.size ≤ sizeLine ∧ Vals xs its.toList
noncomputable def absV : Value → Option V
  | .none => some .non
  | .bool b => some (.bl b)
  | .int i _ => some (.int i)
  | .str x _ => some (.str x)
  | .bytes b _ => some (.byt b)
  | .float b _ => some (.flt b)
  | .ref a => some (.ref a)
  | .type n => some (.ty n)
  | _ => none
theorem RelV.abs {x : V} {u : Value} (r : RelV x u) : absV u = some x := by
  cases x with
  | non => cases r; rfl
  | bl _ => cases r; rfl
  | int _ => obtain ⟨t, rfl⟩ := r; rfl
  | str _ => obtain ⟨t, rfl⟩ := r; rfl
  | byt _ => obtain ⟨t, rfl⟩ := r; rfl
  | flt _ => obtain ⟨t, rfl⟩ := r; rfl
  | ref _ => cases r; rfl
  | ty _ => cases r; rfl
theorem RelV.inj {x y : V} {u : Value} (r : RelV x u) (q : RelV y u) : x = y := Option.some.inj (r.abs.symm.trans q.abs)
theorem Vals.inj : ∀ {xs ys : List V} {us : List Value}, Vals xs us → Vals ys us → xs = ys
  | _, _, _, .nil, .nil => rfl
  | _, _, _, .cons r t, .cons r' t' => by rw [r.inj r', Vals.inj t t']
section
variable {X : Cx} {pins : List (Addr × Obj)} {σ : St} {H : Hp} {s : Shared} {a : Addr} {xs ys : List V}
theorem SqL.of {K : PySem.W.Frag} (h : H a = some (.lst xs)) : SqL K H a xs := .inl (.inl h)
theorem SqT.of {K : PySem.W.Frag} (h : H a = some (.tup xs)) : SqT K H a xs := .inl (.inl h)
theorem Inv.list (I : Inv X pins σ H s) (h : SqL X.K H a xs) : ∃ its : List Value, Vals xs its ∧ PlainL s.heap a its.toArray ∧ xs.length ≤ sizeLine := by
  rcases h with h | ⟨o, its, n, hk, hc, hd, hs, hz, r⟩
  · obtain ⟨z, its, n, r, e⟩ := h.ok I.hok
    exact ⟨its, r, ⟨_, n, e, rfl, rfl, rfl⟩, z⟩
  · refine ⟨its.toList, r, ⟨o, n, I.kIn a o hk, hc, hd, by simpa using hs⟩, ?_⟩
    have e := r.length
    simp only [Array.length_toList] at e
    omega
theorem Inv.tuple (I : Inv X pins σ H s) (h : SqT X.K H a xs) : ∃ its : List Value, Vals xs its ∧ IsTup s.heap a its.toArray ∧ xs.length ≤ sizeLine := by
  rcases h with h | ⟨o, its, n, hk, hc, hs, hz, r⟩
  · obtain ⟨z, its, r, p⟩ := h.ok I.hok
    exact ⟨its, r, p, z⟩
  · refine ⟨its.toList, r, ⟨o, I.kIn a o hk, hc, n, by simpa using hs⟩, ?_⟩
    have e := r.length
    simp only [Array.length_toList] at e
    omega
theorem Inv.list_inj (I : Inv X pins σ H s) (h : SqL X.K H a xs) (h' : SqL X.K H a ys) : xs = ys := by
  obtain ⟨its, r, ⟨o, n, e, _, _, d⟩, _⟩ := I.list h
  obtain ⟨its', r', ⟨o', n', e', _, _, d'⟩, _⟩ := I.list h'
  rw [e] at e'; cases e'
  rw [d] at d'
  injection d' with d1 _
  have : its = its' := by simpa using congrArg Array.toList d1
  subst this
  exact r.inj r'
theorem Inv.tuple_inj (I : Inv X pins σ H s) (h : SqT X.K H a xs) (h' : SqT X.K H a ys) : xs = ys := by
  obtain ⟨its, r, ⟨o, e, _, n, d⟩, _⟩ := I.tuple h
  obtain ⟨its', r', ⟨o', e', _, n', d'⟩, _⟩ := I.tuple h'
  rw [e] at e'; cases e'
  rw [d] at d'
  injection d' with d1 _
  have : its = its' := by simpa using congrArg Array.toList d1
  subst this
  exact r.inj r'
end

noncomputable abbrev Cx.wish (X : Cx) (E : Value → Shared → Prop) : Cx := { X with xe := E }
noncomputable abbrev Cx.nox (X : Cx) : Cx := X.wish fun _ _ => False
theorem Cx.Ok.wish {X : Cx} (ok : X.Ok) (E : Value → Shared → Prop) : (X.wish E).Ok :=
  ⟨ok.mod, ok.kind, ok.glob, ok.blt, ok.above, ok.inj, ok.has, ok.cab, ok.hd, ok.frames, ok.stk, ok.exf, ok.bs, ok.bsz, ok.noex, ok.exfs, ok.funs, ok.frf⟩
theorem Cx.Ok.unwish {X : Cx} {E : Value → Shared → Prop} (ok : (X.wish E).Ok) : X.Ok :=
  ⟨ok.mod, ok.kind, ok.glob, ok.blt, ok.above, ok.inj, ok.has, ok.cab, ok.hd, ok.frames, ok.stk, ok.exf, ok.bs, ok.bsz, ok.noex, ok.exfs, ok.funs, ok.frf⟩
section
variable {X : Cx} {pins : List (Addr × Obj)} {σ : St} {H : Hp} {s : Shared} {E : Value → Shared → Prop}
theorem Inv.wish (I : Inv X pins σ H s) (E : Value → Shared → Prop) : Inv (X.wish E) pins σ H s := ⟨I.ok.wish E, I.os, I.bare, I.base, I.loc, I.cell, I.free, I.freeC, I.pin, I.hok, I.len⟩
theorem Inv.unwish (I : Inv (X.wish E) pins σ H s) : Inv X pins σ H s := ⟨I.ok.unwish, I.os, I.bare, I.base, I.loc, I.cell, I.free, I.freeC, I.pin, I.hok, I.len⟩
theorem SP.unwish {D : Ends} {f : Flow} {s' : Shared} (h : SP (X.wish E) pins D f s') : SP X pins D f s' := by
  cases f with
  | next => obtain ⟨σ', H', I, q⟩ := h; exact ⟨σ', H', I.unwish, q⟩
  | brk => obtain ⟨σ', H', I, q⟩ := h; exact ⟨σ', H', I.unwish, q⟩
  | cont => obtain ⟨σ', H', I, q⟩ := h; exact ⟨σ', H', I.unwish, q⟩
  | ret u => obtain ⟨v, σ', H', I, r, q⟩ := h; exact ⟨v, σ', H', I.unwish, r, q⟩
theorem PE.nox {e : Expr} {t : TE} (h : PE X.nox e t) : PE X e t := fun pins s σ H Q I hw =>
  wpAny_mono (h pins s σ H Q (I.wish _) hw) (fun _ _ ⟨v, H', I', r, q⟩ => ⟨v, H', I'.unwish, r, q⟩) fun _ _ z => False.elim z
theorem PT.nox {e : Expr} {t : TT} (h : PT X.nox e t) : PT X e t := fun pins s σ H Q I hw =>
  wpAny_mono (h pins s σ H Q (I.wish _) hw) (fun _ _ ⟨H', I', q⟩ => ⟨H', I'.unwish, q⟩) fun _ _ z => False.elim z
theorem PSs.nox {st : List Stmt} {t : TS} (h : PSs X.nox st t) : PSs X st t := fun pins s σ H D I hw =>
  wpAny_mono (h pins s σ H D (I.wish _) hw) (fun _ _ q => q.unwish) fun _ _ z => False.elim z
end

section
variable {X : Cx} {st : Stmt} {rest : List Stmt} {t u : TS} {e : Expr} {te : TE} {pos : Pos}
noncomputable def tNext : TS := fun D σ H => D.nx σ H
noncomputable def tSeq (t u : TS) : TS := fun D σ H => t { D with nx := u D } σ H
theorem pss_nil : PSs X [] tNext := fun _ _ σ H _ I h => wpAny_execs_nil ⟨σ, H, I, h⟩
theorem pss_cons (h1 : PS X st t) (h2 : PSs X rest u) : PSs X (st :: rest) (tSeq t u) := by
  intro pins s σ H D I h
  refine wpAny_execs_cons (thn (h1 pins s σ H { D with nx := u D } I h) fun f s1 q => ?_)
  cases f with
  | next =>
    obtain ⟨σ', H', I', q⟩ := q
    exact h2 pins s1 σ' H' D I' q
  | ret v => exact q
  | brk => exact q
  | cont => exact q
theorem pss_one (h1 : PS X st t) : PSs X [st] t := by
  intro pins s σ H D I h
  refine wpAny_execs_cons (thn (h1 pins s σ H D I h) fun f s1 q => ?_)
  cases f with
  | next => exact wpAny_execs_nil q
  | ret v => exact q
  | brk => exact q
  | cont => exact q
theorem Inv.quiet {pins : List (Addr × Obj)} {σ : St} {H : Hp} {s : Shared} (I : Inv X pins σ H s) : interactive X.env = false := by simp [interactive, I.ok.kind]
noncomputable def tDrop (te : TE) : TS := fun D σ H => te σ H fun _ H1 => D.nx σ H1
theorem ps_expr (he : PE X e te) (hs : swapsWith e none pos.line X.env = pure false := by rfl) : PS X (.Expr e pos) (tDrop te) := by
  intro pins s σ H D I h
  exact wpAny_Expr_any (thn (he pins s σ H _ I h) fun v s1 ⟨x, H1, I1, r1, q1⟩ => ⟨σ, H1, I1, q1⟩) I.quiet hs
noncomputable def tRet (te : TE) : TS := fun D σ H => te σ H D.rt
theorem ps_ret (he : PE X e te) : PS X (.Return (some e) pos) (tRet te) := by
  intro pins s σ H D I h
  exact wpAny_Return_some (thn (he pins s σ H _ I h) fun v s1 ⟨x, H1, I1, r1, q1⟩ => ⟨x, σ, H1, I1, r1, q1⟩)
noncomputable def tIfS (c : TT) (t u : TS) : TS := fun D σ H => c σ H fun b H1 => if b = true then t D σ H1 else u D σ H1
theorem ps_if {c : Expr} {a b : List Stmt} {tc : TT} (hc : PT X c tc) (ha : PSs X a t) (hb : PSs X b u) : PS X (.If c a b pos) (tIfS tc t u) := by
  intro pins s σ H D I h
  refine wpAny_If (thn (hc pins s σ H _ I h) fun d s1 ⟨H1, I1, q1⟩ => ?_)
  cases d with
  | true => exact ha pins s1 σ H1 D I1 q1
  | false => exact hb pins s1 σ H1 D I1 q1
end

noncomputable abbrev TG := V → St → Hp → (St → Hp → Prop) → Prop
noncomputable abbrev TGs := List V → St → Hp → (St → Hp → Prop) → Prop
noncomputable def PG (X : Cx) (target : Expr) (t : TG) : Prop :=
  ∀ (pins : List (Addr × Obj)) (s : Shared) (σ : St) (H : Hp) (v : V) (u : Value) (Q : St → Hp → Prop), Inv X pins σ H s → RelV v u → t v σ H Q →
    wpAny (model X.prog X.w) X.A (assign target X.env u) (fun _ s' => ∃ σ' H', Inv X pins σ' H' s' ∧ Q σ' H') X.xe s
noncomputable def PGs (X : Cx) (ts : List Expr) (t : TGs) : Prop :=
  ∀ (pins : List (Addr × Obj)) (s : Shared) (σ : St) (H : Hp) (vs : List V) (us : List Value) (Q : St → Hp → Prop), Inv X pins σ H s → Vals vs us → t vs σ H Q →
    wpAny (model X.prog X.w) X.A (assignInOrder ((assignEach ts X.env).map (·.2)) us) (fun _ s' => ∃ σ' H', Inv X pins σ' H' s' ∧ Q σ' H') X.xe s
noncomputable abbrev TSet := V → V → V → Hp → (Hp → Prop) → Prop
noncomputable def PSet (X : Cx) (t : TSet) : Prop :=
  ∀ (pins : List (Addr × Obj)) (s : Shared) (σ : St) (H : Hp) (o i v : V) (ov iv u : Value) (Q : Hp → Prop), Inv X pins σ H s → RelV o ov → RelV i iv → RelV v u → t o i v H Q →
    wpAny (model X.prog X.w) X.A (setItem ov iv u) (fun _ s' => ∃ H', Inv X pins σ H' s' ∧ Q H') X.xe s
noncomputable abbrev TIp := V → V → Hp → VK → Prop
section
variable {X : Cx} {pos : Pos}
noncomputable def gName (i : Nat) : TG := fun v σ H Q => Q (σ.set i (some v)) H
theorem pg_name {i : Nat} {x : Str} (hN : X.N.Nodup) (hi : X.N[i]? = some x) (hx : Loc X.env.scope x) (hf : X.fn x = true ∨ X.env.scope.names.lookup x = some .local := by first | exact .inl rfl | exact .inr rfl | assumption) : PG X (.Name x pos) (gName i) := by
  intro pins s σ H v u Q I r h
  exact wpAny_assign_Name (store_ok I hN hi hx r (fun s' I' => ⟨_, H, I', h⟩) hf)
noncomputable def gNil : TGs := fun vs σ H Q => vs = [] ∧ Q σ H
noncomputable def gCons (t : TG) (u : TGs) : TGs := fun vs σ H Q => ∃ v r, vs = v :: r ∧ t v σ H fun σ' H' => u r σ' H' Q
theorem pgs_nil : PGs X [] gNil := by
  intro pins s σ H vs us Q I r h
  obtain ⟨e, h⟩ := h
  subst e
  cases r
  exact assignInOrder_nil ⟨σ, H, I, h⟩
theorem pgs_cons {e : Expr} {es : List Expr} {t : TG} {u : TGs} (h1 : PG X e t) (h2 : PGs X es u)
    (hs : (assignEach (e :: es) X.env).map (·.2) = assign e X.env :: (assignEach es X.env).map (·.2) := by rfl) : PGs X (e :: es) (gCons t u) := by
  intro pins s σ H vs us Q I r h
  obtain ⟨v, vr, e1, h⟩ := h
  subst e1
  cases r with
  | cons r rr =>
    rw [hs]
    refine assignInOrder_cons (thn (h1 pins s σ H _ _ _ I r h) fun _ s1 ⟨σ1, H1, I1, q1⟩ => ?_)
    exact h2 pins s1 σ1 H1 _ _ Q I1 rr q1
noncomputable def gTup (K : PySem.W.Frag) (n : Nat) (t : TGs) : TG := fun v σ H Q => ∃ a xs, v = .ref a ∧ SqT K H a xs ∧ xs.length = n ∧ t xs σ H Q
theorem pg_tup {es : List Expr} {k : Nat} {t : TGs} {n : Nat} (hc : X.calm = true) (h : PGs X es t)
    (hn : (assignEach es X.env).length = n := by rfl) (hst : (assignEach es X.env).findIdx? (·.1) = none := by rfl) : PG X (.Tuple es k pos) (gTup X.K n t) := by
  intro pins s σ H v u Q I r hw
  obtain ⟨a, xs, e1, hq, hl, hw⟩ := hw
  subst e1
  cases r
  obtain ⟨its, rv, ht, hz⟩ := I.tuple hq
  refine assign_Tuple_tuple (I.ok.hd hc) ht (by simp [hn, ← hl, rv.length]) hst fun h' hx => ?_
  have I1 : Inv X pins σ H { s with heap := h' } := I.kept (t' := s.toks) fun b o e => hx b o (Nat.ne_of_lt (Heap.lt_size e)) e
  exact h pins _ σ H xs _ Q I1 (by simpa using rv) hw
noncomputable def gSub (to ti : TE) (t : TSet) : TG := fun v σ H Q => to σ H fun o H1 => ti σ H1 fun i H2 => t o i v H2 fun H3 => Q σ H3
theorem pg_sub {o i : Expr} {to ti : TE} {t : TSet} (ho : PE X o to) (hi : PE X i ti) (hs : PSet X t)
    (ha : ∀ v, assign (.Subscript o i pos) X.env v = (do
      let ov ← holding [v] (eval o X.env)
      let iv ← holding [v, ov] (eval i X.env)
      standAt pos
      holding [v, ov, iv] (setItem ov iv v)
      release [v, ov, iv] []) := by intro _; rfl) : PG X (.Subscript o i pos) (gSub to ti t) := by
  intro pins s σ H v u Q I r h
  rw [ha]
  refine wpAny_bind (wpAny_holding (thn (ho pins s σ H _ I h) fun ov s1 ⟨x, H1, I1, r1, q1⟩ => ?_))
  refine wpAny_bind (wpAny_holding (thn (hi pins s1 σ H1 _ I1 q1) fun iv s2 ⟨y, H2, I2, r2, q2⟩ => ?_))
  refine wpAny_bind (wpAny_standAt (wpAny_bind (wpAny_holding (thn (hs pins s2 σ H2 x y v ov iv u _ I2 r1 r2 r q2) fun _ s3 ⟨H3, I3, q3⟩ => ?_))))
  exact wpAny_release ⟨σ, H3, I3, q3⟩
noncomputable def tAsg (te : TE) (g : TG) : TS := fun D σ H => te σ H fun x H1 => g x σ H1 D.nx
theorem ps_asg {tg e : Expr} {te : TE} {g : TG} (he : PE X e te) (hg : PG X tg g) (hs : swapsWithSole [tg] e pos.line X.env = pure false := by rfl) (hw : swappedStores [tg] e X.env = pure none := by rfl)
    (h1 : (assignEach [tg] X.env).map (·.2) = [assign tg X.env] := by rfl) : PS X (.Assign [tg] e pos) (tAsg te g) := by
  intro pins s σ H D I h
  refine wpAny_Assign_stores (thn (he pins s σ H _ I h) fun v s1 ⟨x, H1, I1, r1, q1⟩ => ?_) hs hw
  rw [h1]
  exact thn (hg pins s1 σ H1 x v _ I1 r1 q1) fun _ s2 q => q
theorem ps_set {i : Nat} {x : Str} {e : Expr} {te : TE} {pos' : Pos} (hN : X.N.Nodup) (hi : X.N[i]? = some x) (hx : Loc X.env.scope x) (he : PE X e te) (hs : swapsWith e (some (.Name x pos')) pos.line X.env = pure false := by rfl) (hf : X.fn x = true ∨ X.env.scope.names.lookup x = some .local := by first | exact .inl rfl | exact .inr rfl | assumption) :
    PS X (.Assign [.Name x pos'] e pos) (tAsg te (gName i)) := by
  intro pins s σ H D I h
  refine wpAny_Assign_Name (thn (he pins s σ H _ I h) fun v s1 ⟨y, H1, I1, r1, q1⟩ => ?_) hs
  exact store_ok I1 hN hi hx r1 (fun s2 I2 => ⟨_, H1, I2, q1⟩) hf
noncomputable def tAug (i : Nat) (te : TE) (ti : TIp) : TS := fun D σ H => ∃ x, σ[i]? = some (some x) ∧ te σ H fun y H1 => ti x y H1 fun z H2 => D.nx (σ.set i (some z)) H2
noncomputable def ipI (f : Int → Int → Int) : TIp := fun x y H Q => ∃ i j, x = .int i ∧ y = .int j ∧ Q (.int (f i j)) H
end

section
variable {X : Cx} {pos : Pos}
noncomputable def tWhile (c : TT) (tb : TS) : TS := fun D σ H => ∃ W : Nat → St → Hp → Prop, (∃ m, W m σ H) ∧ ∀ m σ H, W m σ H →
  c σ H fun b H1 => if b = true then ∃ N : St → Hp → Prop, (∀ σ' H', N σ' H' → ∃ m', m' < m ∧ W m' σ' H') ∧ tb { D with nx := N, ct := N, bk := D.nx } σ H1 else D.nx σ H1
theorem ps_while {c : Expr} {body : List Stmt} {tc : TT} {tb : TS} (hp : PassesOwn (model X.prog X.w) X.A X.env X.xe) (hc : PT X c tc) (hb : PSs X body tb) : PS X (.While c body [] pos) (tWhile tc tb) := by
  intro pins s σ H D I h
  obtain ⟨W, ⟨m0, w0⟩, turn⟩ := h
  refine wpAny_While (codeAny_whileLoop (fun n s' => ∃ σ' H', Inv X pins σ' H' s' ∧ W n σ' H') ?_ m0 ⟨σ, H, I, w0⟩)
  rintro n s1 ⟨σ1, H1, I1, w1⟩
  refine wpAny_passesOwn hp (thn (hc pins s1 σ1 H1 _ I1 (turn n σ1 H1 w1)) fun b s2 ⟨H2, I2, q2⟩ => ?_)
  cases b with
  | true =>
    obtain ⟨N, hN, q2⟩ := q2
    rw [if_pos rfl]
    refine wpAny_passesOwn hp (thn (hb pins s2 σ1 H2 _ I2 q2) fun f s3 q3 => ?_)
    cases f with
    | next =>
      obtain ⟨σ3, H3, I3, n3⟩ := q3
      obtain ⟨m', hm, w3⟩ := hN σ3 H3 n3
      exact ⟨m', hm, σ3, H3, I3, w3⟩
    | cont =>
      obtain ⟨σ3, H3, I3, n3⟩ := q3
      obtain ⟨m', hm, w3⟩ := hN σ3 H3 n3
      exact ⟨m', hm, σ3, H3, I3, w3⟩
    | brk => exact q3
    | ret v => exact q3
  | false =>
    rw [if_neg Bool.false_ne_true]
    exact wpAny_execs_nil ⟨σ1, H2, I2, q2⟩
end

structure It where
  go : Nat → Hp → Prop
  yld : Nat → Hp → V → Hp → Prop
  stop : Nat → Hp → Prop
noncomputable def FpOk (X : Cx) (pins : List (Addr × Obj)) (H : Hp) (b : Addr) : Prop :=
  H b = none ∧ b ≠ X.env.locals ∧ b ∉ X.fs ∧ (b ∈ X.ex ∨ X.s₀.heap.objs.size ≤ b) ∧ (∀ x c, X.env.cells.lookup x = some c → c ≠ b) ∧ ∀ p ∈ X.pn ++ pins, p.1 ≠ b
theorem Inv.fpOk {X : Cx} {pins : List (Addr × Obj)} {σ : St} {H H' : Hp} {s : Shared} {b : Addr} (I : Inv X pins σ H s) (hb : s.heap.objs.size ≤ b) (hn : H' b = none) : FpOk X pins H' b := by
  refine ⟨hn, Nat.ne_of_gt (Nat.lt_of_lt_of_le I.lt hb), I.nofs hb, .inr (Nat.le_trans I.sz hb), fun x c e z => ?_, fun p hp z => ?_⟩
  · obtain ⟨v, q⟩ := I.cell x c e
    exact absurd (Nat.lt_of_lt_of_le q.lt (by rw [z]; exact hb)) (Nat.lt_irrefl _)
  · exact absurd (Nat.lt_of_lt_of_le (Heap.lt_size (I.pin p hp).1) (by rw [z]; exact hb)) (Nat.lt_irrefl _)
structure Turn (P : Program) (w : World) (K : PySem.W.Frag) (tg : Expr) (J : It) (fp : List Addr) (it : Addr) (tn : Nat → Heap → Prop) : Prop where
  mem : it ∈ fp
  obj : ∀ i h, tn i h → ∀ b ∈ fp, ∃ o, h.get? b = some o ∧ ∀ v, o.data ≠ .cell v
  keep : ∀ i h h', tn i h → (∀ b ∈ fp, ∀ o, h.get? b = some o → h'.get? b = some o) → tn i h'
  item : ∀ (X : Cx), X.prog = P → X.w = w → X.K = K → X.calm = true → ∀ (i : Nat) (pins : List (Addr × Obj)) (s : Shared) (σ : St) (H : Hp) (E : Value → Shared → Prop), Inv X pins σ H s → (∀ b ∈ fp, FpOk X pins H b) → tn i s.heap → J.go i H →
    wpAny (model P w) X.A (pyNext (.ref it)) (fun r s1 => ∃ u, r = some u ∧
      wpAny (model P w) X.A (letOwnedTupleGo tg (.ref it) u) (fun _ s2 => ∃ x H', Inv X pins σ H' s2 ∧ RelV x u ∧ J.yld i H x H' ∧ tn (i + 1) s2.heap ∧ ∀ b ∈ fp, H' b = none) E s1) E s
  done : ∀ (X : Cx), X.prog = P → X.w = w → X.K = K → X.calm = true → ∀ (i : Nat) (pins : List (Addr × Obj)) (s : Shared) (σ : St) (H : Hp) (E : Value → Shared → Prop), Inv X pins σ H s → (∀ b ∈ fp, FpOk X pins H b) → tn i s.heap → J.stop i H →
    wpAny (model P w) X.A (pyNext (.ref it)) (fun r s1 => r = none ∧ Inv X pins σ H s1) E s
  self : ∀ (A : Around) (i : Nat) (s : Shared) (Q : Value → Shared → Prop) (E : Value → Shared → Prop), tn i s.heap → Q (.ref it) s → wpAny (model P w) A (pyIter (.ref it)) Q E s
noncomputable abbrev TI := St → Hp → (It → Hp → Prop) → Prop
noncomputable def PIE (X : Cx) (pins : List (Addr × Obj)) (σ : St) (tg : Expr) (R : It → Hp → Prop) (itv : Value) (s2 : Shared) : Prop :=
  ∃ (it : Addr) (fp : List Addr) (tn : Nat → Heap → Prop) (J : It) (H' : Hp), itv = .ref it ∧ Inv X pins σ H' s2 ∧ Turn X.prog X.w X.K tg J fp it tn ∧ tn 0 s2.heap ∧ (∀ b ∈ fp, FpOk X pins H' b) ∧ R J H'
noncomputable def PI (X : Cx) (tg iter : Expr) (wi : TI) : Prop :=
  ∀ (pins : List (Addr × Obj)) (s : Shared) (σ : St) (H : Hp) (R : It → Hp → Prop), Inv X pins σ H s → wi σ H R →
    wpAny (model X.prog X.w) X.A (eval iter X.env) (fun v s1 => wpAny (model X.prog X.w) X.A (pyIter v) (PIE X pins σ tg R) X.xe s1) X.xe s

theorem go_of {M : Model} {A : Around} {E : Value → Shared → Prop} {s : Shared} {tg : Expr} {it : Addr} {u : Value} {o : Obj} {n : String} {vs : Array Value} {Q : Unit → Shared → Prop} (ho : s.heap.get? it = some o) (hc : o.cls = .type n) (hd : o.data = .fields vs)
    (hn : ["enumerate", "zip", "dict_itemiterator", "dict_reverseitemiterator", "odict_iterator", "itertools.zip_longest", "itertools.pairwise"].contains n = false) (hQ : Q () s) : wpAny M A (letOwnedTupleGo tg (.ref it) u) Q E s := by
  unfold letOwnedTupleGo
  cases tg <;> first
    | exact wpAny_pure hQ
    | (cases u <;> first
        | exact wpAny_pure hQ
        | (refine wpAny_bind (wpAny_load ho ?_)
           rw [hc, hd]
           show wpAny M A (if (["enumerate", "zip", "dict_itemiterator", "dict_reverseitemiterator", "odict_iterator", "itertools.zip_longest", "itertools.pairwise"].contains n && vs[0]? == some (rawInt _)) = true then _ else _) Q E s
           rw [if_neg (by intro h; rw [hn, Bool.false_and] at h; cases h)]
           exact wpAny_pure hQ))

noncomputable def Itl (K : PySem.W.Frag) (a : Addr) : It :=
  ⟨fun i H => ∃ xs x, SqL K H a xs ∧ xs[i]? = some x, fun i H x H' => H' = H ∧ ∀ xs, SqL K H a xs → xs[i]? = some x, fun i H => ∃ xs, SqL K H a xs ∧ xs.length ≤ i⟩
noncomputable def Itt (K : PySem.W.Frag) (a : Addr) : It :=
  ⟨fun i H => ∃ xs x, SqT K H a xs ∧ xs[i]? = some x, fun i H x H' => H' = H ∧ ∀ xs, SqT K H a xs → xs[i]? = some x, fun i H => ∃ xs, SqT K H a xs ∧ xs.length ≤ i⟩
noncomputable def Itr (lo : Int) (n : Nat) : It := ⟨fun i _ => i < n, fun i H x H' => H' = H ∧ x = .int (lo + i), fun i _ => n ≤ i⟩
theorem turn_list {P : Program} {w : World} {K : PySem.W.Frag} {tg : Expr} (a it : Addr) : Turn P w K tg (Itl K a) [it] it (fun i h => h.IsListIter it a i) where
  mem := by simp
  obj := fun i h st b hb => by
    have e : b = it := by simpa using hb
    subst e
    obtain ⟨o, e, c, d⟩ := st
    exact ⟨o, e, fun v z => by rw [d] at z; cases z⟩
  keep := fun i h h' st k => st.at fun o e => k it (by simp) o e
  item := by
    intro X hP hw hK hc i pins s σ H E I hf st hg
    subst hP hw hK
    obtain ⟨xs, x, hq, hx⟩ := hg
    obtain ⟨its, rv, p, hz⟩ := I.list hq
    obtain ⟨u, hu, ru⟩ := rv.get hx
    obtain ⟨f0, f1, f2, f3, f4, f5⟩ := hf it (by simp)
    refine wpAny_pyNext_list_item st p.isList (x := u) (by simpa using hu) fun h' st' sb => ?_
    have I1 : Inv X pins σ H { s with heap := h' } := I.turned (t' := s.toks) (fun b o hb e => (sb.2 b hb).trans e) f0 f1 f3 f4 f5
    obtain ⟨o, e, c, d⟩ := id st'
    exact ⟨u, rfl, go_of (s := { s with heap := h' }) e c d (by decide) ⟨x, H, I1, ru, ⟨rfl, fun ys hy => by rw [I.list_inj hy hq]; exact hx⟩, st', fun b hb => (hf b hb).1⟩⟩
  done := by
    intro X hP hw hK hc i pins s σ H E I hf st hg
    subst hP hw hK
    obtain ⟨xs, hq, hx⟩ := hg
    obtain ⟨its, rv, p, hz⟩ := I.list hq
    obtain ⟨f0, f1, f2, f3, f4, f5⟩ := hf it (by simp)
    have hl := rv.length
    exact wpAny_pyNext_list_end (I.ok.hd hc) st p.isList (by simp; omega) fun h' eb => ⟨rfl, I.turned (t' := s.toks) (fun b o hb e => eb b o hb e) f0 f1 f3 f4 f5⟩
  self := fun _ _ _ _ _ st h => wpAny_pyIter_listiter st h
theorem turn_tuple {P : Program} {w : World} {K : PySem.W.Frag} {tg : Expr} (a it : Addr) : Turn P w K tg (Itt K a) [it] it (fun i h => h.IsTupleIter it a i) where
  mem := by simp
  obj := fun i h st b hb => by
    have e : b = it := by simpa using hb
    subst e
    obtain ⟨o, e, c, d⟩ := st
    exact ⟨o, e, fun v z => by rw [d] at z; cases z⟩
  keep := fun i h h' st k => st.at fun o e => k it (by simp) o e
  item := by
    intro X hP hw hK hc i pins s σ H E I hf st hg
    subst hP hw hK
    obtain ⟨xs, x, hq, hx⟩ := hg
    obtain ⟨its, rv, p, hz⟩ := I.tuple hq
    obtain ⟨u, hu, ru⟩ := rv.get hx
    obtain ⟨f0, f1, f2, f3, f4, f5⟩ := hf it (by simp)
    refine wpAny_pyNext_tuple_item st (show s.heap.IsTuple a its.toArray from p) (x := u) (by simpa using hu) fun h' st' sb => ?_
    have I1 : Inv X pins σ H { s with heap := h' } := I.turned (t' := s.toks) (fun b o hb e => (sb.2 b hb).trans e) f0 f1 f3 f4 f5
    obtain ⟨o, e, c, d⟩ := id st'
    exact ⟨u, rfl, go_of (s := { s with heap := h' }) e c d (by decide) ⟨x, H, I1, ru, ⟨rfl, fun ys hy => by rw [I.tuple_inj hy hq]; exact hx⟩, st', fun b hb => (hf b hb).1⟩⟩
  done := by
    intro X hP hw hK hc i pins s σ H E I hf st hg
    subst hP hw hK
    obtain ⟨xs, hq, hx⟩ := hg
    obtain ⟨its, rv, p, hz⟩ := I.tuple hq
    obtain ⟨f0, f1, f2, f3, f4, f5⟩ := hf it (by simp)
    have hl := rv.length
    exact wpAny_pyNext_tuple_end (I.ok.hd hc) st (show s.heap.IsTuple a its.toArray from p) (by simp; omega) fun h' eb => ⟨rfl, I.turned (t' := s.toks) (fun b o hb e => eb b o hb e) f0 f1 f3 f4 f5⟩
  self := fun _ _ _ _ _ st h => wpAny_pyIter_tupleiter st h
theorem turn_range {P : Program} {w : World} {K : PySem.W.Frag} {tg : Expr} (it : Addr) (lo : Int) (n : Nat) : Turn P w K tg (Itr lo n) [it] it (fun i h => IsRangeIter h it (lo + (i : Nat) * 1) ((n : Int) - (i : Nat)) 1) where
  mem := by simp
  obj := fun i h st b hb => by
    have e : b = it := by simpa using hb
    subst e
    exact ⟨_, st, fun v z => by
      have z' : Data.fields _ = Data.cell v := z
      cases z'⟩
  keep := fun i h h' st k => k it (by simp) _ st
  item := by
    intro X hP hw hK hc i pins s σ H E I hf st hg
    subst hP hw hK
    obtain ⟨f0, f1, f2, f3, f4, f5⟩ := hf it (by simp)
    have W := Walks.range (prog := X.prog) (w := X.w) (I.ok.hd hc) it lo 1 n
    refine W.item i s _ _ hg st fun v h' tk hv st' kk => ?_
    obtain ⟨t, rfl⟩ := hv
    have I1 : Inv X pins σ H { s with heap := h', toks := tk } := I.turned (fun b o hb e => kk b o (by simpa using hb) e) f0 f1 f3 f4 f5
    refine ⟨_, rfl, go_of (s := { s with heap := h', toks := tk }) (n := "range_iterator") st' rfl rfl (by decide) ⟨.int (lo + i), H, I1, ⟨t, ?_⟩, ⟨rfl, rfl⟩, st', fun b hb => (hf b hb).1⟩⟩
    rw [Int.mul_one]
  done := by
    intro X hP hw hK hc i pins s σ H E I hf st hg
    subst hP hw hK
    obtain ⟨f0, f1, f2, f3, f4, f5⟩ := hf it (by simp)
    exact wpAny_pyNext_range_end (I.ok.hd hc) st (by have : n ≤ i := hg; omega) fun h' eb => ⟨rfl, I.turned (t' := s.toks) (fun b o hb e => eb b o hb e) f0 f1 f3 f4 f5⟩
  self := fun _ _ _ _ _ st h => wpAny_pyIter_rangeiter st h
end L2

namespace L2
open PySem PySem.Spec PyProof.Rows
section
variable {X : Cx} {tg : Expr}
theorem range_it {pins : List (Addr × Obj)} {σ : St} {H : Hp} {s : Shared} {R : It → Hp → Prop} {E : Value → Shared → Prop} {lo hi : Int} {t u v : Tok} {tk : Nat} (I : Inv X pins σ H s) (h1 : -(2 ^ 62) ≤ lo) (h2 : lo < 2 ^ 62) (h3 : -(2 ^ 62) ≤ hi) (h4 : hi < 2 ^ 62)
    (q : R (Itr lo (hi - lo).toNat) H) : wpAny (model X.prog X.w) X.A (pyIter (.ref s.heap.objs.size)) (PIE X pins σ tg R) E { s with heap := s.heap.push { cls := .type "range", data := .fields #[.int lo t, .int hi u, .int 1 v] }, toks := tk } := by
  refine wpAny_pyIter_range (IsRange.new ..) (small_one h1 h2 h3 h4) ?_
  have I1 : Inv X pins σ H { s with heap := s.heap.push { cls := .type "range", data := .fields #[.int lo t, .int hi u, .int 1 v] }, toks := tk } := I.kept fun b o e => Heap.get?_push_of_some _ e
  refine ⟨(s.heap.push { cls := .type "range", data := .fields #[.int lo t, .int hi u, .int 1 v] }).objs.size, [(s.heap.push { cls := .type "range", data := .fields #[.int lo t, .int hi u, .int 1 v] }).objs.size], _, _, H, rfl,
    I1.kept (t' := tk) fun b o e => Heap.get?_push_of_some _ e, turn_range _ lo (hi - lo).toNat, ?_, fun b hb => ?_, q⟩
  · have e1 : lo + ((0 : Nat) : Int) * 1 = lo := by simp
    have e2 : (((hi - lo).toNat : Nat) : Int) - ((0 : Nat) : Int) = Builtin.Range.rangeSize lo hi 1 := by rw [rangeSize_one]; split <;> omega
    show IsRangeIter _ _ (lo + ((0 : Nat) : Int) * 1) ((((hi - lo).toNat : Nat) : Int) - ((0 : Nat) : Int)) 1
    rw [e1, e2]
    exact Heap.get?_push_size _ rfl
  · have e : b = (s.heap.push { cls := .type "range", data := .fields #[.int lo t, .int hi u, .int 1 v] }).objs.size := by simpa using hb
    subst e
    exact I1.fpOk (Nat.le_refl _) (I1.hok.fresh (Nat.le_refl _))
noncomputable def iRng1 (ta : TA) : TI := fun σ H R => ta σ H fun vs H1 => ∃ j : Int, vs = [.int j] ∧ -(2 ^ 62) ≤ j ∧ j < 2 ^ 62 ∧ R (Itr 0 j.toNat) H1
theorem pi_range1 {a : Expr} {ta : TA} {p pos : Pos} (hg : Gl X "range") (hm : X.mg "range" = none) (ha : PA X [a] ta) (hs : starEach [a] X.env = [(false, eval a X.env)] := by rfl) : PI X tg (.Call (.Name "range" p) [a] [] pos) (iRng1 ta) := by
  intro pins s σ H R I h
  refine Call_ (ld_blt I hg hm boot_range (PyProof.Rows.callWith_type1 (thn (ha pos pins s σ H _ I h) fun us s1 ⟨vs, H1, I1, r1, q1⟩ => ?_) hs rfl))
  obtain ⟨j, e, q1, q2, q⟩ := q1
  subst e
  cases r1 with
  | cons r rr =>
    cases rr
    obtain ⟨t, rfl⟩ := r
    exact call_range_1 (range_it I1 (by omega) (by omega) q1 q2 (by simpa using q))
noncomputable def tFor (wi : TI) (g : TG) (tb : TS) : TS := fun D σ H => wi σ H fun J H1 => ∃ W : Nat → Nat → St → Hp → Prop, (∃ m, W 0 m σ H1) ∧ ∀ i m σ H, W i m σ H →
  (J.stop i H ∧ D.nx σ H) ∨ (J.go i H ∧ ∃ N : St → Hp → Prop, (∀ σ' H', N σ' H' → ∃ m', m' < m ∧ W (i + 1) m' σ' H') ∧ ∀ x H', J.yld i H x H' → g x σ H' fun σ2 H2 => tb { D with nx := N, ct := N, bk := D.nx } σ2 H2)
noncomputable def pinsAt (fp : List Addr) (h : Heap) : List (Addr × Obj) := fp.filterMap fun b => (h.get? b).map fun o => (b, o)
theorem mem_pinsAt {fp : List Addr} {h : Heap} {b : Addr} {o : Obj} (hb : b ∈ fp) (e : h.get? b = some o) : (b, o) ∈ pinsAt fp h := List.mem_filterMap.mpr ⟨b, hb, by rw [e]; rfl⟩
theorem of_pinsAt {fp : List Addr} {h : Heap} {p : Addr × Obj} (hp : p ∈ pinsAt fp h) : p.1 ∈ fp ∧ h.get? p.1 = some p.2 := by
  obtain ⟨b, hb, e⟩ := List.mem_filterMap.mp hp
  cases q : h.get? b with
  | none => rw [q] at e; cases e
  | some o =>
    rw [q] at e
    have e' : (b, o) = p := Option.some.inj e
    subst e'
    exact ⟨hb, q⟩
theorem Inv.pinned {pins : List (Addr × Obj)} {σ : St} {H : Hp} {s : Shared} {fp : List Addr} (I : Inv X pins σ H s) (hf : ∀ b ∈ fp, FpOk X pins H b) (ho : ∀ b ∈ fp, ∃ o, s.heap.get? b = some o ∧ ∀ v, o.data ≠ .cell v) : Inv X (pins ++ pinsAt fp s.heap) σ H s :=
  I.pins_of fun p hp => (List.mem_append.mp hp).elim (fun z => I.pin p (List.mem_append_right _ z)) fun z => by
    obtain ⟨hb, e⟩ := of_pinsAt z
    obtain ⟨f0, f1, f2, _⟩ := hf p.1 hb
    obtain ⟨o, e', d⟩ := ho p.1 hb
    rw [e] at e'; cases e'
    exact ⟨e, f0, f1, f2, d⟩
theorem Inv.unpinned {pins pl : List (Addr × Obj)} {σ : St} {H : Hp} {s : Shared} (I : Inv X (pins ++ pl) σ H s) : Inv X pins σ H s := I.pins_of fun p hp => I.pin p (List.mem_append_right _ (List.mem_append_left _ hp))
theorem ps_for {iter : Expr} {body : List Stmt} {wi : TI} {g : TG} {tb : TS} {pos : Pos} (hp : PassesOwn (model X.prog X.w) X.A X.env X.xe) (hc : X.calm = true) (hi : PI X tg iter wi) (hg : PG X tg g) (hb : PSs X body tb)
    (hs : ∀ x, foldedSetIterable iter X.env x = pure x := by intro _; rfl) : PS X (.For tg iter body [] pos) (tFor wi g tb) := by
  intro pins s σ H D I h
  refine wpAny_For (thn (hi pins s σ H _ I h) fun v s1 h1 => thn h1 fun itv s2 h2 => ?_) hs
  obtain ⟨it, fp, tn, J, H2, e, I2, T, st2, f2, W, ⟨m0, w0⟩, turn⟩ := h2
  subst e
  -- what stays true of the iterator's objects through the loop
  have stat : ∀ {H' : Hp}, (∀ b ∈ fp, H' b = none) → ∀ b ∈ fp, FpOk X pins H' b := fun hn b hb => ⟨hn b hb, (f2 b hb).2⟩
  refine codeAny_forLoop_any (fun n s' => ∃ i σ' H', Inv X pins σ' H' s' ∧ tn i s'.heap ∧ (∀ b ∈ fp, H' b = none) ∧ W i n σ' H') ?_ m0 ⟨0, σ, H2, I2, st2, fun b hb => (f2 b hb).1, w0⟩
  rintro n s3 ⟨i, σ3, H3, I3, st3, fr3, w3⟩
  rcases turn i n σ3 H3 w3 with ⟨stop, qn⟩ | ⟨go, N, hN, step⟩
  · refine wpAny_passesOwn hp (thn (T.done X rfl rfl rfl hc i pins s3 σ3 H3 X.xe I3 (stat fr3) st3 stop) fun r s4 ⟨hr, I4⟩ => ?_)
    subst hr
    exact wpAny_execs_nil ⟨σ3, H3, I4, qn⟩
  · refine wpAny_passesOwn hp (thn (T.item X rfl rfl rfl hc i pins s3 σ3 H3 X.xe I3 (stat fr3) st3 go) fun r s4 ⟨u, hr, h4⟩ => ?_)
    subst hr
    refine wpAny_passesOwn hp (thn h4 fun _ s5 ⟨x, H5, I5, r5, y5, st5, fr5⟩ => ?_)
    have I5' := I5.pinned (stat fr5) (T.obj _ _ st5)
    refine wpAny_passesOwn hp (thn (hg _ s5 σ3 H5 x u _ I5' r5 (step x H5 y5)) fun _ s6 ⟨σ6, H6, I6, q6⟩ => ?_)
    refine wpAny_passesOwn hp (thn (hb _ s6 σ6 H6 _ I6 q6) fun f s7 q7 => ?_)
    have again : ∀ {σ7 : St} {H7 : Hp}, Inv X (pins ++ pinsAt fp s5.heap) σ7 H7 s7 → N σ7 H7 → ∃ m, m < n ∧ ∃ i σ' H', Inv X pins σ' H' s7 ∧ tn i s7.heap ∧ (∀ b ∈ fp, H' b = none) ∧ W i m σ' H' := fun {σ7 H7} I7 n7 => by
      obtain ⟨m', hm, w7⟩ := hN σ7 H7 n7
      refine ⟨m', hm, i + 1, σ7, H7, I7.unpinned, T.keep _ _ _ st5 fun b hb o e => (I7.pin (b, o) (List.mem_append_right _ (List.mem_append_right _ (mem_pinsAt hb e)))).1, fun b hb => ?_, w7⟩
      obtain ⟨o, e, d⟩ := T.obj _ _ st5 b hb
      exact (I7.pin (b, o) (List.mem_append_right _ (List.mem_append_right _ (mem_pinsAt hb e)))).2.1
    cases f with
    | next => obtain ⟨σ7, H7, I7, n7⟩ := q7; exact again I7 n7
    | cont => obtain ⟨σ7, H7, I7, n7⟩ := q7; exact again I7 n7
    | brk => obtain ⟨σ7, H7, I7, q7⟩ := q7; exact ⟨σ7, H7, I7.unpinned, q7⟩
    | ret v => obtain ⟨x7, σ7, H7, I7, r7, q7⟩ := q7; exact ⟨x7, σ7, H7, I7.unpinned, r7, q7⟩
end

theorem for_list {K : PySem.W.Frag} {a : Addr} {xs : List V} {g : TG} {tb : TS} {D : Ends} {σ : St} {H : Hp} (Pv : Nat → St → Hp → Prop) (h0 : Pv 0 σ H) (hl : ∀ i σ H, i ≤ xs.length → Pv i σ H → SqL K H a xs)
    (hs : ∀ i x σ H, xs[i]? = some x → Pv i σ H → g x σ H fun σ2 H2 => tb { D with nx := Pv (i + 1), ct := Pv (i + 1), bk := D.nx } σ2 H2) (hd : ∀ σ H, Pv xs.length σ H → D.nx σ H) :
    ∃ W : Nat → Nat → St → Hp → Prop, (∃ m, W 0 m σ H) ∧ ∀ i m σ H, W i m σ H →
      ((Itl K a).stop i H ∧ D.nx σ H) ∨ ((Itl K a).go i H ∧ ∃ N : St → Hp → Prop, (∀ σ' H', N σ' H' → ∃ m', m' < m ∧ W (i + 1) m' σ' H') ∧ ∀ x H', (Itl K a).yld i H x H' → g x σ H' fun σ2 H2 => tb { D with nx := N, ct := N, bk := D.nx } σ2 H2) := by
  refine ⟨fun i m σ H => m = xs.length - i ∧ i ≤ xs.length ∧ Pv i σ H, ⟨xs.length, by simp, Nat.zero_le _, h0⟩, ?_⟩
  rintro i m σ H ⟨rfl, hi, p⟩
  have q := hl i σ H hi p
  by_cases hlt : i < xs.length
  · refine .inr ⟨⟨xs, xs[i], q, by simp [hlt]⟩, Pv (i + 1), fun σ' H' p' => ⟨xs.length - (i + 1), by omega, rfl, hlt, p'⟩, fun x H' y => ?_⟩
    obtain ⟨e, y⟩ := y
    subst e
    exact hs i x σ _ (y xs q) p
  · have e : i = xs.length := by omega
    subst e
    exact .inl ⟨⟨xs, q, Nat.le_refl _⟩, hd σ H p⟩
theorem for_tup {K : PySem.W.Frag} {a : Addr} {xs : List V} {g : TG} {tb : TS} {D : Ends} {σ : St} {H : Hp} (Pv : Nat → St → Hp → Prop) (h0 : Pv 0 σ H) (hl : ∀ i σ H, i ≤ xs.length → Pv i σ H → SqT K H a xs)
    (hs : ∀ i x σ H, xs[i]? = some x → Pv i σ H → g x σ H fun σ2 H2 => tb { D with nx := Pv (i + 1), ct := Pv (i + 1), bk := D.nx } σ2 H2) (hd : ∀ σ H, Pv xs.length σ H → D.nx σ H) :
    ∃ W : Nat → Nat → St → Hp → Prop, (∃ m, W 0 m σ H) ∧ ∀ i m σ H, W i m σ H →
      ((Itt K a).stop i H ∧ D.nx σ H) ∨ ((Itt K a).go i H ∧ ∃ N : St → Hp → Prop, (∀ σ' H', N σ' H' → ∃ m', m' < m ∧ W (i + 1) m' σ' H') ∧ ∀ x H', (Itt K a).yld i H x H' → g x σ H' fun σ2 H2 => tb { D with nx := N, ct := N, bk := D.nx } σ2 H2) := by
  refine ⟨fun i m σ H => m = xs.length - i ∧ i ≤ xs.length ∧ Pv i σ H, ⟨xs.length, by simp, Nat.zero_le _, h0⟩, ?_⟩
  rintro i m σ H ⟨rfl, hi, p⟩
  have q := hl i σ H hi p
  by_cases hlt : i < xs.length
  · refine .inr ⟨⟨xs, xs[i], q, by simp [hlt]⟩, Pv (i + 1), fun σ' H' p' => ⟨xs.length - (i + 1), by omega, rfl, hlt, p'⟩, fun x H' y => ?_⟩
    obtain ⟨e, y⟩ := y
    subst e
    exact hs i x σ _ (y xs q) p
  · have e : i = xs.length := by omega
    subst e
    exact .inl ⟨⟨xs, q, Nat.le_refl _⟩, hd σ H p⟩
theorem for_range {lo : Int} {n : Nat} {g : TG} {tb : TS} {D : Ends} {σ : St} {H : Hp} (Pv : Nat → St → Hp → Prop) (h0 : Pv 0 σ H)
    (hs : ∀ i σ H, i < n → Pv i σ H → g (.int (lo + i)) σ H fun σ2 H2 => tb { D with nx := Pv (i + 1), ct := Pv (i + 1), bk := D.nx } σ2 H2) (hd : ∀ σ H, Pv n σ H → D.nx σ H) :
    ∃ W : Nat → Nat → St → Hp → Prop, (∃ m, W 0 m σ H) ∧ ∀ i m σ H, W i m σ H →
      ((Itr lo n).stop i H ∧ D.nx σ H) ∨ ((Itr lo n).go i H ∧ ∃ N : St → Hp → Prop, (∀ σ' H', N σ' H' → ∃ m', m' < m ∧ W (i + 1) m' σ' H') ∧ ∀ x H', (Itr lo n).yld i H x H' → g x σ H' fun σ2 H2 => tb { D with nx := N, ct := N, bk := D.nx } σ2 H2) := by
  refine ⟨fun i m σ H => m = n - i ∧ i ≤ n ∧ Pv i σ H, ⟨n, by simp, Nat.zero_le _, h0⟩, ?_⟩
  rintro i m σ H ⟨rfl, hi, p⟩
  by_cases hlt : i < n
  · refine .inr ⟨hlt, Pv (i + 1), fun σ' H' p' => ⟨n - (i + 1), by omega, rfl, hlt, p'⟩, fun x H' y => ?_⟩
    obtain ⟨e, y⟩ := y
    subst e y
    exact hs i σ _ hlt p
  · have e : i = n := by omega
    subst e
    exact .inl ⟨Nat.le_refl _, hd σ H p⟩
end L2

namespace L2
open PySem PySem.Spec PyProof.Rows

noncomputable abbrev R2 := V → V → Hp → VK → Prop
noncomputable def OpR (X : Cx) (f : Value → Value → Sem Value) (r : R2) : Prop :=
  ∀ (pins : List (Addr × Obj)) (s : Shared) (σ : St) (H : Hp) (x y : V) (v u : Value) (Q : VK), Inv X pins σ H s → RelV x v → RelV y u → r x y H Q →
    wpAny (model X.prog X.w) X.A (f v u) (EP X pins σ Q) X.xe s
noncomputable def UnR (X : Cx) (f : Value → Sem Value) (r : V → Hp → VK → Prop) : Prop :=
  ∀ (pins : List (Addr × Obj)) (s : Shared) (σ : St) (H : Hp) (x : V) (v : Value) (Q : VK), Inv X pins σ H s → RelV x v → r x H Q →
    wpAny (model X.prog X.w) X.A (f v) (EP X pins σ Q) X.xe s
noncomputable def CallR (X : Cx) (f : Value) (r : List V → Hp → VK → Prop) : Prop :=
  ∀ (pins : List (Addr × Obj)) (s : Shared) (σ : St) (H : Hp) (xs : List V) (us : List Value) (Q : VK), Inv X pins σ H s → Vals xs us → r xs H Q →
    wpAny (model X.prog X.w) X.A (call f us) (EP X pins σ Q) X.xe s
noncomputable def TruR (X : Cx) (r : V → Hp → (Bool → Hp → Prop) → Prop) : Prop :=
  ∀ (pins : List (Addr × Obj)) (s : Shared) (σ : St) (H : Hp) (x : V) (v : Value) (Q : Bool → Hp → Prop), Inv X pins σ H s → RelV x v → r x H Q →
    wpAny (model X.prog X.w) X.A (truthy v) (TP X pins σ Q) X.xe s

noncomputable def tOp (r : R2) (ta tb : TE) : TE := fun σ H Q => ta σ H fun x H1 => tb σ H1 fun y H2 => r x y H2 Q
noncomputable def tUn (r : V → Hp → VK → Prop) (ta : TE) : TE := fun σ H Q => ta σ H fun x H1 => r x H1 Q
noncomputable def rI (C : Int → Int → Prop) (g : Int → Int → V) : R2 := fun x y H Q => ∃ i j, x = .int i ∧ y = .int j ∧ C i j ∧ Q (g i j) H
noncomputable def rI0 (g : Int → Int → V) : R2 := fun x y H Q => ∃ i j, x = .int i ∧ y = .int j ∧ Q (g i j) H
noncomputable def rU (g : Int → V) : V → Hp → VK → Prop := fun x H Q => ∃ i, x = .int i ∧ Q (g i) H

section
variable {X : Cx} {a b c : Expr} {ta tb tc : TE} {pos : Pos}

theorem binT (ha : PE X a ta) (hb : PE X b tb) {pins : List (Addr × Obj)} {s : Shared} {σ : St} {H : Hp} {R : V → V → Hp → Prop} (I : Inv X pins σ H s)
    (h : ta σ H fun x H1 => tb σ H1 fun y H2 => R x y H2) {Q : Value → Shared → Prop} {f : Value → Value → Sem Value}
    (hf : ∀ v u s2 x y H2, Inv X pins σ H2 s2 → RelV x v → RelV y u → R x y H2 → wpAny (model X.prog X.w) X.A (f v u) Q X.xe s2) :
    wpAny (model X.prog X.w) X.A (eval a X.env) (fun v s₁ => wpAny (model X.prog X.w) X.A (eval b X.env) (fun u s₂ => wpAny (model X.prog X.w) X.A (f v u) Q X.xe s₂) X.xe s₁) X.xe s := by
  refine thn (ha pins s σ H _ I h) fun v s1 ⟨x, H1, I1, r1, q1⟩ => ?_
  refine thn (hb pins s1 σ H1 _ I1 q1) fun u s2 ⟨y, H2, I2, r2, q2⟩ => ?_
  exact hf v u s2 x y H2 I2 r1 r2 q2

theorem pe_op {op : Operator} {r : R2} (ho : OpR X (binaryOp op) r) (ha : PE X a ta) (hb : PE X b tb) : PE X (.BinOp a op b pos) (tOp r ta tb) := by
  intro pins s σ H Q I h
  exact wpAny_BinOp (binT ha hb I h fun v u s2 x y H2 I2 rx ry q => ho pins s2 σ H2 x y v u Q I2 rx ry q)
theorem pe_un {op : UnaryOp} {r : V → Hp → VK → Prop} (ho : UnR X (unaryOp op) r) (ha : PE X a ta) : PE X (.UnaryOp op a pos) (tUn r ta) := by
  intro pins s σ H Q I h
  exact UnaryOp_ (thn (ha pins s σ H _ I h) fun v s1 ⟨x, H1, I1, r1, q1⟩ => ho pins s1 σ H1 x v Q I1 r1 q1)
theorem opI {f : Value → Value → Sem Value} {C : Int → Int → Prop} {g : Int → Int → Int}
    (rule : ∀ (i j : Int) (t u : Tok) (s : Shared) (Q : Value → Shared → Prop) (E : Value → Shared → Prop), C i j → Q (.int (g i j) s.toks) { s with toks := s.toks + 1 } → wpAny (model X.prog X.w) X.A (f (.int i t) (.int j u)) Q E s) :
    OpR X f (rI C fun i j => .int (g i j)) := by
  intro pins s σ H x y v u Q I rx ry h
  obtain ⟨i, j, rfl, rfl, hc, q⟩ := h
  obtain ⟨t, rfl⟩ := rx
  obtain ⟨t', rfl⟩ := ry
  exact rule i j t t' s _ _ hc ⟨.int (g i j), H, I.tok _, ⟨_, rfl⟩, q⟩
theorem opI0 {f : Value → Value → Sem Value} {g : Int → Int → Int}
    (rule : ∀ (i j : Int) (t u : Tok) (s : Shared) (Q : Value → Shared → Prop) (E : Value → Shared → Prop), Q (.int (g i j) s.toks) { s with toks := s.toks + 1 } → wpAny (model X.prog X.w) X.A (f (.int i t) (.int j u)) Q E s) :
    OpR X f (rI0 fun i j => .int (g i j)) := by
  intro pins s σ H x y v u Q I rx ry h
  obtain ⟨i, j, rfl, rfl, q⟩ := h
  obtain ⟨t, rfl⟩ := rx
  obtain ⟨t', rfl⟩ := ry
  exact rule i j t t' s _ _ ⟨.int (g i j), H, I.tok _, ⟨_, rfl⟩, q⟩
theorem opB0 {f : Value → Value → Sem Value} {g : Int → Int → Bool}
    (rule : ∀ (i j : Int) (t u : Tok) (s : Shared) (Q : Value → Shared → Prop) (E : Value → Shared → Prop), Q (.bool (g i j)) s → wpAny (model X.prog X.w) X.A (f (.int i t) (.int j u)) Q E s) :
    OpR X f (rI0 fun i j => .bl (g i j)) := by
  intro pins s σ H x y v u Q I rx ry h
  obtain ⟨i, j, rfl, rfl, q⟩ := h
  obtain ⟨t, rfl⟩ := rx
  obtain ⟨t', rfl⟩ := ry
  exact rule i j t t' s _ _ ⟨.bl (g i j), H, I, rfl, q⟩

noncomputable def CDiv (i j : Int) : Prop := 0 < j ∧ j < 1073741824
noncomputable def CPow (i j : Int) : Prop := 0 ≤ j ∧ j ≤ 1000000 ∧ i.natAbs < 2 ^ 64
noncomputable def CMul (i j : Int) : Prop := (-(2 ^ 64) < i ∧ i < 2 ^ 64) ∨ (-(2 ^ 64) < j ∧ j < 2 ^ 64)
theorem CMul.ok {i j : Int} (h : CMul i j) : IntMulOk i j := by
  rcases h with ⟨h1, h2⟩ | ⟨h1, h2⟩
  · exact .of_left (intBits_le_64 h1 h2)
  · exact .of_right (intBits_le_64 h1 h2)
theorem op_add : OpR X (binaryOp .Add) (rI0 fun i j => .int (i + j)) := opI0 fun _ _ _ _ _ _ _ q => add_int q
theorem op_sub : OpR X (binaryOp .Sub) (rI0 fun i j => .int (i - j)) := opI0 fun _ _ _ _ _ _ _ q => sub_int q
theorem op_mul : OpR X (binaryOp .Mult) (rI CMul fun i j => .int (i * j)) := opI fun _ _ _ _ _ _ _ hc q => mul_int q hc.ok
theorem op_fdiv : OpR X (binaryOp .FloorDiv) (rI CDiv fun i j => .int (i / j)) := opI fun i j _ _ _ _ _ hc q => by
  have h1 : (0 : Int) < j := hc.1
  have h2 : j < 1073741824 := hc.2
  exact floordiv_int (by omega) (by rw [Int.fdiv_eq_ediv_of_nonneg i (by omega)]; exact q) (.inl (PyProof.noPylong_small (by omega)))
theorem op_mod : OpR X (binaryOp .Mod) (rI (fun _ j => 0 < j) fun i j => .int (i % j)) := opI fun i j _ _ _ _ _ hc q => by
  have h1 : (0 : Int) < j := hc
  exact mod_int' (by omega) (by rw [Int.fmod_eq_emod_of_nonneg i (by omega)]; exact q)
theorem op_pow : OpR X (binaryOp .Pow) (rI CPow fun i j => .int (i ^ j.toNat)) := opI fun _ _ _ _ _ _ _ hc q => pow_int_small hc.1 hc.2.1 hc.2.2 q
theorem unI {f : Value → Sem Value} {g : Int → Int}
    (rule : ∀ (i : Int) (t : Tok) (s : Shared) (Q : Value → Shared → Prop) (E : Value → Shared → Prop), Q (.int (g i) s.toks) { s with toks := s.toks + 1 } → wpAny (model X.prog X.w) X.A (f (.int i t)) Q E s) :
    UnR X f (rU fun i => .int (g i)) := by
  intro pins s σ H x v Q I rx h
  obtain ⟨i, rfl, q⟩ := h
  obtain ⟨t, rfl⟩ := rx
  exact rule i t s _ _ ⟨.int (g i), H, I.tok _, ⟨_, rfl⟩, q⟩
theorem un_neg : UnR X (unaryOp .USub) (rU fun i => .int (-i)) := unI fun _ _ _ _ _ q => neg_int q
end

noncomputable def scal : V → V → Bool
  | .non, .non => true | .non, .int _ => true | .int _, .non => true | .non, .bl _ => true | .bl _, .non => true | .non, .str _ => true | .str _, .non => true
  | .int _, .int _ => true | .bl _, .bl _ => true | .str _, .str _ => true | .byt _, .byt _ => true
  | .int _, .str _ => true | .str _, .int _ => true | .bl _, .str _ => true | .str _, .bl _ => true
  | _, _ => false
noncomputable def rEq : R2 := fun x y H Q => scal x y = true ∧ Q (.bl (decide (x = y))) H
noncomputable def rNe : R2 := fun x y H Q => scal x y = true ∧ Q (.bl (!decide (x = y))) H

theorem dec_int {i j : Int} : decide (V.int i = V.int j) = (i == j) := by
  rw [Bool.eq_iff_iff]
  simp
theorem dec_bl {i j : Bool} : decide (V.bl i = V.bl j) = (i == j) := by
  rw [Bool.eq_iff_iff]
  simp
theorem dec_str {i j : Str} : decide (V.str i = V.str j) = (i == j) := by
  rw [Bool.eq_iff_iff]
  simp
theorem dec_byt {i j : Array UInt8} : decide (V.byt i = V.byt j) = (i.toList == j.toList) := by
  rw [Bool.eq_iff_iff]
  cases i
  cases j
  simp

section
variable {X : Cx} {a b c : Expr} {ta tb tc : TE} {pos : Pos}
theorem fin_bl {pins : List (Addr × Obj)} {σ : St} {H : Hp} {s : Shared} {Q : VK} {k k' : Bool} (I : Inv X pins σ H s) (q : Q (.bl k) H) (e : k = k') : EP X pins σ Q (.bool k') s := by
  subst e
  exact ⟨.bl k, H, I, rfl, q⟩
theorem op_eq : OpR X (compareOp .Eq) rEq := by
  intro pins s σ H x y v u Q I rx ry h
  obtain ⟨hs, q⟩ := h
  cases x with
  | non =>
    cases rx
    cases y with
    | non => cases ry; exact PySem.EqNone.eq_none_none (fin_bl I q (by simp))
    | bl j => cases ry; exact PySem.EqNone.eq_none_bool (fin_bl I q (by simp))
    | int j => obtain ⟨t', rfl⟩ := ry; exact PySem.EqNone.eq_none_int (fin_bl I q (by simp))
    | str j => obtain ⟨t', rfl⟩ := ry; exact PySem.EqNone.eq_none_str (fin_bl I q (by simp))
    | _ => exact absurd (show false = true from hs) Bool.false_ne_true
  | bl i =>
    cases rx
    cases y with
    | non => cases ry; exact PySem.EqNone.eq_bool_none (fin_bl I q (by simp))
    | bl j => cases ry; exact eq_bool (fin_bl I q dec_bl)
    | str j => obtain ⟨t', rfl⟩ := ry; exact PySem.EqMixed.eq_bool_str (fin_bl I q (by simp))
    | _ => exact absurd (show false = true from hs) Bool.false_ne_true
  | int i =>
    obtain ⟨t, rfl⟩ := rx
    cases y with
    | non => cases ry; exact PySem.EqNone.eq_int_none (fin_bl I q (by simp))
    | int j => obtain ⟨t', rfl⟩ := ry; exact eq_int (fin_bl I q dec_int)
    | str j => obtain ⟨t', rfl⟩ := ry; exact PySem.EqMixed.eq_int_str (fin_bl I q (by simp))
    | _ => exact absurd (show false = true from hs) Bool.false_ne_true
  | str i =>
    obtain ⟨t, rfl⟩ := rx
    cases y with
    | non => cases ry; exact PySem.EqNone.eq_str_none (fin_bl I q (by simp))
    | bl j => cases ry; exact PySem.EqMixed.eq_str_bool (fin_bl I q (by simp))
    | int j => obtain ⟨t', rfl⟩ := ry; exact PySem.EqMixed.eq_str_int (fin_bl I q (by simp))
    | str j => obtain ⟨t', rfl⟩ := ry; exact eq_str (fin_bl I q dec_str)
    | _ => exact absurd (show false = true from hs) Bool.false_ne_true
  | byt i =>
    obtain ⟨t, rfl⟩ := rx
    cases y with
    | byt j => obtain ⟨t', rfl⟩ := ry; exact PySem.W.eq_bytes (fin_bl I q dec_byt)
    | _ => exact absurd (show false = true from hs) Bool.false_ne_true
  | _ => cases y <;> exact absurd (show false = true from hs) Bool.false_ne_true
theorem op_ne : OpR X (compareOp .NotEq) rNe := by
  intro pins s σ H x y v u Q I rx ry h
  obtain ⟨hs, q⟩ := h
  cases x with
  | non =>
    cases rx
    cases y with
    | non => cases ry; exact PySem.EqNone.ne_none_none (fin_bl I q (by simp))
    | bl j => cases ry; exact PySem.EqNone.ne_none_bool (fin_bl I q (by simp))
    | int j => obtain ⟨t', rfl⟩ := ry; exact PySem.EqNone.ne_none_int (fin_bl I q (by simp))
    | str j => obtain ⟨t', rfl⟩ := ry; exact PySem.EqNone.ne_none_str (fin_bl I q (by simp))
    | _ => exact absurd (show false = true from hs) Bool.false_ne_true
  | bl i =>
    cases rx
    cases y with
    | non => cases ry; exact PySem.EqNone.ne_bool_none (fin_bl I q (by simp))
    | bl j => cases ry; exact ne_bool (fin_bl I q (congrArg not dec_bl))
    | str j => obtain ⟨t', rfl⟩ := ry; exact PySem.EqMixed.ne_bool_str (fin_bl I q (by simp))
    | _ => exact absurd (show false = true from hs) Bool.false_ne_true
  | int i =>
    obtain ⟨t, rfl⟩ := rx
    cases y with
    | non => cases ry; exact PySem.EqNone.ne_int_none (fin_bl I q (by simp))
    | int j => obtain ⟨t', rfl⟩ := ry; exact ne_int (fin_bl I q (congrArg not dec_int))
    | str j => obtain ⟨t', rfl⟩ := ry; exact PySem.EqMixed.ne_int_str (fin_bl I q (by simp))
    | _ => exact absurd (show false = true from hs) Bool.false_ne_true
  | str i =>
    obtain ⟨t, rfl⟩ := rx
    cases y with
    | non => cases ry; exact PySem.EqNone.ne_str_none (fin_bl I q (by simp))
    | bl j => cases ry; exact PySem.EqMixed.ne_str_bool (fin_bl I q (by simp))
    | int j => obtain ⟨t', rfl⟩ := ry; exact PySem.EqMixed.ne_str_int (fin_bl I q (by simp))
    | str j => obtain ⟨t', rfl⟩ := ry; exact ne_str (fin_bl I q (congrArg not dec_str))
    | _ => exact absurd (show false = true from hs) Bool.false_ne_true
  | byt i =>
    obtain ⟨t, rfl⟩ := rx
    cases y with
    | byt j => obtain ⟨t', rfl⟩ := ry; exact PySem.W.ne_bytes (fin_bl I q (congrArg not dec_byt))
    | _ => exact absurd (show false = true from hs) Bool.false_ne_true
  | _ => cases y <;> exact absurd (show false = true from hs) Bool.false_ne_true

theorem op_lt : OpR X (compareOp .Lt) (rI0 fun i j => .bl (decide (i < j))) := opB0 fun _ _ _ _ _ _ _ q => lt_int q
theorem op_le : OpR X (compareOp .LtE) (rI0 fun i j => .bl (decide (i ≤ j))) := opB0 fun _ _ _ _ _ _ _ q => le_int q
theorem op_gt : OpR X (compareOp .Gt) (rI0 fun i j => .bl (decide (j < i))) := opB0 fun _ _ _ _ _ _ _ q => gt_int q
theorem op_lt_str : OpR X (compareOp .Lt) (fun x y H Q => ∃ i j, x = .str i ∧ y = .str j ∧ Q (.bl (decide (i.cps.toList < j.cps.toList))) H) := by
  intro pins s σ H x y v u Q I rx ry h
  obtain ⟨i, j, rfl, rfl, q⟩ := h
  obtain ⟨t, rfl⟩ := rx
  obtain ⟨t', rfl⟩ := ry
  exact lt_str (fin_bl I q rfl)
theorem op_in_str : OpR X (compareOp .In) (fun x y H Q => ∃ i j, x = .str i ∧ y = .str j ∧ Q (.bl (!(Builtin.Str.occurrences j i 0 j.length 1).isEmpty)) H) := by
  intro pins s σ H x y v u Q I rx ry h
  obtain ⟨i, j, rfl, rfl, q⟩ := h
  obtain ⟨t, rfl⟩ := rx
  obtain ⟨t', rfl⟩ := ry
  exact in_str (fin_bl I q rfl)

theorem op_notin_str : OpR X (compareOp .NotIn) (fun x y H Q => ∃ i j, x = .str i ∧ y = .str j ∧ Q (.bl (!(!(Builtin.Str.occurrences j i 0 j.length 1).isEmpty))) H) := by
  intro pins s σ H x y v u Q I rx ry h
  obtain ⟨i, j, rfl, rfl, q⟩ := h
  obtain ⟨t, rfl⟩ := rx
  obtain ⟨t', rfl⟩ := ry
  exact notIn_str (fin_bl I q rfl)
theorem OpR.or {f : Value → Value → Sem Value} {r r' : R2} (h : OpR X f r) (h' : OpR X f r') : OpR X f (fun x y H Q => r x y H Q ∨ r' x y H Q) := by
  intro pins s σ H x y v u Q I rx ry q
  rcases q with q | q
  · exact h pins s σ H x y v u Q I rx ry q
  · exact h' pins s σ H x y v u Q I rx ry q

theorem nomark (b : Expr) {op : CmpOp} (h : op ≠ .In := by decide) (h2 : op ≠ .NotIn := by decide) : behindInMarks op b = false := by
  have e1 : (op == CmpOp.In) = false := by cases op <;> first | rfl | exact absurd rfl h
  have e2 : (op == CmpOp.NotIn) = false := by cases op <;> first | rfl | exact absurd rfl h2
  cases b <;> simp [behindInMarks, e1, e2]
theorem pe_cmpR {op : CmpOp} {r : R2} (ho : OpR X (compareOp op) r) (ha : PE X a ta) (hb : PE X b tb) (hm : behindInMarks op b = false) : PE X (.Compare a [op] [b] pos) (tOp r ta tb) := by
  intro pins s σ H Q I h
  exact wpAny_Compare1 (binT ha hb I h fun v u s2 x y H2 I2 rx ry q => ho pins s2 σ H2 x y v u Q I2 rx ry q) hm
noncomputable def tTest (t : TE) : TT := fun σ H Q => t σ H fun x H' => ∃ k, x = .bl k ∧ Q k H'
theorem pt_cmpR {op : CmpOp} {r : R2} (ho : OpR X (compareOp op) r) (ha : PE X a ta) (hb : PE X b tb) (hm : behindInMarks op b = false) : PT X (.Compare a [op] [b] pos) (tTest (tOp r ta tb)) := by
  intro pins s σ H Q I h
  refine wpAny_isTrue_Compare1 (thn (ha pins s σ H _ I h) fun v s1 ⟨x, H1, I1, r1, q1⟩ => thn (hb pins s1 σ H1 _ I1 q1) fun u s2 ⟨y, H2, I2, r2, q2⟩ =>
    thn (ho pins s2 σ H2 x y v u _ I2 r1 r2 q2) fun c s3 ⟨z, H3, I3, r3, k, e, q3⟩ => ?_) hm
  subst e
  cases r3
  exact wpAny_truthy_bool ⟨H3, I3, q3⟩
noncomputable def tChain (r r' : R2) (ta tb tc : TE) : TE := fun σ H Q => ta σ H fun x H1 => tb σ H1 fun y H2 => r x y H2 fun z H3 => ∃ k, z = .bl k ∧
  (if k = true then tc σ H3 fun w' H4 => r' y w' H4 Q else Q (.bl false) H3)
theorem pe_chain {op op' : CmpOp} {r r' : R2} (ho : OpR X (compareOp op) r) (ho' : OpR X (compareOp op') r') (ha : PE X a ta) (hb : PE X b tb) (hc : PE X c tc)
    (hm : lastMarks [op, op'] [b, c] = false := by with_unfolding_all rfl) : PE X (.Compare a [op, op'] [b, c] pos) (tChain r r' ta tb tc) := by
  intro pins s σ H Q I h
  refine Compare_chain (thn (ha pins s σ H _ I h) fun v s1 ⟨x, H1, I1, r1, q1⟩ => chain_link (thn (hb pins s1 σ H1 _ I1 q1) fun u s2 ⟨y, H2, I2, r2, q2⟩ =>
    thn (ho pins s2 σ H2 x y v u _ I2 r1 r2 q2) fun d s3 ⟨z, H3, I3, r3, k, e, q3⟩ => ?_)) hm
  subst e
  cases r3
  refine wpAny_truthy_bool ?_
  cases k with
  | false => exact ite_ff ⟨.bl false, H3, I3, rfl, q3⟩
  | true => exact ite_tt (chain_last (thn (hc pins s3 σ H3 _ I3 q3) fun w' s4 ⟨z', H4, I4, r4, q4⟩ => ho' pins s4 σ H4 y z' u w' Q I4 r2 r4 q4))
theorem pt_chain {op op' : CmpOp} {r r' : R2} (ho : OpR X (compareOp op) r) (ho' : OpR X (compareOp op') r') (ha : PE X a ta) (hb : PE X b tb) (hc : PE X c tc)
    (hm : lastMarks [op, op'] [b, c] = false := by with_unfolding_all rfl) : PT X (.Compare a [op, op'] [b, c] pos) (tTest (tChain r r' ta tb tc)) := by
  intro pins s σ H Q I h
  refine isTrue_chain (thn (ha pins s σ H _ I h) fun v s1 ⟨x, H1, I1, r1, q1⟩ => test_link (thn (hb pins s1 σ H1 _ I1 q1) fun u s2 ⟨y, H2, I2, r2, q2⟩ =>
    thn (ho pins s2 σ H2 x y v u _ I2 r1 r2 q2) fun d s3 ⟨z, H3, I3, r3, k, e, q3⟩ => ?_)) hm
  subst e
  cases r3
  refine wpAny_truthy_bool ?_
  cases k with
  | false =>
    obtain ⟨k', e', q'⟩ := q3
    cases e'
    exact ite_ff ⟨H3, I3, q'⟩
  | true =>
    refine ite_tt (test_last (thn (hc pins s3 σ H3 _ I3 q3) fun w' s4 ⟨z', H4, I4, r4, q4⟩ => thn (ho' pins s4 σ H4 y z' u w' _ I4 r2 r4 q4) fun d' s5 ⟨z2, H5, I5, r5, k2, e2, q5⟩ => ?_))
    subst e2
    cases r5
    exact wpAny_truthy_bool ⟨H5, I5, q5⟩

noncomputable def TruV (K : PySem.W.Frag) (x : V) (H : Hp) (k : Bool) : Prop :=
  match x with
  | .non => k = false
  | .bl b => k = b
  | .int i => k = (i != 0)
  | .str y => y.length ≤ sizeLine ∧ k = ((y.length : Int) != 0)
  | .byt y => y.size ≤ sizeLine ∧ k = ((y.size : Int) != 0)
  | .ref p => (∃ xs, SqL K H p xs ∧ k = !xs.isEmpty) ∨ (∃ xs, SqT K H p xs ∧ k = !xs.isEmpty) ∨ ∃ kvs, H p = some (.dK kvs) ∧ k = !kvs.isEmpty
  | _ => False
theorem isEmpty_kv {κ : Type} {kvs : List (κ × V)} {vs : List (κ × Value)} (r : KV kvs vs) : (!vs.isEmpty) = !kvs.isEmpty := by
  cases r <;> rfl
theorem isEmpty_of {xs : List V} {its : List Value} (r : Vals xs its) : (!its.toArray.isEmpty) = !xs.isEmpty := by
  cases r <;> simp
theorem line63 : (sizeLine : Nat) < 2 ^ 63 := by rw [sizeLine_eq]; decide
theorem tru_ok : TruR X (fun x H Q => ∃ k, TruV X.K x H k ∧ Q k H) := by
  intro pins s σ H x v Q I rx h
  obtain ⟨k, e, q⟩ := h
  have hl := line63
  have hs : sizeLine = 16777216 := sizeLine_eq
  cases x with
  | non =>
    cases rx
    have e' : k = false := e
    subst e'
    exact truthy_none ⟨H, I, q⟩
  | bl b =>
    cases rx
    have e' : k = b := e
    subst e'
    exact wpAny_truthy_bool ⟨H, I, q⟩
  | int i =>
    obtain ⟨t, rfl⟩ := rx
    have e' : k = (i != 0) := e
    subst e'
    exact PySem.P.truthy_int ⟨H, I, q⟩
  | str y =>
    obtain ⟨t, rfl⟩ := rx
    obtain ⟨hy, e'⟩ : y.length ≤ sizeLine ∧ k = ((y.length : Int) != 0) := e
    subst e'
    exact PySem.P.truthy_str (by omega) ⟨H, I.tok _, q⟩
  | byt y =>
    obtain ⟨t, rfl⟩ := rx
    obtain ⟨hy, e'⟩ : y.size ≤ sizeLine ∧ k = ((y.size : Int) != 0) := e
    subst e'
    exact PySem.W.truthy_bytes (by omega) ⟨H, I.tok _, q⟩
  | ref p =>
    cases rx
    have e' : (∃ xs, SqL X.K H p xs ∧ k = !xs.isEmpty) ∨ (∃ xs, SqT X.K H p xs ∧ k = !xs.isEmpty) ∨ ∃ kvs, H p = some (.dK kvs) ∧ k = !kvs.isEmpty := e
    rcases e' with ⟨xs, hx, e'⟩ | ⟨xs, hx, e'⟩ | ⟨kvs, hx, e'⟩
    · subst e'
      obtain ⟨its, r, pl, hz⟩ := I.list hx
      have hlen := r.length
      exact wpAny_truthy_list pl.isList (by simp only [List.size_toArray]; omega) ⟨H, I.tok _, by rw [isEmpty_of r]; exact q⟩
    · subst e'
      obtain ⟨its, r, pl, hz⟩ := I.tuple hx
      have hlen := r.length
      exact truthy_tuple pl (by simp only [List.size_toArray]; omega) ⟨H, I.tok _, by rw [isEmpty_of r]; exact q⟩
    · subst e'
      obtain ⟨hz, hS, vs, r, m⟩ : kvs.length ≤ sizeLine ∧ (p == sysModules) = false ∧ ∃ vs, KV kvs vs ∧ s.heap.DictOf (mixKind X.prog X.w) p vs := I.hok p _ hx
      have hlen : kvs.length = vs.length := Paired.length r
      exact wpAny_truthy_dict hS m (by omega) ⟨H, I.tok _, by rw [isEmpty_kv r]; exact q⟩
  | _ => exact (show False from e).elim
theorem pt_truth (ha : PE X a ta) (he : ∀ whole, isTrue a X.env whole = (do let v ← whole; standAt a.pos; holding [v] (truthy v))) :
    PT X a (fun σ H Q => ta σ H fun x H' => ∃ k, TruV X.K x H' k ∧ Q k H') := by
  intro pins s σ H Q I h
  exact isTrue_plain (thn (ha pins s σ H _ I h) fun v s1 ⟨x, H1, I1, r1, q1⟩ => tru_ok pins s1 σ H1 x v Q I1 r1 q1) (he _)

theorem op_add_str : OpR X (binaryOp .Add) (fun x y H Q => ∃ i j, x = .str i ∧ y = .str j ∧ i.length + j.length ≤ sizeLine ∧ Q (.str (i ++ j)) H) := by
  intro pins s σ H x y v u Q I rx ry h
  obtain ⟨i, j, rfl, rfl, hz, q⟩ := h
  obtain ⟨t, rfl⟩ := rx
  obtain ⟨t', rfl⟩ := ry
  exact add_str (fun t' tk => ⟨.str (i ++ j), H, I.tok _, ⟨_, rfl⟩, q⟩) hz
theorem vals1 {x : V} {us : List Value} (r : Vals [x] us) : ∃ u, us = [u] ∧ RelV x u := by
  cases r with
  | cons r1 r2 => cases r2; exact ⟨_, rfl, r1⟩
theorem call_int1 : CallR X (.type "int") (fun xs H Q => (∃ i, xs = [.int i] ∧ Q (.int i) H) ∨ ∃ k, xs = [.bl k] ∧ Q (.int (if k then 1 else 0)) H) := by
  intro pins s σ H xs us Q I r h
  rcases h with ⟨i, rfl, q⟩ | ⟨k, rfl, q⟩
  · obtain ⟨u, rfl, t, rfl⟩ := vals1 r
    exact call_int_int ⟨.int i, H, I, ⟨_, rfl⟩, q⟩
  · obtain ⟨u, rfl, r1⟩ := vals1 r
    cases r1
    exact call_int_bool ⟨.int (if k then 1 else 0), H, I.tok _, ⟨_, rfl⟩, q⟩
noncomputable def LenV (K : PySem.W.Frag) (x : V) (H : Hp) (n : Nat) : Prop :=
  match x with
  | .str y => y.length ≤ sizeLine ∧ n = y.length
  | .byt y => y.size ≤ sizeLine ∧ n = y.size
  | .ref p => (∃ xs, SqL K H p xs ∧ n = xs.length) ∨ ∃ xs, SqT K H p xs ∧ n = xs.length
  | _ => False
theorem call_len : CallR X (.builtin "len") (fun xs H Q => ∃ x n, xs = [x] ∧ LenV X.K x H n ∧ Q (.int n) H) := by
  intro pins s σ H xs us Q I r h
  obtain ⟨x, n, rfl, e, q⟩ := h
  obtain ⟨u, rfl, rx⟩ := vals1 r
  have hl := line63
  have hs : sizeLine = 16777216 := sizeLine_eq
  cases x with
  | str y =>
    obtain ⟨t, rfl⟩ := rx
    obtain ⟨hy, e'⟩ : y.length ≤ sizeLine ∧ n = y.length := e
    subst e'
    exact len_str (by omega) ⟨.int _, H, I.tok _, ⟨_, rfl⟩, q⟩
  | byt y =>
    obtain ⟨t, rfl⟩ := rx
    obtain ⟨hy, e'⟩ : y.size ≤ sizeLine ∧ n = y.size := e
    subst e'
    exact PySem.W.len_bytes (by omega) ⟨.int _, H, I.tok _, ⟨_, rfl⟩, q⟩
  | ref p =>
    cases rx
    have e' : (∃ xs, SqL X.K H p xs ∧ n = xs.length) ∨ ∃ xs, SqT X.K H p xs ∧ n = xs.length := e
    rcases e' with ⟨xs, hx, e'⟩ | ⟨xs, hx, e'⟩
    · subst e'
      obtain ⟨its, r', pl, hz⟩ := I.list hx
      have hlen := r'.length
      exact Calls.call_len_list pl.isList (by simp only [List.size_toArray]; omega) ⟨.int xs.length, H, I.tok _, ⟨_, by simp only [List.size_toArray]; rw [hlen]⟩, q⟩
    · subst e'
      obtain ⟨its, r', pl, hz⟩ := I.tuple hx
      have hlen := r'.length
      exact len_tuple pl (by simp only [List.size_toArray]; omega) ⟨.int xs.length, H, I.tok _, ⟨_, by simp only [List.size_toArray]; rw [hlen]⟩, q⟩
  | _ => exact (show False from e).elim
end
end L2

namespace L2
open PySem PySem.Spec PyProof.Rows

structure ObjM (h : Heap) (x dx C : Addr) (mA : Str → Option Value) : Prop where
  obj : h.get? x = some (PySem.W.instObj C dx)
  ns : h.Ns1 dx mA
  ne : dx ≠ x

theorem lookIn_ns {h : Heap} {dx : Addr} {mA : Str → Option Value} (n : h.Ns1 dx mA) : ∃ od, h.get? dx = some od ∧ ∀ name, PySem.W.lookIn name od = some (mA name) := by
  obtain ⟨o, es, ep, ho, hd, hk, _, hm⟩ := n
  refine ⟨o, ho, fun name => ?_⟩
  have e := hm name
  unfold nsFind findBy at e
  rw [← Array.find?_toList] at e
  unfold PySem.W.lookIn
  rw [hd]
  dsimp only
  split
  · rename_i y q
    rw [q] at e
    exact congrArg some e
  · rename_i q
    rw [q] at e
    have a : es.toList.any (·.refKey) = false := by
      rw [List.any_eq_false]
      intro y hy
      obtain ⟨z, t, hkey⟩ := hk y (Array.mem_toList_iff.mp hy)
      simp [DictEntry.refKey, hkey]
    have a' : ¬ es.toList.any (·.refKey) = true := by rw [a]; exact Bool.false_ne_true
    rw [if_neg a']
    exact congrArg some e

theorem ObjM.look {h : Heap} {x dx C : Addr} {mA : Str → Option Value} (I : ObjM h x dx C mA) : ∃ od, PySem.W.InstAt h x (PySem.W.instObj C dx) C (some od) ∧ ∀ name, PySem.W.lookIn name od = some (mA name) :=
  let ⟨od, ho, hl⟩ := lookIn_ns I.ns
  ⟨od, ⟨I.obj, rfl, rfl, ho⟩, hl⟩

section
variable {prog : Program} {w : World} {A : Around} {E : Value → Shared → Prop} {s : Shared} {K : PySem.W.Frag} {x dx C f : Addr} {mA : Str → Option Value} {name : Str} {v : Value}

theorem get_map {expr : Bool} {Q : Value → Shared → Prop} (X : K.In s.heap) (I : ObjM s.heap x dx C mA) (hg : PySem.W.plainGet K C name = true) (hh : PySem.W.hasDictIn K C = true)
    (ha : PySem.W.findIn K (.ref C) name = some none) (hv : mA name = some v) (hv' : PySem.W.handedIn v = true) (h : Q v { s with toks := s.toks + 1 }) :
    wpAny (model prog w) A (getAttr (.ref x) name expr) Q E s := by
  obtain ⟨od, J, hl⟩ := I.look
  exact PySem.W.get_value X J (PySem.W.plainGet_of hg).1 (PySem.W.findObj_own hh ha rfl (by rw [hl, hv])) hv' h

theorem get_meth {pl : Sem Bool} {Q : Value × List Value → Shared → Prop} (X : K.In s.heap) (I : ObjM s.heap x dx C mA) (hg : PySem.W.plainGet K C name = true)
    (hf : PySem.W.findIn K (.ref C) name = some (some (.ref f))) (ht : PySem.W.isFn K (.ref f) = true) (hv : mA name = none) (h : Q (.ref f, [.ref x]) s) :
    wpAny (model prog w) A (getMethod (.ref x) name pl) Q E s := by
  obtain ⟨od, J, hl⟩ := I.look
  exact PySem.W.method_fn X J (PySem.W.plainGet_of hg).1 (PySem.W.plainGet_of hg).2 hf (beq_iff_eq.mp ht) (by show (PySem.W.lookIn name od).map (·.isSome) = some false; rw [hl, hv]; rfl) h

theorem set_map {ns : List Str} {Q : Unit → Shared → Prop} (X : K.In s.heap) (I : ObjM s.heap x dx C mA)
    (hs : PySem.W.findIn K (.ref C) "__setattr__" = some (some (.builtin "object.__setattr__"))) (hp : PySem.W.plainOver K C = true) (ht : PySem.W.takerIn K C name = some none) (hh : PySem.W.hasDictIn K C = true)
    (hw : PySem.Within mA ns) (hsz : ns.length ≤ sizeLine)
    (h : ∀ h', ObjM h' x dx C (fun y => if y = name then some v else mA y) → Heap.SameBut dx s.heap h' → Q () { s with heap := h', toks := s.toks + 2 }) :
    wpAny (model prog w) A (setAttr (.ref x) name v) Q E s := by
  obtain ⟨od, J, hl⟩ := I.look
  refine PySem.W.set_plain X J hs (PySem.W.osa_open (s := { s with toks := s.toks + 1 }) (r := none) X J hp ht fun b => ?_)
  obtain ⟨cd, hc, hd'⟩ := PySem.W.any_some hh
  have hx : s.heap.get? x = some ⟨.ref C, some dx, .plain, #[]⟩ := I.obj
  refine wpAny_bind (wpAny_pure (wpAny_bind (wpAny_bind (wpAny_loadPart hx (wpAny_bind (PySem.W.Looks.here (s := { s with toks := s.toks + 1 }) (PySem.W.looks_clsIn X hc) ?_))))))
  rw [hd']
  refine wpAny_pure (a := some dx) (wpAny_bind (wpAny_pure (wpAny_bind ?_)))
  refine wpAny_nsSet1 (s := { s with toks := s.toks + 1 }) I.ns fun h' hn2 hs2 => ?_
  obtain ⟨oD, esD, epD, hoD, hdD, hcD⟩ := hn2.count (PySem.Within.cons name v hw)
  refine wpAny_bind (wpAny_lookBehind hoD (by rw [hdD]; exact pastItsLine_dict (Nat.le_trans hcD (by rw [List.length_cons]; omega))) ?_)
  exact wpAny_pure (h _ ⟨(hs2.2 _ (Ne.symm I.ne)).trans I.obj, hn2, I.ne⟩ hs2)

theorem make_map {R : Result → Shared → Prop} {vs : List Value} {kw : List (Str × Value)} (X : K.In s.heap) (hm : PySem.W.makesIn K C = true)
    (hi : PySem.W.findIn K (.ref C) "__init__" = some (some (.ref f))) (hf : PySem.W.typeIn K (.ref f) = some (.type "function"))
    (h : codeAny (model prog w) (A.under (.builtin "type.__call__" ⟨.ref C :: vs, kw⟩)) (.call (.ref f) ⟨.ref (s.heap.objs.size + 1) :: vs, kw⟩) (PySem.W.InitBack (s.heap.objs.size + 1) R)
      { s with heap := (s.heap.push PySem.W.emptyDict).push (PySem.W.instObj C s.heap.objs.size) }) :
    codeAny (model prog w) A (.call (.ref C) ⟨vs, kw⟩) R s := by
  obtain ⟨hh, g, d, t, os⟩ := s
  exact PySem.W.make_core (PySem.W.makes_of X hm) (PySem.W.looks_findIn X hi) (fun self => PySem.W.bind_fn X self hf) (.inl rfl) h
theorem make_map0 {R : Result → Shared → Prop} (X : K.In s.heap) (hm : PySem.W.makesIn K C = true)
    (hi : PySem.W.findIn K (.ref C) "__init__" = some (some (.builtin "object.__init__")))
    (hb : ∀ self, PySem.W.Looks (model prog w) s.heap (bindSpecial (.builtin "object.__init__") self) (.builtin "object.__init__", [self]))
    (h : codeAny (model prog w) (A.under (.builtin "type.__call__" ⟨[.ref C], []⟩)) (.call (.builtin "object.__init__") ⟨[.ref (s.heap.objs.size + 1)], []⟩) (PySem.W.InitBack (s.heap.objs.size + 1) R)
      { s with heap := (s.heap.push PySem.W.emptyDict).push (PySem.W.instObj C s.heap.objs.size) }) :
    codeAny (model prog w) A (.call (.ref C) ⟨[], []⟩) R s := by
  obtain ⟨hh, g, d, t, os⟩ := s
  exact PySem.W.make_core (PySem.W.makes_of X hm) (PySem.W.looks_findIn X hi) hb (.inr ⟨rfl, rfl⟩) h
end

noncomputable def putF (f : Str) (v : V) : List (Str × V) → List (Str × V)
  | [] => [(f, v)]
  | (g, x) :: r => if g = f then (g, v) :: r else (g, x) :: putF f v r
theorem lookup_putF (f g : Str) (v : V) : ∀ fs : List (Str × V), (putF f v fs).lookup g = if g = f then some v else fs.lookup g
  | [] => by
    show List.lookup g [(f, v)] = _
    by_cases h : g = f
    · have hb : (g == f) = true := beq_iff_eq.mpr h
      simp only [List.lookup, hb, if_pos h]
    · have hb : (g == f) = false := beq_eq_false_iff_ne.mpr h
      simp only [List.lookup, hb, if_neg h]
  | (k, x) :: r => by
    have ih := lookup_putF f g v r
    rw [show putF f v ((k, x) :: r) = (if k = f then (k, v) :: r else (k, x) :: putF f v r) from rfl]
    by_cases hk : k = f
    · rw [if_pos hk]
      by_cases h : g = k
      · have hb : (g == k) = true := beq_iff_eq.mpr h
        simp only [List.lookup, hb, if_pos (h.trans hk)]
      · have hb : (g == k) = false := beq_eq_false_iff_ne.mpr h
        simp only [List.lookup, hb, if_neg (fun e : g = f => h (e.trans hk.symm))]
    · rw [if_neg hk]
      by_cases h : g = k
      · have hb : (g == k) = true := beq_iff_eq.mpr h
        simp only [List.lookup, hb, if_neg (fun e : g = f => hk (h.symm.trans e))]
      · have hb : (g == k) = false := beq_eq_false_iff_ne.mpr h
        simp only [List.lookup, hb]
        exact ih
theorem keys_putF (f : Str) (v : V) : ∀ fs : List (Str × V), f ∈ (putF f v fs).map (·.1) ∧ ∀ g, g ∈ fs.map (·.1) → g ∈ (putF f v fs).map (·.1)
  | [] => ⟨by simp [putF], fun g h => by simp at h⟩
  | (k, x) :: r => by
    obtain ⟨i1, i2⟩ := keys_putF f v r
    rw [show putF f v ((k, x) :: r) = (if k = f then (k, v) :: r else (k, x) :: putF f v r) from rfl]
    by_cases hk : k = f
    · rw [if_pos hk]
      subst hk
      exact ⟨by simp, fun g h => by simpa using h⟩
    · rw [if_neg hk]
      refine ⟨?_, fun g h => ?_⟩
      · rw [List.map_cons]
        exact List.mem_cons_of_mem _ i1
      · rw [List.map_cons] at h ⊢
        rcases List.mem_cons.mp h with e | e
        · exact List.mem_cons.mpr (.inl e)
        · exact List.mem_cons_of_mem _ (i2 g e)
theorem length_putF (f : Str) (v : V) : ∀ fs : List (Str × V), (putF f v fs).length ≤ fs.length + 1
  | [] => by simp [putF]
  | (k, x) :: r => by
    have ih := length_putF f v r
    rw [show putF f v ((k, x) :: r) = (if k = f then (k, v) :: r else (k, x) :: putF f v r) from rfl]
    by_cases hk : k = f
    · rw [if_pos hk, List.length_cons, List.length_cons]; omega
    · rw [if_neg hk, List.length_cons, List.length_cons]; omega

theorem RelO.some_of {v : V} {o : Option Value} (r : RelO (some v) o) : ∃ u, o = some u ∧ RelV v u := by
  cases o with
  | none => exact (show False from r).elim
  | some u => exact ⟨u, rfl, r⟩
theorem RelO.none_of {o : Option Value} (r : RelO none o) : o = none := by
  cases o with
  | none => rfl
  | some u => exact (show False from r).elim
theorem handed_of {v : V} {u : Value} (r : RelV v u) : PySem.W.handedIn u = true := by
  cases v with
  | non => cases (show u = Value.none from r); rfl
  | bl b => cases (show u = Value.bool b from r); rfl
  | int i => obtain ⟨t, e⟩ := (show ∃ t, u = Value.int i t from r); cases e; rfl
  | str x => obtain ⟨t, e⟩ := (show ∃ t, u = Value.str x t from r); cases e; rfl
  | byt b => obtain ⟨t, e⟩ := (show ∃ t, u = Value.bytes b t from r); cases e; rfl
  | flt b => obtain ⟨t, e⟩ := (show ∃ t, u = Value.float b t from r); cases e; rfl
  | ref a => cases (show u = Value.ref a from r); rfl
  | ty n => cases (show u = Value.type n from r); rfl

section
variable {P : Program} {w : World} {H H' : Hp} {h h' : Heap} {a C dx : Addr} {fs fs' : List (Str × V)}
theorem ins_get (hok : HOk P w H h) (e : H a = some (.ins C dx fs)) : ∃ mA, ObjM h a dx C mA ∧ (∀ f, RelO (fs.lookup f) (mA f)) ∧ PySem.Within mA (fs.map (·.1)) ∧ fs.length ≤ 1000 ∧ H dx = some (.own a) := by
  obtain ⟨d, z, ne, ob, mA, n, r, q⟩ := (show ObjOk P w H h a (.ins C dx fs) from hok a _ e)
  exact ⟨mA, ⟨ob, n, ne⟩, r, q, z, d⟩
end

structure Cls (K : PySem.W.Frag) (C : Addr) : Prop where
  pg : PySem.W.plainGet K C Str.empty = true
  hd : PySem.W.hasDictIn K C = true
  po : PySem.W.plainOver K C = true
  sa : PySem.W.findIn K (.ref C) "__setattr__" = some (some (.builtin "object.__setattr__"))
theorem Cls.get {K : PySem.W.Frag} {C : Addr} (c : Cls K C) (f : Str) : PySem.W.plainGet K C f = true := c.pg
noncomputable def NoAttr (K : PySem.W.Frag) (C : Addr) (f : Str) : Prop := PySem.W.findIn K (.ref C) f = some none
theorem NoAttr.taker {K : PySem.W.Frag} {C : Addr} {f : Str} (n : NoAttr K C f) : PySem.W.takerIn K C f = some none := by
  unfold PySem.W.takerIn
  rw [show PySem.W.findIn K (.ref C) f = some none from n]
  rfl
structure Con (K : PySem.W.Frag) (C : Addr) (f : Str) (v : V) (u : Value) : Prop where
  at_ : PySem.W.findIn K (.ref C) f = some (some u)
  rel : RelV v u
  get : PySem.W.specialIn K u "__get__" = some none
  cp : PySem.W.copiedNames.contains f = false
structure Meth (K : PySem.W.Frag) (C : Addr) (m : Str) (f : Addr) : Prop where
  at_ : PySem.W.findIn K (.ref C) m = some (some (.ref f))
  fn : PySem.W.isFn K (.ref f) = true
  kp : PySem.W.keepIn K (.ref f) = true

section
variable {X : Cx} {pins : List (Addr × Obj)} {σ : St} {H : Hp} {s : Shared} {a C dx : Addr} {fs : List (Str × V)} {f : Str} {v : V} {A : Around} {E : Value → Shared → Prop}

theorem getattr_ok {b : Bool} {Q : Value → Shared → Prop} (I : Inv X pins σ H s) (e : H a = some (.ins C dx fs)) (c : Cls X.K C) (n : NoAttr X.K C f) (l : fs.lookup f = some v)
    (h : ∀ u s', Inv X pins σ H s' → RelV v u → Q u s') : wpAny (model X.prog X.w) A (getAttr (.ref a) f b) Q E s := by
  obtain ⟨mA, O, r, _, _, _⟩ := ins_get I.hok e
  obtain ⟨u, hu, ru⟩ := RelO.some_of (v := v) (o := mA f) (by rw [← l]; exact r f)
  exact get_map I.kIn O (c.get f) c.hd n hu (handed_of ru) (h u _ (I.tok _) ru)

theorem getmeth_ok {m : Str} {g : Addr} {pl : Sem Bool} {Q : Value × List Value → Shared → Prop} (I : Inv X pins σ H s) (e : H a = some (.ins C dx fs)) (c : Cls X.K C) (k : Meth X.K C m g) (l : fs.lookup m = none)
    (h : Q (.ref g, [.ref a]) s) : wpAny (model X.prog X.w) A (getMethod (.ref a) m pl) Q E s := by
  obtain ⟨mA, O, r, _, _, _⟩ := ins_get I.hok e
  have hn : mA m = none := RelO.none_of (by rw [← l]; exact r m)
  exact get_meth I.kIn O (c.get m) k.at_ k.fn hn h

theorem setattr_ok {y : V} {u : Value} {Q : Unit → Shared → Prop} (I : Inv X pins σ H s) (e : H a = some (.ins C dx fs)) (c : Cls X.K C) (n : NoAttr X.K C f) (hl : fs.length < 1000) (ry : RelV y u)
    (h : ∀ s', Inv X pins σ (upd H a (.ins C dx (putF f y fs))) s' → Q () s') : wpAny (model X.prog X.w) A (setAttr (.ref a) f u) Q E s := by
  obtain ⟨mA, O, r, wi, _, ho⟩ := ins_get I.hok e
  have hz : (fs.map (·.1)).length ≤ sizeLine := by rw [List.length_map, sizeLine_eq]; omega
  refine set_map I.kIn O c.sa c.po n.taker c.hd wi hz fun h' O' sb => h _ ?_
  have hd : ∃ o, h'.get? dx = some o := let ⟨o, _, _, e', _⟩ := O'.ns; ⟨o, e'⟩
  refine I.write (x := a) (e := dx) (by rw [e]; exact True.intro) (.inr ho) (fun b q hb z => (sb.2 b hb).trans z) hd ?_
  refine ⟨by rw [upd_ne O.ne]; exact ho, ?_, O.ne, O'.obj, _, O'.ns, fun g => ?_, fun g hg => ?_⟩
  · have := length_putF f y fs; omega
  · show RelO ((putF f y fs).lookup g) (if g = f then some u else mA g)
    rw [lookup_putF]
    by_cases q : g = f
    · rw [if_pos q, if_pos q]; exact ry
    · rw [if_neg q, if_neg q]; exact r g
  · by_cases q : g = f
    · rw [q]; exact (keys_putF f y fs).1
    · refine (keys_putF f y fs).2 g (wi g fun z => hg ?_)
      show (if g = f then some u else mA g) = none
      rw [if_neg q]; exact z

theorem Inv.made (I : Inv X pins σ H s) : Inv X pins σ (upd (upd H s.heap.objs.size (.own (s.heap.objs.size + 1))) (s.heap.objs.size + 1) (.ins C s.heap.objs.size []))
    { s with heap := (s.heap.push PySem.W.emptyDict).push (PySem.W.instObj C s.heap.objs.size) } := by
  have e1 : (s.heap.push PySem.W.emptyDict).get? s.heap.objs.size = some PySem.W.emptyDict := Heap.get?_push_size s.heap rfl
  have e2 : ((s.heap.push PySem.W.emptyDict).push (PySem.W.instObj C s.heap.objs.size)).get? (s.heap.objs.size + 1) = some (PySem.W.instObj C s.heap.objs.size) := by
    have := Heap.get?_push_size (s.heap.push PySem.W.emptyDict) (o := PySem.W.instObj C s.heap.objs.size) rfl
    rwa [Heap.size_push] at this
  have e3 : (s.heap.push PySem.W.emptyDict).Ns s.heap.objs.size (fun _ => none) := ⟨PySem.W.emptyDict, #[], _, e1, rfl, (fun e he => absurd he (by simp)), fun _ => rfl⟩
  have I1 := I.laid (a := s.heap.objs.size) (o := .own (s.heap.objs.size + 1)) (h' := s.heap.push PySem.W.emptyDict) (t' := s.toks) (fun b u q => Heap.get?_push_of_some _ q) (Nat.le_refl _) ⟨_, e1⟩
  refine I1.laid (a := s.heap.objs.size + 1) (o := .ins C s.heap.objs.size []) (t' := s.toks) (fun b u q => Heap.get?_push_of_some _ q) (Nat.le_of_eq (Heap.size_push _ _)) ?_
  have ne : s.heap.objs.size ≠ s.heap.objs.size + 1 := Nat.ne_of_lt (Nat.lt_succ_self _)
  refine ⟨by rw [upd_ne ne, upd_same], Nat.zero_le _, ne, e2, fun _ => none, (Heap.Ns1.of_empty e3).at fun o q => Heap.get?_push_of_some _ q, fun _ => True.intro, fun y hy => absurd rfl hy⟩

theorem attr_of {prog : Program} {w : World} {env : Env} {e : Expr} {f : Str} {pos : Pos} {s : Shared} {Q : Value → Shared → Prop} (hb : attributeBase e f env (eval e env) = eval e env)
    (h : wpAny (model prog w) A (eval e env) (fun o s₁ => wpAny (model prog w) A (getAttr o f true) Q E s₁) E s) : wpAny (model prog w) A (eval (.Attribute e f pos) env) Q E s :=
  Attribute_any_ h (by rw [arm_eval_Attribute, hb])
end

noncomputable def tFld (K : PySem.W.Frag) (ta : TE) (f : Str) : TE := fun σ H Q => ta σ H fun x H1 => ∃ a C dx fs v, x = .ref a ∧ H1 a = some (.ins C dx fs) ∧ Cls K C ∧ NoAttr K C f ∧ fs.lookup f = some v ∧ Q v H1
noncomputable def sFld (K : PySem.W.Frag) (ta tv : TE) (f : Str) : TS := fun D σ H => tv σ H fun y H1 => ta σ H1 fun x H2 => ∃ a C dx fs, x = .ref a ∧ H2 a = some (.ins C dx fs) ∧ Cls K C ∧ NoAttr K C f ∧ fs.length < 1000 ∧
  D.nx σ (upd H2 a (.ins C dx (putF f y fs)))
section
variable {X : Cx} {o e value : Expr} {f : Str} {pos pos' tpos : Pos} {ta tv : TE}
theorem pe_fld (he : PE X e ta) (hb : attributeBase e f X.env (eval e X.env) = eval e X.env) : PE X (.Attribute e f pos) (tFld X.K ta f) := by
  intro pins s σ H Q I h
  refine attr_of hb (thn (he pins s σ H _ I h) fun u s1 ⟨x, H1, I1, rx, a, C, dx, fs, v, ex, ea, c, n, l, q⟩ => ?_)
  subst ex
  obtain rfl : u = Value.ref a := rx
  exact getattr_ok I1 ea c n l fun u' s2 I2 ru => ⟨v, H1, I2, ru, q⟩
theorem ps_fld (ha : PE X o ta) (hv : PE X value tv) (hs : swapsWith value (some (.Attribute o f pos')) pos.line X.env = pure false) : PS X (.Assign [.Attribute o f pos'] value pos) (sFld X.K ta tv f) := by
  intro pins s σ H D I h
  refine plainObj_wpAny_Assign_Attribute (thn (hv pins s σ H _ I h) fun u s1 ⟨y, H1, I1, ry, q⟩ => thn (ha pins s1 σ H1 _ I1 q) fun ov s2 ⟨x, H2, I2, rx, a, C, dx, fs, ex, ea, c, n, l, q2⟩ => ?_) hs
  subst ex
  obtain rfl : ov = Value.ref a := rx
  exact setattr_ok I2 ea c n l ry fun s3 I3 => ⟨σ, _, I3, q2⟩
end

section
variable {X : Cx} {pins : List (Addr × Obj)} {σ : St} {H : Hp} {s : Shared} {A : Around} {E : Value → Shared → Prop} {Q : Value → Shared → Prop} {c : Value} {b : Bool}
inductive TyOf (K : PySem.W.Frag) (H : Hp) : V → Value → Prop where
  | non : TyOf K H .non (.type "NoneType")
  | bl (x : Bool) : TyOf K H (.bl x) (.type "bool")
  | int (i : Int) : TyOf K H (.int i) (.type "int")
  | str (x : Str) : TyOf K H (.str x) (.type "str")
  | flt (x : UInt64) : TyOf K H (.flt x) (.type "float")
  | lst {a : Addr} {xs : List V} (e : H a = some (.lst xs)) : TyOf K H (.ref a) (.type "list")
  | frz {a : Addr} {o : Obj} {xs : List V} (e : H a = some (.frz o (.lst xs))) : TyOf K H (.ref a) (.type "list")
  | tup {a : Addr} {xs : List V} (e : H a = some (.tup xs)) : TyOf K H (.ref a) (.type "tuple")
  | dK {a : Addr} {kvs : List (Key × V)} (e : H a = some (.dK kvs)) : TyOf K H (.ref a) (.type "dict")
  | dT {a : Addr} {kvs : List (List Key × V)} (e : H a = some (.dT kvs)) : TyOf K H (.ref a) (.type "dict")
  | ins {a C dx : Addr} {fs : List (Str × V)} (e : H a = some (.ins C dx fs)) (cl : Cls K C) (ha : PySem.W.findIn K (.ref C) "__class__" = some (some (.builtin "object.__class__")))
      (hn : PySem.W.specialIn K (.builtin "object.__class__") "__get__" = some (some (.builtin "getset_descriptor.__get__"))) (htk : PySem.W.takesIn K (.builtin "object.__class__") = some true)
      (hm : PySem.W.mroIn K C (.type "object") = some true) : TyOf K H (.ref a) (.ref C)
theorem isinst_ok {x : V} {u t : Value} (I : Inv X pins σ H s) (rx : RelV x u) (ty : TyOf X.K H x t) (e : PySem.W.kitOne X.K t c = some b) (h : ∀ tk, Q (.bool b) { s with toks := tk }) :
    wpAny (model X.prog X.w) A (call (.builtin "isinstance") [u, c]) Q E s := by
  cases ty with
  | non => cases (show u = Value.none from rx); exact PySem.W.kia_one PySem.W.kitx_none I.kIn True.intro e (fun z => nomatch z) h
  | bl y => cases (show u = Value.bool y from rx); exact PySem.W.kia_one PySem.W.kitx_bool I.kIn True.intro e (fun z => nomatch z) h
  | int i => obtain ⟨t, q⟩ := (show ∃ t, u = Value.int i t from rx); cases q; exact PySem.W.kia_one PySem.W.kitx_int I.kIn True.intro e (fun z => nomatch z) h
  | str y => obtain ⟨t, q⟩ := (show ∃ t, u = Value.str y t from rx); cases q; exact PySem.W.kia_one PySem.W.kitx_str I.kIn True.intro e (fun z => nomatch z) h
  | flt y => obtain ⟨t, q⟩ := (show ∃ t, u = Value.float y t from rx); cases q; exact PySem.W.kia_one PySem.W.kitx_float I.kIn True.intro e (fun z => nomatch z) h
  | @lst a xs ea =>
    cases (show u = Value.ref a from rx)
    obtain ⟨_, _, n, _, h1⟩ := (show ObjOk X.prog X.w H s.heap a (.lst xs) from I.hok a _ ea)
    exact PySem.W.kia_one PySem.W.kitx_list I.kIn ⟨_, h1, rfl⟩ e (fun z => nomatch z) h
  | @frz a ob xs ea =>
    cases (show u = Value.ref a from rx)
    obtain ⟨_, _, _, n, _, h1⟩ := (show ObjOk X.prog X.w H s.heap a (.frz ob (.lst xs)) from I.hok a _ ea)
    exact PySem.W.kia_one PySem.W.kitx_list I.kIn ⟨_, h1, rfl⟩ e (fun z => nomatch z) h
  | @tup a xs ea =>
    cases (show u = Value.ref a from rx)
    obtain ⟨_, _, _, p⟩ := (show ObjOk X.prog X.w H s.heap a (.tup xs) from I.hok a _ ea)
    obtain ⟨o, h1, h2, _⟩ := p
    exact PySem.W.kia_one PySem.W.kitx_tuple I.kIn ⟨o, h1, h2⟩ e (fun z => nomatch z) h
  | @dK a kvs ea =>
    cases (show u = Value.ref a from rx)
    obtain ⟨_, _, vs, _, p⟩ := (show ObjOk X.prog X.w H s.heap a (.dK kvs) from I.hok a _ ea)
    obtain ⟨o, es, ep, h1, h2, _⟩ := p
    exact PySem.W.kia_one PySem.W.kitx_dict I.kIn ⟨o, h1, h2.1⟩ e (fun z => nomatch z) h
  | @dT a kvs ea =>
    cases (show u = Value.ref a from rx)
    obtain ⟨_, _, xs, _, o, es, ep, h1, h2, _⟩ := (show ObjOk X.prog X.w H s.heap a (.dT kvs) from I.hok a _ ea)
    exact PySem.W.kia_one PySem.W.kitx_dict I.kIn ⟨o, h1, h2.1⟩ e (fun z => nomatch z) h
  | @ins a C dx fs ea cl ha hn htk hm =>
    cases (show u = Value.ref a from rx)
    obtain ⟨mA, O, _⟩ := ins_get I.hok ea
    obtain ⟨od, J, _⟩ := O.look
    exact PySem.W.kia_one (PySem.W.kitx_own (cl.get _) cl.hd ha hn htk hm) I.kIn J e (fun z => nomatch z) h
end
end L2

namespace L2
open PySem PySem.Spec PyProof.Rows

structure Room (k : Nat) (A : Around) : Prop where
  hd : A.handled = none
  dp : A.depth + 3 * k + 5 < recursionLimit
  un : A.units + 16 * k + 200 < cLine
theorem Room.mono {j k : Nat} {A : Around} (r : Room k A) (h : j ≤ k) : Room j A := ⟨r.hd, by have := r.dp; omega, by have := r.un; omega⟩
theorem Room.deeper {k : Nat} {A : Around} (r : Room (k + 1) A) (env : Env) : Room k (A.deeper env) :=
  ⟨r.hd, by have := r.dp; show A.depth + 1 + 3 * k + 5 < _; omega, by have := r.un; show A.units + 3 + 16 * k + 200 < _; omega⟩
theorem Room.in1 {k : Nat} {A : Around} (r : Room (k + 1) A) : Room k A.in1 :=
  ⟨r.hd, by have := r.dp; show A.depth + 3 * k + 5 < _; omega, by have := r.un; show A.units + 1 + 16 * k + 200 < _; omega⟩
theorem make_depth {A : Around} {C : Addr} {us : List Value} {kw : List (Str × Value)} : (A.under (.builtin "type.__call__" ⟨.ref C :: us, kw⟩)).depth = A.depth + 1 := by
  first | rfl | simp [Around.under, Code.weight, Code.isCreation, Code.isGuard, Code.isCaller, Code.frames, Code.isFrame, guardIds]
theorem make_units {A : Around} {C : Addr} {us : List Value} {kw : List (Str × Value)} : (A.under (.builtin "type.__call__" ⟨.ref C :: us, kw⟩)).units = A.units + 1 := by
  first | rfl | simp [Around.under, Code.cUnits, Code.frames, Code.isFrame]
theorem Room.make {k : Nat} {A : Around} (r : Room (k + 1) A) (C : Addr) (us : List Value) (kw : List (Str × Value)) : Room k (A.under (.builtin "type.__call__" ⟨.ref C :: us, kw⟩)) :=
  ⟨r.hd, by have := r.dp; rw [make_depth]; omega, by have := r.un; rw [make_units]; omega⟩
theorem Room.depth {k : Nat} {A : Around} (r : Room k A) : A.depth < recursionLimit := by have := r.dp; omega
theorem Room.units {k : Nat} {A : Around} (r : Room k A) : A.units + 64 < cLine := by have := r.un; omega
noncomputable def tNil : TA := fun _ H Q => Q [] H
noncomputable def tCons (ta : TE) (tr : TA) : TA := fun σ H Q => ta σ H fun x H1 => tr σ H1 fun xs H2 => Q (x :: xs) H2
section
variable {X : Cx} {e : Expr} {es : List Expr} {te : TE} {t : TA} {pos : Pos}
theorem pa_nil : PA X [] tNil := fun _ _ _ _ H Q I h => Calls.spliced_nil ⟨[], H, I, .nil, h⟩
theorem pa_cons (ha : PE X e te) (hr : PA X es t) (hs : starEach (e :: es) X.env = (false, eval e X.env) :: starEach es X.env := by rfl) : PA X (e :: es) (tCons te t) := by
  intro pos pins s σ H Q I h
  rw [hs]
  show wpAny _ _ (spliced ((false, eval e X.env) :: backTo pos (starEach es X.env))) _ _ s
  refine Calls.spliced_cons (thn (ha pins s σ H _ I h) fun u s1 ⟨x, H1, I1, r1, q1⟩ => ?_)
  exact thn (hr pos pins s1 σ H1 _ I1 q1) fun us s2 ⟨xs, H2, I2, r2, q2⟩ => ⟨x :: xs, H2, I2, .cons r1 r2, q2⟩

noncomputable def tTup (t : TA) : TE := fun σ H Q => t σ H fun xs H1 => xs.length ≤ sizeLine ∧ ∀ p, H1 p = none → Q (.ref p) (upd H1 p (.tup xs))
noncomputable def tLst (t : TA) : TE := fun σ H Q => t σ H fun xs H1 => xs.length ≤ sizeLine ∧ ∀ p, H1 p = none → Q (.ref p) (upd H1 p (.lst xs))
theorem pe_tup {x1} (h : PA X es t) : PE X (.Tuple es x1 pos) (tTup t) := by
  intro pins s σ H Q I hq
  refine wpAny_Tuple_spliced (thn (h pos pins s σ H _ I hq) fun us s1 ⟨xs, H1, I1, r, z, q⟩ => ⟨by rw [← r.length]; exact z, ?_⟩)
  have hf : H1 s1.heap.objs.size = none := I1.hok.fresh (Nat.le_refl _)
  refine ⟨.ref s1.heap.objs.size, upd H1 s1.heap.objs.size (.tup xs), I1.laid (t' := s1.toks) (fun b u e => Heap.get?_push_of_some _ e) (Nat.le_refl _) ?_, rfl, q _ hf⟩
  exact ⟨z, us, r, ⟨_, Heap.get?_push_size _ rfl, rfl, _, rfl⟩⟩
theorem pe_lst (h : PA X es t) : PE X (.List es pos) (tLst t) := by
  intro pins s σ H Q I hq
  refine wpAny_List_spliced (thn (h pos pins s σ H _ I hq) fun us s1 ⟨xs, H1, I1, r, z, q⟩ => ⟨by rw [← r.length]; exact z, ?_⟩)
  have hf : H1 s1.heap.objs.size = none := I1.hok.fresh (Nat.le_refl _)
  refine ⟨.ref s1.heap.objs.size, upd H1 s1.heap.objs.size (.lst xs), I1.laid (t' := s1.toks) (fun b u e => Heap.get?_push_of_some _ e) (Nat.le_refl _) ?_, rfl, q _ hf⟩
  exact ⟨z, us, 0, r, Heap.get?_push_size _ rfl⟩
end

noncomputable abbrev Sp := List V → Hp → VK → XK → Prop
noncomputable abbrev CXT := List Env → Hp → Shared → XK → Value → Shared → Prop

structure Env0 (P : Program) (w : World) (K : PySem.W.Frag) (mg : Str → Option Value) (base : Heap) (A : Around) (outer : List Env) (s : Shared) (H : Hp) : Prop where
  frames : A.frames = some outer
  mod : Mod K mg base
  bs : ∀ b o, base.get? b = some o → s.heap.get? b = some o ∧ H b = none
  bsz : base.objs.size ≤ s.heap.objs.size
  funs : s.heap.FunFrames base outer
  frf : ∀ b ∈ frs outer, H b = none
  hok : HOk P w H s.heap
  bare : AllBare s.gens
noncomputable def CE (outer : List Env) (P : Program) (w : World) (H : Hp) (s : Shared) (Q : VK) (u : Value) (s' : Shared) : Prop :=
  ∃ v H', s'.os = s.os ∧ AllBare s'.gens ∧ Un (frs outer) [] H H' s.heap s'.heap ∧ HOk P w H' s'.heap ∧ RelV v u ∧ Q v H'
noncomputable def CR (CX : CXT) (outer : List Env) (P : Program) (w : World) (H : Hp) (s : Shared) (Q : VK) (E : XK) (r : Result) (s' : Shared) : Prop :=
  match r with
  | .ok (.ret u) => CE outer P w H s Q u s'
  | .ok _ => False
  | .error e => CX outer H s E e s'
structure FnOk (P : Program) (w : World) (K : PySem.W.Frag) (mg : Str → Option Value) (base : Heap) (CX : CXT) (k : Nat) (f : Addr) (fd : FuncData) (ps : List Str) (sp : Sp) : Prop where
  len : ∀ vs H Q E, sp vs H Q E → vs.length = ps.length
  run : ∀ (A : Around) (outer : List Env) (s : Shared) (H : Hp) (args : Args) (us : List Value) (vs : List V) (Q : VK) (E : XK), Room k A → Env0 P w K mg base A outer s H → BindsTo s fd args (ps.zip us) → Vals vs us → sp vs H Q E →
    codeAny (model P w) A (.call (.ref f) args) (CR CX outer P w H s Q E) s
theorem FnOk.mono {P : Program} {w : World} {K : PySem.W.Frag} {mg : Str → Option Value} {base : Heap} {CX : CXT} {j k : Nat} {f : Addr} {fd : FuncData} {ps : List Str} {sp : Sp} (F : FnOk P w K mg base CX j f fd ps sp) (h : j ≤ k) :
    FnOk P w K mg base CX k f fd ps sp := ⟨F.len, fun A outer s H args us vs Q E hr => F.run A outer s H args us vs Q E (hr.mono h)⟩
theorem Env0.make {P : Program} {w : World} {K : PySem.W.Frag} {mg : Str → Option Value} {base : Heap} {A : Around} {outer : List Env} {s : Shared} {H : Hp} (e : Env0 P w K mg base A outer s H) (C : Addr) (us : List Value) (kw : List (Str × Value)) :
    Env0 P w K mg base (A.under (.builtin "type.__call__" ⟨.ref C :: us, kw⟩)) outer s H := ⟨by first | exact e.frames | (simpa [Around.under, Code.envs, Code.isFrame, pushEnvs] using e.frames), e.mod, e.bs, e.bsz, e.funs, e.frf, e.hok, e.bare⟩
theorem Env0.in1 {P : Program} {w : World} {K : PySem.W.Frag} {mg : Str → Option Value} {base : Heap} {A : Around} {outer : List Env} {s : Shared} {H : Hp} (e : Env0 P w K mg base A outer s H) :
    Env0 P w K mg base A.in1 outer s H := ⟨e.frames, e.mod, e.bs, e.bsz, e.funs, e.frf, e.hok, e.bare⟩

section
variable {X : Cx} {pins : List (Addr × Obj)} {σ : St} {H : Hp} {s s' : Shared}
theorem Inv.env0 (I : Inv X pins σ H s) : Env0 X.prog X.w X.K X.mg X.base X.A X.stack s H :=
  ⟨I.ok.frames, I.ok.mod, I.bs, Nat.le_trans I.ok.bsz I.sz, I.stack, I.stkFree, I.hok, I.bare⟩
theorem Inv.after {Q : VK} {u : Value} (I : Inv X pins σ H s) (h : CE X.stack X.prog X.w H s Q u s') : EP X pins σ Q u s' := by
  obtain ⟨v, H', os, bare, un, hok, r, q⟩ := h
  obtain ⟨hh, g, d, t, os'⟩ := s'
  obtain rfl : os' = s.os := os
  exact ⟨v, H', I.call (h' := hh) (g' := g) (d' := d) (t' := t) (ch := []) un hok bare (fun b z => absurd z (by simp)), r, q⟩
end

noncomputable def tCall (sp : Sp) (dvs : List V) (E : XK) (t : TA) : TE := fun σ H Q => t σ H fun vs H1 => sp (vs ++ dvs) H1 Q E
noncomputable def Binds (K : PySem.W.Frag) (fd : FuncData) (ps : List Str) (ds : List Value) : Prop :=
  ∀ (s : Shared) (us : List Value), K.In s.heap → (us ++ ds).length = ps.length → BindsTo s fd ⟨us, []⟩ (ps.zip (us ++ ds))
theorem Binds.all {K : PySem.W.Frag} {fd : FuncData} {ps : List Str} (h : ∀ us : List Value, us.length = ps.length → bindArgs fd ⟨us, []⟩ = pure (ps.zip us)) : Binds K fd ps [] := fun s us _ hl => by
  rw [List.append_nil] at hl ⊢
  exact .of_eq (h us hl)

noncomputable def Passes (CX : CXT) (X : Cx) (E : XK) : Prop := ∀ (pins : List (Addr × Obj)) (σ : St) (H : Hp) (s : Shared) (e : Value) (s' : Shared), Inv X pins σ H s → CX X.stack H s E e s' → X.xe e s'

section
variable {X : Cx} {CX : CXT} {k : Nat} {f C : Addr} {fd : FuncData} {ps : List Str} {sp : Sp} {dvs : List V} {ds : List Value} {E : XK} {x m : Str} {p pos apos : Pos} {e o : Expr} {es : List Expr} {ta : TE} {t : TA}

theorem run_fn {pins : List (Addr × Obj)} {σ : St} {H : Hp} {s : Shared} {Q : VK} {us : List Value} {vs : List V} (F : FnOk X.prog X.w X.K X.mg X.base CX k f fd ps sp) (hr : Room k X.A) (hb : Binds X.K fd ps ds) (hd : Vals dvs ds) (hx : Passes CX X E)
    (I : Inv X pins σ H s) (r : Vals vs us) (h : sp (vs ++ dvs) H Q E) : wpAny (model X.prog X.w) X.A (call (.ref f) us) (EP X pins σ Q) X.xe s := by
  have r2 : Vals (vs ++ dvs) (us ++ ds) := r.append hd
  have hl : (us ++ ds).length = ps.length := by rw [← r2.length]; exact F.len _ _ _ _ h
  refine wpAny_call (codeAny_mono (F.run X.A X.stack s H ⟨us, []⟩ (us ++ ds) (vs ++ dvs) Q E hr I.env0 (hb s us I.kIn hl) r2 h) fun r s' hq => ?_)
  cases r with
  | error e => exact hx pins σ H s e s' I hq
  | ok fl =>
    cases fl with
    | ret u => exact I.after hq
    | next => exact False.elim hq
    | brk => exact False.elim hq
    | cont => exact False.elim hq

theorem pe_call (F : FnOk X.prog X.w X.K X.mg X.base CX k f fd ps sp) (hr : Room k X.A) (hg : Gl X x) (hm : X.mg x = some (.ref f)) (hk : PySem.W.keepIn X.K (.ref f) = true) (hb : Binds X.K fd ps ds) (hd : Vals dvs ds) (hx : Passes CX X E)
    (ha : PA X (e :: es) t) (hdb : (x == ("__debug__" : Str)) = false := by decide) (he : starEach (e :: es) X.env = (false, eval e X.env) :: starEach es X.env := by rfl) (hpl : (backTo pos (starEach es X.env)).any (·.1) = false := by rfl) :
    PE X (.Call (.Name x p) (e :: es) [] pos) (tCall sp dvs E t) := by
  intro pins s σ H Q I h
  refine wpAny_Call_Name_kw (ld_glob I hg hm ?_ hdb)
  refine PySem.W.callWith_K (h₀ := X.base) I.ok.mod.kin hk (thn (ha pos pins s σ H _ I h) fun us s1 ⟨vs, H1, I1, r, q⟩ => ⟨I1.kIn, ?_⟩) he hpl
  exact run_fn F hr hb hd hx I1 r q
structure Mk (K : PySem.W.Frag) (C f : Addr) : Prop where
  makes : PySem.W.makesIn K C = true
  init : PySem.W.findIn K (.ref C) "__init__" = some (some (.ref f))
  fn : PySem.W.isFn K (.ref f) = true
  kp : PySem.W.keepIn K (.ref C) = true

theorem run_make {pins : List (Addr × Obj)} {σ : St} {H : Hp} {s : Shared} {Q : VK} {us : List Value} {vs : List V} (M : Mk X.K C f) (F : FnOk X.prog X.w X.K X.mg X.base CX k f fd ps sp) (hr : Room (k + 1) X.A) (hb : Binds X.K fd ps ds) (hd : Vals dvs ds)
    (hx : Passes CX X E) (I : Inv X pins σ H s) (r : Vals vs us)
    (h : ∀ x dx, H x = none → H dx = none → dx ≠ x → sp (.ref x :: (vs ++ dvs)) (upd (upd H dx (.own x)) x (.ins C dx [])) (fun v H2 => v = .non ∧ Q (.ref x) H2) E) :
    wpAny (model X.prog X.w) X.A (call (.ref C) us) (EP X pins σ Q) X.xe s := by
  have hq := h (s.heap.objs.size + 1) s.heap.objs.size (I.hok.fresh (Nat.le_succ _)) (I.hok.fresh (Nat.le_refl _)) (Nat.ne_of_lt (Nat.lt_succ_self _))
  have I2 := Inv.made (C := C) I
  have r2 : Vals (V.ref (s.heap.objs.size + 1) :: (vs ++ dvs)) (Value.ref (s.heap.objs.size + 1) :: (us ++ ds)) := .cons rfl (r.append hd)
  have hl : (Value.ref (s.heap.objs.size + 1) :: us ++ ds).length = ps.length := by
    have e := r2.length
    rw [F.len _ _ _ _ hq] at e
    exact e.symm
  refine wpAny_call (make_map (f := f) I.kIn M.makes M.init (beq_iff_eq.mp M.fn) (codeAny_mono (F.run _ X.stack _ _ ⟨Value.ref (s.heap.objs.size + 1) :: us, []⟩ (Value.ref (s.heap.objs.size + 1) :: (us ++ ds)) _ _ E (hr.make C us [])
    (I2.env0.make C us []) (hb _ (Value.ref (s.heap.objs.size + 1) :: us) I2.kIn hl) r2 hq) fun r s' hq' => ?_))
  cases r with
  | error e => exact hx pins σ _ _ e s' I2 hq'
  | ok fl =>
    cases fl with
    | ret u =>
      obtain ⟨v, H', I3, rv, ev, q3⟩ := I2.after hq'
      subst ev
      exact ⟨rv, ⟨V.ref (s.heap.objs.size + 1), H', I3, rfl, q3⟩⟩
    | next => exact False.elim hq'
    | brk => exact False.elim hq'
    | cont => exact False.elim hq'
end

section
variable {X : Cx} {CX : CXT} {k : Nat} {f C : Addr} {fd : FuncData} {ps ks : List Str} {sp : Sp} {E : XK} {x m : Str} {p pos apos kpos : Pos} {e o : Expr} {es : List Expr} {kws : List Keyword} {te ta : TE} {t tk : TA} {nm : Option Str}
structure KBinds (K : PySem.W.Frag) (fd : FuncData) (ps ks : List Str) (g : List Value → List Value → List Value) (gV : List V → List V → List V) : Prop where
  to : ∀ (s : Shared) (us ws : List Value), K.In s.heap → (g us ws).length = ps.length → BindsTo s fd ⟨us, ks.zip ws⟩ (ps.zip (g us ws))
  rel : ∀ {vs : List V} {us : List Value} {zs : List V} {ws : List Value}, Vals vs us → Vals zs ws → Vals (gV vs zs) (g us ws)
variable {g : List Value → List Value → List Value} {gV : List V → List V → List V}
end

structure FnScope (N P : List Str) (sc : Scope) : Prop where
  kind : sc.kind = .function
  co : sc.isCoroutine = false
  gen : sc.isGenerator = false
  nd : N.Nodup
  pre : N.take P.length = P
  par : ∀ x ∈ P, sc.names.lookup x = some .local ∨ sc.names.lookup x = some .cell
  nofree : ∀ y ∈ sc.names, y.2 ≠ .free

theorem bindL_out {kindOf : Str → Option NameKind} {x : Str} : ∀ {binds : List (Str × Value)} {m : Str → Option Value}, (∀ v, (x, v) ∉ binds) → bindL kindOf binds m x = m x
  | [], _, _ => rfl
  | (n, v) :: r, m, h => by
    unfold bindL
    rw [bindL_out fun w hw => h w (List.mem_cons_of_mem _ hw)]
    split
    · have : x ≠ n := by rintro rfl; exact h v List.mem_cons_self
      simp [this]
    · rfl
theorem bindC_out {kindOf : Str → Option NameKind} {x : Str} : ∀ {binds : List (Str × Value)} {m : Str → Option Value}, (∀ v, (x, v) ∉ binds) → bindC kindOf binds m x = m x
  | [], _, _ => rfl
  | (n, v) :: r, m, h => by
    unfold bindC
    rw [bindC_out fun w hw => h w (List.mem_cons_of_mem _ hw)]
    split
    · rfl
    · have : x ≠ n := by rintro rfl; exact h v List.mem_cons_self
      simp [this]
theorem bindL_get {kindOf : Str → Option NameKind} {x : Str} {v : Value} : ∀ {P : List Str} {vs : List Value} {i : Nat} {m : Str → Option Value}, P.Nodup → P[i]? = some x → vs[i]? = some v → kindOf x = some .local →
    bindL kindOf (P.zip vs) m x = some v
  | [], _, _, _, _, h, _, _ => by simp at h
  | _ :: _, [], _, _, _, _, h, _ => by simp at h
  | p :: P, w :: vs, 0, m, nd, h1, h2, hk => by
    simp at h1 h2; subst h1; subst h2
    show bindL kindOf ((p, w) :: P.zip vs) m p = _
    unfold bindL
    rw [bindL_out fun v hv => (List.nodup_cons.mp nd).1 (List.of_mem_zip hv).1, if_pos hk]
    simp
  | p :: P, w :: vs, i + 1, m, nd, h1, h2, hk => by
    show bindL kindOf ((p, w) :: P.zip vs) m x = _
    unfold bindL
    exact bindL_get (i := i) (List.nodup_cons.mp nd).2 (by simpa using h1) (by simpa using h2) hk
theorem bindC_get {kindOf : Str → Option NameKind} {x : Str} {v : Value} : ∀ {P : List Str} {vs : List Value} {i : Nat} {m : Str → Option Value}, P.Nodup → P[i]? = some x → vs[i]? = some v → kindOf x ≠ some .local →
    bindC kindOf (P.zip vs) m x = some v
  | [], _, _, _, _, h, _, _ => by simp at h
  | _ :: _, [], _, _, _, _, h, _ => by simp at h
  | p :: P, w :: vs, 0, m, nd, h1, h2, hk => by
    simp at h1 h2; subst h1; subst h2
    show bindC kindOf ((p, w) :: P.zip vs) m p = _
    unfold bindC
    rw [bindC_out fun v hv => (List.nodup_cons.mp nd).1 (List.of_mem_zip hv).1, if_neg hk]
    simp
  | p :: P, w :: vs, i + 1, m, nd, h1, h2, hk => by
    show bindC kindOf ((p, w) :: P.zip vs) m x = _
    unfold bindC
    exact bindC_get (i := i) (List.nodup_cons.mp nd).2 (by simpa using h1) (by simpa using h2) hk

noncomputable def start (N : List Str) (vs : List V) : St := vs.map some ++ List.replicate (N.length - vs.length) none

noncomputable def cxOf (CX : CXT) (P : Program) (w : World) (K : PySem.W.Frag) (mg : Str → Option Value) (base : Heap) (N : List Str) (qual : Str) (scope : Scope) (f : Addr) (cd : Value) (A : Around) (outer : List Env) (s : Shared) (H : Hp) (E : XK) : Cx where
  prog := P
  w := w
  K := K
  mg := mg
  base := base
  A := A.deeper (envOfC qual scope s.heap.objs.size f cd)
  N := N
  s₀ := s
  H₀ := H
  env := envOfC qual scope s.heap.objs.size f cd
  outer := outer
  stack := envOfC qual scope s.heap.objs.size f cd :: outer
  ex := []
  calm := true
  fn := fun _ => true
  pn := []
  xe := fun e s' => wpAny (model P w) (A.deeper (envOfC qual scope s.heap.objs.size f cd)) (leaving (envOfC qual scope s.heap.objs.size f cd) e) (fun _ s'' => CX outer H s E e s'') (fun e' s'' => CX outer H s E e' s'') s'

theorem cell_has {sc : Scope} {n : Nat} {x : Str} (h : sc.names.lookup x = some .cell) : ∃ c, (cellsFrom n sc.names []).lookup x = some c := by
  have q := PySem.W.cellsFrom_some sc.names n [] (.inl h)
  exact Option.isSome_iff_exists.mp q

theorem inv_start {CX : CXT} {P : Program} {w : World} {K : PySem.W.Frag} {mg : Str → Option Value} {base : Heap} {N ps : List Str} {qual : Str} {scope : Scope} {f : Addr} {cd : Value} {A : Around} {outer : List Env} {s s1 : Shared} {H : Hp} {E : XK} {us : List Value} {vs : List V}
    (S : FnScope N ps scope) (hd : A.handled = none) (e0 : Env0 P w K mg base A outer s H) (hl : vs.length = ps.length) (r : Vals vs us)
    (x : InCallC s s.heap.objs.size (bindL (envOfC qual scope s.heap.objs.size f cd).kindOf (ps.zip us) fun _ => none) (cellsFrom (s.heap.objs.size + 1) scope.names []) (bindC (envOfC qual scope s.heap.objs.size f cd).kindOf (ps.zip us) fun _ => none) s1) :
    Inv (cxOf CX P w K mg base N qual scope f cd A outer s H E) [] (start N vs) H s1 := by
  have hpl : ps.length ≤ N.length := by have := congrArg List.length S.pre; rw [List.length_take] at this; omega
  obtain ⟨h1, tk, rfl, hk⟩ := x.done
  have noA : ∀ b : Addr, b ∉ (cxOf CX P w K mg base N qual scope f cd A outer s H E).ex := fun b z => absurd (show b ∈ ([] : List Addr) from z) (by simp)
  refine ⟨⟨e0.mod, S.kind, rfl, rfl, Nat.le_refl _, fun y z c h1 h2 => ?_, fun y hy => ?_, fun y c _ h => ?_, fun _ => hd, Around.frames_deeper e0.frames, .inr ⟨rfl, rfl⟩, fun b z => absurd z (noA b), e0.bs, e0.bsz, fun b _ _ => noA b, fun b z => absurd z (noA b), e0.funs, e0.frf⟩,
    rfl, e0.bare, Un.kept hk, ⟨_, x.toInCall.ns, fun i y v h1 h2 h3 => ?_⟩, fun y c h => ⟨_, x.cell y c h⟩, e0.hok.fresh (Nat.le_refl _), fun y c h => ?_, fun p hp => absurd (show p ∈ ([] : List (Addr × Obj)) from hp) (by simp), e0.hok.kept hk, ?_⟩
  · exact name_of_addr x.apart (PySem.mem_of_lookup h1) (PySem.mem_of_lookup h2)
  · have hy : scope.names.lookup y = some .cell ∨ scope.names.lookup y = some .free := hy
    rcases hy with hy | hy
    · exact cell_has hy
    · exact absurd rfl (S.nofree _ (PySem.mem_of_lookup hy))
  · exact Nat.le_of_lt (x.above y c (PySem.mem_of_lookup h))
  · have hi : i < vs.length := by
      unfold start at h2
      by_cases hi : i < vs.length
      · exact hi
      · rw [List.getElem?_append_right (by simpa using hi)] at h2
        rw [List.getElem?_replicate] at h2
        split at h2 <;> cases h2
    have ha : vs[i]? = some v := by
      unfold start at h2
      rw [List.getElem?_append_left (by simpa using hi), List.getElem?_map] at h2
      cases e : vs[i]? with
      | none => rw [e] at h2; cases h2
      | some a => rw [e] at h2; cases h2; rfl
    obtain ⟨u, hu, rv⟩ := r.get ha
    have hp : ps[i]? = some y := by
      rw [← S.pre, List.getElem?_take_of_lt (by omega)]; exact h1
    have ndP : ps.Nodup := by rw [← S.pre]; exact S.nd.sublist (List.take_sublist _ _)
    refine ⟨u, rv, ?_⟩
    rcases S.par y (List.mem_of_getElem? hp) with k | k
    · exact .inl ⟨k, bindL_get ndP hp hu k⟩
    · obtain ⟨c, e⟩ := cell_has (n := s.heap.objs.size + 1) k
      refine .inr ⟨.inl k, c, e, ?_⟩
      have q := x.cell y c e
      rw [bindC_get ndP hp hu (by show scope.names.lookup y ≠ _; rw [k]; decide)] at q
      exact q
  · exact e0.hok.fresh (Nat.le_of_lt (x.above y c (PySem.mem_of_lookup h)))
  · unfold start
    show _ = N.length
    rw [List.length_append, List.length_map, List.length_replicate]
    omega

theorem fn_of {CX : CXT} {P : Program} {w : World} {K : PySem.W.Frag} {mg : Str → Option Value} {base : Heap} {k : Nat} {f : Addr} {name qual : Str} {params : Arguments} {body : List Stmt} {scope : Scope} {dV kV doc pm cdv ct oc : Value} {an od : Option Addr}
    {osl : Array (Option Value)} {N ps : List Str} {sp : Sp} (lk : K.lookup f = some ⟨oc, od, .func (PySem.W.fnOf name qual params body scope dV kV doc pm an cdv ct), osl⟩) (hcd : PySem.W.codeIn K cdv qual = true) (S : FnScope N ps scope)
    (len : ∀ vs H Q E, sp vs H Q E → vs.length = ps.length)
    (hbody : ∀ (A : Around) (outer : List Env) (s : Shared) (H : Hp) (vs : List V) (Q : VK) (E : XK), Room k (A.deeper (envOfC qual scope s.heap.objs.size f cdv)) → sp vs H Q E →
      ∃ t, PSs (cxOf CX P w K mg base N qual scope f cdv A outer s H E) body t ∧ t { nx := fun _ H' => Q .non H', rt := Q } (start N vs) H) :
    FnOk P w K mg base CX (k + 1) f (PySem.W.fnOf name qual params body scope dV kV doc pm an cdv ct) ps sp := by
  refine ⟨len, fun A outer s H args us vs Q E hr e0 hb r hsp => ?_⟩
  have hl := len _ _ _ _ hsp
  have KX : K.In s.heap := e0.mod.kin.keeps fun b o e => (e0.bs b o e).1
  have lim : s.heap.NoLimit := e0.mod.nolimit.keeps fun b o e => (e0.bs b o e).1
  have hkind : ∀ y ∈ ps.zip us, scope.names.lookup y.1 = some .local ∨ (scope.names.lookup y.1 = some .cell ∧ ((cellsFrom (s.heap.objs.size + 1) scope.names []).lookup y.1).isSome = true) := fun ⟨n, v⟩ hy => by
    rcases S.par n (List.of_mem_zip hy).1 with q | q
    · exact .inl q
    · exact .inr ⟨q, PySem.W.cellsFrom_some _ _ _ (.inl q)⟩
  refine codeAny_call_function hr.depth (KX _ _ lk) rfl S.co S.gen rfl (PySem.W.codeRec_of KX hcd) (hb _ _ _ _ ?_)
  refine wpAny_newFunctionEnv_cells S.kind hkind fun env he s1 x => ?_
  subst he
  refine ⟨lim.keeps x.toInCall.keep, codeAny_func ?_⟩
  obtain ⟨t, ht, hq⟩ := hbody A outer s H vs Q E (hr.deeper _) hsp
  have I : Inv (cxOf CX P w K mg base N qual scope f cdv A outer s H E) [] (start N vs) H s1 := inv_start S hr.hd e0 hl r x
  refine wpAny_mono (ht [] s1 (start N vs) H _ I hq) (fun fl s' hs => ?_) fun e s' hs => hs
  have fin : ∀ {σ' : St} {H' : Hp} {v : V} {u : Value}, Inv (cxOf CX P w K mg base N qual scope f cdv A outer s H E) [] σ' H' s' → RelV v u → Q v H' → CE outer P w H s Q u s' :=
    fun {σ' H' v u} J rv q => ⟨v, H', J.os, J.bare, J.base, J.hok, rv, q⟩
  cases fl with
  | ret u =>
    obtain ⟨v, σ', H', J, rv, q⟩ := hs
    exact fin J rv q
  | next =>
    obtain ⟨σ', H', J, q⟩ := hs
    exact fin (v := V.non) (u := Value.none) J rfl q
  | brk =>
    obtain ⟨_, _, _, q⟩ := hs
    exact False.elim q
  | cont =>
    obtain ⟨_, _, _, q⟩ := hs
    exact False.elim q
end L2

namespace L2
open PySem PySem.Spec PyProof.Rows
section
variable {X : Cx} {x : Str} {p pos : Pos} {e : Expr} {es : List Expr} {t : TA} {id T : String} {r : List V → Hp → VK → Prop}

noncomputable def tCB (r : List V → Hp → VK → Prop) (t : TA) : TE := fun σ H Q => t σ H fun vs H1 => r vs H1 Q
theorem pe_callB (hc : CallR X (.builtin id) r) (hg : Gl X x) (hm : X.mg x = none) (hv : bootBuiltins x = some (.builtin id)) (ha : PA X (e :: es) t) (hn : x ≠ "__name__" := by decide) (hdb : (x == ("__debug__" : Str)) = false := by decide)
    (he : starEach (e :: es) X.env = (false, eval e X.env) :: starEach es X.env := by rfl) (hpl : (backTo pos (starEach es X.env)).any (·.1) = false := by rfl) : PE X (.Call (.Name x p) (e :: es) [] pos) (tCB r t) := by
  intro pins s σ H Q I h
  refine wpAny_Call_Name_kw (ld_blt I hg hm hv ?_ hn hdb)
  exact PyProof.Rows.callWith_builtin1 (thn (ha pos pins s σ H _ I h) fun us s1 ⟨vs, H1, I1, r1, q1⟩ => hc pins s1 σ H1 vs us Q I1 r1 q1) he hpl
theorem pe_callTy (hc : CallR X (.type T) r) (hg : Gl X x) (hm : X.mg x = none) (hv : bootBuiltins x = some (.type T)) (ha : PA X (e :: es) t) (hn : x ≠ "__name__" := by decide) (hdb : (x == ("__debug__" : Str)) = false := by decide)
    (he : starEach (e :: es) X.env = (false, eval e X.env) :: starEach es X.env := by rfl) (hpl : (backTo pos (starEach es X.env)).any (·.1) = false := by rfl) : PE X (.Call (.Name x p) (e :: es) [] pos) (tCB r t) := by
  intro pins s σ H Q I h
  refine wpAny_Call_Name_kw (ld_blt I hg hm hv ?_ hn hdb)
  exact PyProof.Rows.callWith_type1 (thn (ha pos pins s σ H _ I h) fun us s1 ⟨vs, H1, I1, r1, q1⟩ => hc pins s1 σ H1 vs us Q I1 r1 q1) he hpl
end
end L2

namespace HT
open PySem PyProof.Rows

section
open PySem.SeqAt
open PySem.AutoSeq1 (wpAny_loadPart')
open PySem.MeetsSeq PySem.MeetsSeq2 PySem.MeetsSeq3

end

section
variable {prog : Program} {w : World} {A : Around} {E : Value → Shared → Prop} {s : Shared}

theorem cat_tup {t b : Addr} {vs ws : List Value} {Q : Value → Shared → Prop} (ht : IsTup s.heap t vs.toArray) (hb : IsTup s.heap b ws.toArray) (hv : vs ≠ [])
    (h1 : ws = [] → Q (.ref t) s) (h2 : ws ≠ [] → Q (.ref s.heap.objs.size) { s with heap := s.heap.push { cls := .type "tuple", data := .seq (vs ++ ws).toArray } })
    (hsz : vs.length + ws.length ≤ sizeLine) : wpAny (model prog w) A (binaryOp .Add (.ref t) (.ref b)) Q E s := by
  obtain ⟨⟨cls, dd, data, sl⟩, ho, hc, n, hd⟩ := id ht
  obtain ⟨⟨cls2, dd2, data2, sl2⟩, ho2, hc2, n2, hd2⟩ := id hb
  simp only at hc hd hc2 hd2
  subst hc hd hc2 hd2
  have e : vs.toArray ++ ws.toArray = (vs ++ ws).toArray := by simp
  by_cases hw : ws = []
  · exact concat_meets ⟨_, ho, rfl⟩ ⟨_, ho2, rfl⟩ noFill_tuple_add seq_tuple_add PySem.F.slot_tuple_add PySem.F.entry_tuple_add (PySem.F.args_tuple_add_2 _ _)
      (tuple_addW1 t b vs.toArray ws.toArray n n2 dd dd2 sl sl2 (by simpa using hv) (by simp [hw])) ⟨ho, ho2, h1 hw⟩
  · refine concat_meets ⟨_, ho, rfl⟩ ⟨_, ho2, rfl⟩ noFill_tuple_add seq_tuple_add PySem.F.slot_tuple_add PySem.F.entry_tuple_add (PySem.F.args_tuple_add_2 _ _)
      (tuple_addW2 t b vs.toArray ws.toArray n n2 dd dd2 sl sl2 (by simpa using hv) (by simpa using hw) (by rw [List.size_toArray, List.size_toArray]; exact hsz)) ⟨ho, ho2, ?_⟩
    rw [e]
    exact h2 hw

noncomputable def sIx (n d : Nat) : Option Int → Nat
  | none => d
  | some v => if v < 0 then (v + (n : Int)).toNat else min v.toNat n
theorem sIx_none (n d : Nat) : sIx n d none = d := rfl
theorem sIx_nat (n d k : Nat) : sIx n d (some (k : Int)) = min k n := by
  show (if (k : Int) < 0 then ((k : Int) + (n : Int)).toNat else min (k : Int).toNat n) = min k n
  rw [if_neg (by omega), Int.toNat_natCast]
theorem sIx_le (n d : Nat) (hd : d ≤ n) (o : Option Int) : sIx n d o ≤ n := by
  cases o with
  | none => exact hd
  | some v =>
    show (if v < 0 then (v + (n : Int)).toNat else min v.toNat n) ≤ n
    by_cases hv : v < 0
    · rw [if_pos hv]; omega
    · rw [if_neg hv]; exact Nat.min_le_right _ _
theorem clip_eq (v : Int) (n d : Nat) : (if v < 0 then max (v + (n : Int)) 0 else min v (n : Int)) = ((sIx n d (some v) : Nat) : Int) := by
  show (if v < 0 then max (v + (n : Int)) 0 else min v (n : Int)) = (((if v < 0 then (v + (n : Int)).toNat else min v.toNat n) : Nat) : Int)
  by_cases hv : v < 0
  · simp only [if_pos hv]; omega
  · simp only [if_neg hv]; omega
theorem adjust_gen (lo hi : Option Int) (n : Nat) : Builtin.Slice.sliceAdjust lo hi 1 (n : Int) = (((sIx n 0 lo : Nat) : Int), ((sIx n n hi : Nat) : Int)) := by
  have h1 : ¬ ((1 : Int) < 0) := by omega
  unfold Builtin.Slice.sliceAdjust
  simp only [h1, if_false]
  refine Prod.ext ?_ ?_
  · cases lo with
    | none => rfl
    | some v => exact clip_eq v n 0
  · cases hi with
    | none => rfl
    | some v => exact clip_eq v n n
theorem places_gen (i j : Nat) : Builtin.Slice.slicePlaces (i : Int) (j : Int) 1 = j - i := by
  unfold Builtin.Slice.slicePlaces
  have h1 : (1 : Int) > 0 := by omega
  simp only [h1, if_true, Int.ediv_one]
  split <;> omega
theorem slicePart_ {v : Value} {o : Option Int} {Q : Option Int → Shared → Prop} (p : IsPart v o) (h : Q o s) : wpAny (model prog w) A (Builtin.Slice.slicePartIndex v) Q E s := by
  cases p with
  | none => exact slicePart_none h
  | int i t => exact slicePart_int h
theorem sliceApplied_gen {sl : Addr} {vl vu : Value} {lo hi : Option Int} {n : Nat} {Q : Int × Int × Nat → Shared → Prop} (hs : s.heap.IsSliceOf sl vl vu .none) (pl : IsPart vl lo) (pu : IsPart vu hi)
    (h : Q (((sIx n 0 lo : Nat) : Int), 1, sIx n n hi - sIx n 0 lo) s) : wpAny (model prog w) A (Builtin.Slice.sliceApplied (.ref sl) (pure (n : Int))) Q E s := by
  obtain ⟨os, hos, hcs, hds⟩ := id hs
  unfold Builtin.Slice.sliceApplied Builtin.Slice.sliceFields
  refine wpAny_bind (wpAny_bind (wpAny_field hos hds (x := vl) rfl (wpAny_bind (wpAny_field hos hds (x := vu) rfl (wpAny_bind (wpAny_field hos hds (x := .none) rfl (wpAny_pure ?_)))))))
  refine wpAny_bind (slicePart_none ?_)
  show wpAny _ _ (if ((1 : Int) == 0) = true then _ else _) _ _ s
  rw [if_neg (by decide)]
  refine wpAny_bind (slicePart_ pl (wpAny_bind (slicePart_ pu (wpAny_bind (wpAny_pure ?_)))))
  show wpAny _ _ (match Builtin.Slice.sliceAdjust lo hi 1 (n : Int) with | (lo, hi) => pure (lo, (1 : Int), Builtin.Slice.slicePlaces lo hi 1)) _ _ s
  rw [adjust_gen lo hi n]
  show wpAny _ _ (pure (((sIx n 0 lo : Nat) : Int), (1 : Int), Builtin.Slice.slicePlaces ((sIx n 0 lo : Nat) : Int) ((sIx n n hi : Nat) : Int) 1)) _ _ s
  rw [places_gen]
  exact wpAny_pure h
theorem pick_gen (xs : Array Value) (i k : Nat) : ((List.range k).filterMap fun (m : Nat) => xs[((i : Int) + (m : Int) * 1).toNat]?).toArray = ((xs.toList.drop i).take k).toArray := by
  have e : (fun (m : Nat) => xs[((i : Int) + (m : Int) * 1).toNat]?) = fun m => xs[i + m]? := by
    funext m
    have : ((i : Int) + (m : Int) * 1).toNat = i + m := by omega
    rw [this]
  rw [e]
  have := pick_run xs i k
  rw [List.filterMap_map] at this
  have e2 : ((fun x => xs[x]?) ∘ fun x => i + x) = fun m => xs[i + m]? := rfl
  rw [e2] at this
  rw [this]

theorem getItem_tuple_cut {t sl : Addr} {items : Array Value} {vl vu : Value} {lo hi : Option Int} {Q : Value → Shared → Prop} (ht : IsTup s.heap t items) (hs : s.heap.IsSliceOf sl vl vu .none) (pl : IsPart vl lo) (pu : IsPart vu hi)
    (hw : ¬ (sIx items.size 0 lo = 0 ∧ sIx items.size items.size hi = items.size))
    (h : Q (.ref s.heap.objs.size) { s with heap := s.heap.push { cls := .type "tuple", data := .seq ((items.toList.drop (sIx items.size 0 lo)).take (sIx items.size items.size hi - sIx items.size 0 lo)).toArray } })
    (hsz : items.size ≤ sizeLine) : wpAny (model prog w) A (getItem (.ref t) (.ref sl)) Q E s := by
  have htake : sizeOk (.seq ((items.toList.drop (sIx items.size 0 lo)).take (sIx items.size items.size hi - sIx items.size 0 lo)).toArray) := by
    show ((items.toList.drop (sIx items.size 0 lo)).take (sIx items.size items.size hi - sIx items.size 0 lo)).toArray.size ≤ sizeLine
    rw [List.size_toArray, List.length_take, List.length_drop, Array.length_toList]
    omega
  have hj : sIx items.size items.size hi ≤ items.size := sIx_le _ _ (Nat.le_refl _) hi
  obtain ⟨os, hos, hcs, hds⟩ := id hs
  have hTs : s.TypeIs (.ref sl) "slice" := ⟨os, hos, hcs⟩
  unfold getItem
  try with_reducible refine wpAny_holding ?_
  first | refine wpAny_bind (wpAny_pure ?_) | skip
  refine wpAny_bind (wpAny_sequenceKey ht.typeIs (by decide) ?_)
  refine wpAny_bind (wpAny_callSpecial?_slot (name := Str.ofString "__getitem__") ht.typeIs PyProof.Rows.slot_tuple_getitem
    (wpAny_call_entry PyProof.Rows.slot_tuple_getitem ht.typeIs entry_tuple_getitem ?_ (args_tuple_getitem _ _)))
  show wpAny _ _ (Builtin.Tuple.tupleItemsOf (.ref t) >>= _) _ _ s
  refine wpAny_bind (tupleItemsOf_ ht ?_)
  refine wpAny_bind (wpAny_typeOf hTs ?_)
  rw [if_pos (by decide)]
  refine wpAny_bind (sliceApplied_gen hs pl pu ?_)
  have hno : ¬ ((((sIx items.size 0 lo : Nat) : Int) == 0 && (1 : Int) == 1 && (sIx items.size items.size hi - sIx items.size 0 lo) == items.size) = true) := by
    intro q
    rw [Bool.and_eq_true, Bool.and_eq_true] at q
    have q1 : ((sIx items.size 0 lo : Nat) : Int) = 0 := eq_of_beq q.1.1
    have q2 : sIx items.size items.size hi - sIx items.size 0 lo = items.size := eq_of_beq q.2
    exact hw ⟨by omega, by omega⟩
  show wpAny _ _ (if (((sIx items.size 0 lo : Nat) : Int) == 0 && (1 : Int) == 1 && (sIx items.size items.size hi - sIx items.size 0 lo) == items.size) = true then _ else _) _ _ s
  rw [if_neg hno, pick_gen]
  first
    | exact wpAny_bind (m := Builtin.Tuple.tupleExact _) (wpAny_newObj_type (wpAny_pure ⟨_, rfl, wpAny_pure h⟩) htake)
    | exact wpAny_bind (m := Builtin.Tuple.tupleExact _) (wpAny_newObj_type (wpAny_bind (wpAny_pure (wpAny_pure ⟨_, rfl, wpAny_pure h⟩))) htake)
    | exact wpAny_bind (wpAny_bind (m := Builtin.Tuple.tupleExact _) (wpAny_newObj_type (wpAny_pure (wpAny_pure ⟨_, rfl, wpAny_pure h⟩)) htake))
    | exact wpAny_bind (wpAny_bind (m := Builtin.Tuple.tupleExact _) (wpAny_newObj_type (wpAny_pure ⟨_, rfl, wpAny_pure h⟩) htake))
end
end HT

namespace L2
open PySem PySem.Spec PyProof.Rows

noncomputable abbrev TO := St → Hp → (Option Int → Hp → Prop) → Prop
noncomputable def PO (X : Cx) (e : Option Expr) (t : TO) : Prop :=
  ∀ (pins : List (Addr × Obj)) (s : Shared) (σ : St) (H : Hp) (Q : Option Int → Hp → Prop), Inv X pins σ H s → t σ H Q →
    wpAny (model X.prog X.w) X.A (evalPart e X.env) (fun u s' => ∃ o H', Inv X pins σ H' s' ∧ IsPart u o ∧ Q o H') X.xe s
noncomputable def tNoPart : TO := fun _ H Q => Q none H
noncomputable def tPart (t : TE) : TO := fun σ H Q => t σ H fun x H1 => ∃ i, x = .int i ∧ Q (some i) H1

section
variable {X : Cx} {e : Expr} {te : TE} {lo hi : Option Expr} {tl th : TO} {pos p2 : Pos}

theorem po_none : PO X none tNoPart := by
  intro pins s σ H Q I h
  rw [evalPart_none]
  exact wpAny_pure ⟨none, H, I, .none, h⟩
theorem po_some (h : PE X e te) : PO X (some e) (tPart te) := by
  intro pins s σ H Q I hw
  rw [evalPart_some]
  refine thn (h pins s σ H _ I hw) fun u s1 ⟨x, H1, I1, r1, q1⟩ => ?_
  obtain ⟨i, rfl, q⟩ := q1
  obtain ⟨t, rfl⟩ := r1
  exact ⟨some i, H1, I1, .int i t, q⟩

noncomputable def SlR (X : Cx) (r : V → Option Int → Option Int → Hp → VK → Prop) : Prop :=
  ∀ (pins : List (Addr × Obj)) (s : Shared) (σ : St) (H : Hp) (x : V) (v vl vu : Value) (lo hi : Option Int) (sl : Addr) (Q : VK), Inv X pins σ H s → RelV x v → s.heap.IsSliceOf sl vl vu .none → IsPart vl lo → IsPart vu hi → r x lo hi H Q →
    ∃ T id, typeLookup (.type T) "__getitem__" = pure (some (.builtin id)) ∧ s.TypeIs v T ∧ wpAny (model X.prog X.w) X.A (getItem v (.ref sl)) (EP X pins σ Q) X.xe s
theorem SlR.or {r r' : V → Option Int → Option Int → Hp → VK → Prop} (h : SlR X r) (h' : SlR X r') : SlR X (fun x lo hi H Q => r x lo hi H Q ∨ r' x lo hi H Q) := by
  intro pins s σ H x v vl vu lo hi sl Q I rx hs pl pu q
  rcases q with q | q
  · exact h pins s σ H x v vl vu lo hi sl Q I rx hs pl pu q
  · exact h' pins s σ H x v vl vu lo hi sl Q I rx hs pl pu q
noncomputable def tSl (r : V → Option Int → Option Int → Hp → VK → Prop) (te : TE) (tl th : TO) : TE := fun σ H Q => te σ H fun x H1 => tl σ H1 fun l H2 => th σ H2 fun u H3 => r x l u H3 Q
theorem pe_slice {r : V → Option Int → Option Int → Hp → VK → Prop} (hr : SlR X r) (he : PE X e te) (hl : PO X lo tl) (hu : PO X hi th) : PE X (.Subscript e (.Slice lo hi none p2) pos) (tSl r te tl th) := by
  intro pins s σ H Q I h
  refine Subscript_ (thn (he pins s σ H _ I h) fun v s1 ⟨x, H1, I1, r1, q1⟩ => ?_)
  refine wpAny_Slice (thn (hl pins s1 σ H1 _ I1 q1) fun vl s2 ⟨l, H2, I2, pl, q2⟩ => thn (hu pins s2 σ H2 _ I2 q2) fun vu s3 ⟨u, H3, I3, pu, q3⟩ => ?_)
  rw [evalPart_none]
  refine wpAny_pure ?_
  have I4 : Inv X pins σ H3 { s3 with heap := s3.heap.push { cls := .type "slice", data := .fields #[vl, vu, .none] } } := I3.kept (t' := s3.toks) fun b ob q => Heap.get?_push_of_some _ q
  obtain ⟨T, id, hT, ht, hg⟩ := hr pins { s3 with heap := s3.heap.push { cls := .type "slice", data := .fields #[vl, vu, .none] } } σ H3 x v vl vu l u s3.heap.objs.size Q I4 r1 (Heap.IsSliceOf.new ..) pl pu q3
  show wpAny (model X.prog X.w) X.A (subscriptTail e (.Slice lo hi none p2) v (.ref s3.heap.objs.size)) (EP X pins σ Q) X.xe { s3 with heap := s3.heap.push { cls := .type "slice", data := .fields #[vl, vu, .none] } }
  exact tail_any (ops := [.ref s3.heap.objs.size, v]) ht hT hg (by with_unfolding_all rfl)

noncomputable def cutV (xs : List V) (lo hi : Option Int) : List V := (xs.drop (HT.sIx xs.length 0 lo)).take (HT.sIx xs.length xs.length hi - HT.sIx xs.length 0 lo)
theorem cutV_length (xs : List V) (lo hi : Option Int) : (cutV xs lo hi).length ≤ xs.length := by
  unfold cutV
  rw [List.length_take, List.length_drop]
  omega
noncomputable def rSlT (K : PySem.W.Frag) : V → Option Int → Option Int → Hp → VK → Prop := fun x lo hi H Q => ∃ a xs, x = .ref a ∧ SqT K H a xs ∧
  ¬ (HT.sIx xs.length 0 lo = 0 ∧ HT.sIx xs.length xs.length hi = xs.length) ∧ ∀ p, H p = none → Q (.ref p) (upd H p (.tup (cutV xs lo hi)))
theorem sl_tup : SlR X (rSlT X.K) := by
  intro pins s σ H x v vl vu lo hi sl Q I rx hs pl pu h
  obtain ⟨a, xs, rfl, hx, hw, q⟩ := h
  cases rx
  obtain ⟨its, r, ht, hz⟩ := I.tuple hx
  have hlen : its.toArray.size = xs.length := by rw [List.size_toArray]; exact r.length.symm
  refine ⟨"tuple", _, PyProof.Rows.slot_tuple_getitem.lookup, ht.typeIs, ?_⟩
  refine HT.getItem_tuple_cut ht hs pl pu (by rw [hlen]; exact hw) ?_ (by rw [hlen]; exact hz)
  rw [hlen]
  refine ⟨.ref s.heap.objs.size, _, I.laid (t' := s.toks) (o := .tup (cutV xs lo hi)) (fun b ob q => Heap.get?_push_of_some _ q) (Nat.le_refl _) ?_, rfl, q _ (I.hok.fresh (Nat.le_refl _))⟩
  exact ⟨Nat.le_trans (cutV_length xs lo hi) hz, _, (r.drop (HT.sIx xs.length 0 lo)).take (HT.sIx xs.length xs.length hi - HT.sIx xs.length 0 lo), IsTup.new _ _⟩

noncomputable def rCatT (K : PySem.W.Frag) : R2 := fun x y H Q => ∃ a b xs ys, x = .ref a ∧ y = .ref b ∧ SqT K H a xs ∧ SqT K H b ys ∧ xs ≠ [] ∧ xs.length + ys.length ≤ sizeLine ∧
  (ys = [] → Q (.ref a) H) ∧ (ys ≠ [] → ∀ p, H p = none → Q (.ref p) (upd H p (.tup (xs ++ ys))))
theorem Vals.nil_iff {xs : List V} {us : List Value} (r : Vals xs us) : us = [] ↔ xs = [] := by
  cases r with
  | nil => simp
  | cons _ _ => simp
theorem op_catT : OpR X (binaryOp .Add) (rCatT X.K) := by
  intro pins s σ H x y v u Q I rx ry h
  obtain ⟨a, b, xs, ys, rfl, rfl, ha, hb, hx, hz, q1, q2⟩ := h
  cases rx
  cases ry
  obtain ⟨its, r1, p1, _⟩ := I.tuple ha
  obtain ⟨its2, r2, p2, _⟩ := I.tuple hb
  refine HT.cat_tup p1 p2 (fun z => hx (r1.nil_iff.mp z)) (fun z => ⟨.ref a, H, I, rfl, q1 (r2.nil_iff.mp z)⟩) (fun z => ?_) (by rw [← r1.length, ← r2.length]; exact hz)
  refine ⟨.ref s.heap.objs.size, _, I.laid (t' := s.toks) (o := .tup (xs ++ ys)) (fun b ob q => Heap.get?_push_of_some _ q) (Nat.le_refl _) ?_, rfl, q2 (fun w => z (r2.nil_iff.mpr w)) _ (I.hok.fresh (Nat.le_refl _))⟩
  exact ⟨by rw [List.length_append]; exact hz, _, r1.append r2, IsTup.new _ _⟩
end
end L2

namespace L2
open PySem PySem.Spec PyProof.Rows

noncomputable def ixN (n : Nat) (i : Int) : Option Nat := if 0 ≤ i then (if i < n then some i.toNat else none) else if -(n : Int) ≤ i then some (i + n).toNat else none
noncomputable def atI {α : Type} (xs : List α) (i : Int) : Option α := (ixN xs.length i).bind fun j => xs[j]?
theorem ixN_seq {n : Nat} {i : Int} {j : Nat} (h : ixN n i = some j) : seqIndex? i n = some j ∧ j < n ∧ -(n : Int) ≤ i ∧ i < n := by
  unfold ixN at h
  by_cases h0 : 0 ≤ i
  · rw [if_pos h0] at h
    by_cases h1 : i < n
    · rw [if_pos h1] at h
      have e : i.toNat = j := Option.some.inj h
      exact ⟨by rw [seqIndex_of h0 h1, e], by omega, by omega, h1⟩
    · rw [if_neg h1] at h; cases h
  · rw [if_neg h0] at h
    by_cases h1 : -(n : Int) ≤ i
    · rw [if_pos h1] at h
      have e : (i + n).toNat = j := Option.some.inj h
      exact ⟨by rw [seqIndex_neg (by omega) h1, e], by omega, h1, by omega⟩
    · rw [if_neg h1] at h; cases h
theorem atI_get {α : Type} {xs : List α} {i : Int} {v : α} (h : atI xs i = some v) : ∃ j, seqIndex? i xs.length = some j ∧ xs[j]? = some v ∧ j < xs.length ∧ -(xs.length : Int) ≤ i ∧ i < xs.length := by
  unfold atI at h
  cases e : ixN xs.length i with
  | none => rw [e] at h; cases h
  | some j =>
    rw [e] at h
    obtain ⟨h1, h2, h3, h4⟩ := ixN_seq e
    exact ⟨j, h1, h, h2, h3, h4⟩
theorem atI_nat {α : Type} {xs : List α} {j : Nat} {v : α} (h : xs[j]? = some v) : atI xs (j : Int) = some v := by
  have hj : j < xs.length := (List.getElem?_eq_some_iff.mp h).1
  have e : ixN xs.length (j : Int) = some j := by
    unfold ixN
    rw [if_pos (by omega), if_pos (by omega)]; simp
  unfold atI; rw [e]; exact h
noncomputable def PlainIx (b : Expr) : Prop := ∀ o i, subscripted b false o i = operate [o, i] (getItem o i)
noncomputable def IxR (X : Cx) (r : R2) : Prop :=
  ∀ (value slice : Expr) (pins : List (Addr × Obj)) (s : Shared) (σ : St) (H : Hp) (x y : V) (v u : Value) (Q : VK), Inv X pins σ H s → RelV x v → RelV y u → r x y H Q →
    subscripted slice false v u = operate [v, u] (getItem v u) → wpAny (model X.prog X.w) X.A (subscriptTail value slice v u) (EP X pins σ Q) X.xe s
noncomputable def MtR (X : Cx) (id : String) (r : V → List V → Hp → VK → Prop) : Prop :=
  ∀ (pins : List (Addr × Obj)) (s : Shared) (σ : St) (H : Hp) (x : V) (xs : List V) (v : Value) (us : List Value) (Q : VK), Inv X pins σ H s → RelV x v → Vals xs us → r x xs H Q →
    wpAny (model X.prog X.w) X.A (call (.builtin id) (v :: us)) (EP X pins σ Q) X.xe s
section
variable {X : Cx} {a b : Expr} {ta tb : TE} {pos : Pos}
theorem IxR.or {r r' : R2} (h : IxR X r) (h' : IxR X r') : IxR X (fun x y H Q => r x y H Q ∨ r' x y H Q) := by
  intro value slice pins s σ H x y v u Q I rx ry q hs
  rcases q with q | q
  · exact h value slice pins s σ H x y v u Q I rx ry q hs
  · exact h' value slice pins s σ H x y v u Q I rx ry q hs
theorem MtR.or {id : String} {r r' : V → List V → Hp → VK → Prop} (h : MtR X id r) (h' : MtR X id r') : MtR X id (fun x xs H Q => r x xs H Q ∨ r' x xs H Q) := by
  intro pins s σ H x xs v us Q I rx rs q
  rcases q with q | q
  · exact h pins s σ H x xs v us Q I rx rs q
  · exact h' pins s σ H x xs v us Q I rx rs q
theorem pe_ix {r : R2} (hr : IxR X r) (ha : PE X a ta) (hb : PE X b tb) (hs : PlainIx b) : PE X (.Subscript a b pos) (tOp r ta tb) := by
  intro pins s σ H Q I h
  exact Subscript_ (binT ha hb I h fun v u s2 x y H2 I2 rx ry q => hr a b pins s2 σ H2 x y v u Q I2 rx ry q (hs _ _))

noncomputable def rIxL (K : PySem.W.Frag) : R2 := fun x y H Q => ∃ p xs i v, x = .ref p ∧ y = .int i ∧ SqL K H p xs ∧ atI xs i = some v ∧ Q v H
noncomputable def rIxT (K : PySem.W.Frag) : R2 := fun x y H Q => ∃ p xs i v, x = .ref p ∧ y = .int i ∧ SqT K H p xs ∧ atI xs i = some v ∧ Q v H
noncomputable def rIxS : R2 := fun x y H Q => ∃ z i c, x = .str z ∧ y = .int i ∧ z.length ≤ sizeLine ∧ atI z.cps.toList i = some c ∧ Q (.str ⟨#[c]⟩) H
theorem ix_list : IxR X (rIxL X.K) := by
  intro value slice pins s σ H x y v u Q I rx ry h hs
  obtain ⟨p, xs, i, z, rfl, rfl, hq, he, q⟩ := h
  cases rx
  obtain ⟨t, rfl⟩ := ry
  obtain ⟨its, r, pl, hz⟩ := I.list hq
  obtain ⟨j, h1, h2, h3, h4, h5⟩ := atI_get he
  obtain ⟨w, ew, rw'⟩ := r.get h2
  have hl := r.length
  have hn := line63
  have fin : EP X pins σ Q w s := ⟨z, H, I, rw', q⟩
  by_cases h0 : 0 ≤ i
  · have hj : i.toNat = j := by
      rw [seqIndex_of h0 h5] at h1
      exact Option.some.inj h1
    exact item_listR pl.isList h0 (by omega) (by rw [hj]; simpa using ew) fin hs
  · have hj : (i + (its.toArray.size : Int)).toNat = j := by
      rw [seqIndex_neg (by omega) h4] at h1
      rw [List.size_toArray, ← hl]
      exact Option.some.inj h1
    exact subscriptTail_builtinR (x := w) pl.isList.typeIs slot_list_getitem.lookup
      (wpAny_getItem_list_neg (Q := fun r s' => r = w ∧ EP X pins σ Q r s') pl.isList (by omega) (by rw [List.size_toArray] <;> omega) (by omega) (by rw [hj]; simpa using ew) ⟨rfl, fin⟩) hs
theorem ix_tup : IxR X (rIxT X.K) := by
  intro value slice pins s σ H x y v u Q I rx ry h hs
  obtain ⟨p, xs, i, z, rfl, rfl, hq, he, q⟩ := h
  cases rx
  obtain ⟨t, rfl⟩ := ry
  obtain ⟨its, r, pl, hz⟩ := I.tuple hq
  obtain ⟨j, h1, h2, h3, h4, h5⟩ := atI_get he
  obtain ⟨w, ew, rw'⟩ := r.get h2
  have hl := r.length
  have hn := line63
  have fin : EP X pins σ Q w s := ⟨z, H, I, rw', q⟩
  exact subscriptTail_builtinR (x := w) pl.typeIs slot_tuple_getitem.lookup
    (getItem_tuple (j := j) (Q := fun r s' => r = w ∧ EP X pins σ Q r s') pl (by omega) (by omega) (by rw [List.size_toArray, ← hl]; exact h1) (by simpa using ew) ⟨rfl, fin⟩) hs
theorem ix_str : IxR X rIxS := by
  intro value slice pins s σ H x y v u Q I rx ry h hs
  obtain ⟨z, i, c, rfl, rfl, hz, he, q⟩ := h
  obtain ⟨t, rfl⟩ := rx
  obtain ⟨t', rfl⟩ := ry
  obtain ⟨j, h1, h2, h3, h4, h5⟩ := atI_get he
  have hl : z.cps.toList.length = z.length := by simp [Str.length]
  rw [hl] at h1 h4 h5
  have hn := line63
  exact tail_any (typeIs_str s z t) slot_str_getitem.lookup (getItem_str (c := c) (by
    have e1 : decide (i < -(2 ^ 63 : Int)) = false := decide_eq_false (by omega)
    have e2 : decide (i ≥ 2 ^ 63) = false := decide_eq_false (by omega)
    rw [e1, e2, Bool.or_false]) (by rw [h1]; simpa using h2) ⟨.str ⟨#[c]⟩, H, I.tok _, ⟨_, rfl⟩, q⟩) hs
noncomputable def rIx (K : PySem.W.Frag) : R2 := fun x y H Q => rIxL K x y H Q ∨ rIxT K x y H Q ∨ rIxS x y H Q
theorem ix_seq : IxR X (rIx X.K) := ix_list.or (ix_tup.or ix_str)

theorem mapSeq_set (its : List Value) (n j : Nat) (u : Value) : Obj.mapSeq (·.setIfInBounds j u) { cls := .type "list", data := .seq its.toArray n } = { cls := .type "list", data := .seq (its.set j u).toArray n } := by
  simp [Obj.mapSeq]
theorem Inv.lst {pins : List (Addr × Obj)} {σ : St} {H : Hp} {s : Shared} {p : Addr} {xs : List V} (I : Inv X pins σ H s) (h : H p = some (.lst xs)) :
    ∃ (its : List Value) (n : Nat), Vals xs its ∧ s.heap.get? p = some { cls := .type "list", data := .seq its.toArray n } ∧ xs.length ≤ sizeLine := by
  obtain ⟨z, its, n, r, e⟩ := I.hok p _ h
  exact ⟨its, n, r, e, z⟩
theorem Inv.lstUpd {pins : List (Addr × Obj)} {σ : St} {H : Hp} {s : Shared} {p : Addr} {xs ys : List V} {its its' : List Value} {n n' : Nat} {f : Obj → Obj} (I : Inv X pins σ H s) (h : H p = some (.lst xs))
    (ho : s.heap.get? p = some { cls := .type "list", data := .seq its.toArray n }) (hf : f { cls := .type "list", data := .seq its.toArray n } = { cls := .type "list", data := .seq its'.toArray n' }) (r : Vals ys its') (hz : ys.length ≤ sizeLine) (t : Nat) :
    Inv X pins σ (upd H p (.lst ys)) { s with heap := s.heap.update p f, toks := t } := by
  have e : (s.heap.update p f).get? p = some { cls := .type "list", data := .seq its'.toArray n' } := by
    rw [Heap.get?_update_self f ho (by rw [hf] <;> rfl), hf]
  refine I.write (x := p) (e := p) (by rw [h]; trivial) (.inl rfl) (fun b u hb q => (Heap.get?_update_other _ _ (Ne.symm hb)).trans q) ⟨_, e⟩ ?_
  exact ⟨hz, its', n', r, e⟩
noncomputable def rSetL : V → V → V → Hp → (Hp → Prop) → Prop := fun o i v H Q => ∃ p xs k j, o = .ref p ∧ i = .int k ∧ H p = some (.lst xs) ∧ ixN xs.length k = some j ∧ Q (upd H p (.lst (xs.set j v)))
theorem set_list : PSet X rSetL := by
  intro pins s σ H o i v ov iv u Q I ro ri rv h
  obtain ⟨p, xs, k, j, rfl, rfl, hp, hj, q⟩ := h
  cases ro
  obtain ⟨t, rfl⟩ := ri
  obtain ⟨its, n, r, ho, hz⟩ := I.lst hp
  obtain ⟨h1, h2, h3, h4⟩ := ixN_seq hj
  have hl := r.length
  have hn := line63
  have I' : Inv X pins σ (upd H p (.lst (xs.set j v))) { s with heap := s.heap.update p (Obj.mapSeq (·.setIfInBounds j u)) } :=
    I.lstUpd hp ho (mapSeq_set its n j u) (r.set rv j) (by rw [List.length_set]; exact hz) s.toks
  by_cases h0 : 0 ≤ k
  · have hk : k.toNat = j := by
      rw [seqIndex_of h0 h4] at h1
      exact Option.some.inj h1
    exact PySem.W.ki_setAt ho h0 (by omega) (by rw [List.size_toArray, ← hl]; exact h4) (by rw [hk]; exact ⟨_, I', q⟩)
  · have hk : (k + (its.toArray.size : Int)).toNat = j := by
      rw [seqIndex_neg (by omega) h3] at h1
      rw [List.size_toArray, ← hl]
      exact Option.some.inj h1
    exact PySem.W.ki_setBack ho (by omega) (by rw [List.size_toArray, ← hl]; exact h3) (by omega) (by rw [hk]; exact ⟨_, I', q⟩)

theorem slice_bounds (lo hi : Option Int) (n : Nat) : (sliceBounds lo hi none n).1 = ((HT.sIx n 0 lo : Nat) : Int) ∧ (sliceBounds lo hi none n).2.1 = ((HT.sIx n n hi : Nat) : Int) ∧ (sliceBounds lo hi none n).2.2 = 1 := by
  refine ⟨?_, ?_, rfl⟩
  · cases lo with
    | none => simp [sliceBounds, HT.sIx]
    | some i =>
      simp only [sliceBounds, HT.sIx, Option.getD_none, show (1 : Int) > 0 by decide, if_true]
      by_cases h : i < 0
      · simp only [h, if_true] <;> omega
      · simp only [h, if_false] <;> omega
  · cases hi with
    | none => simp [sliceBounds, HT.sIx]
    | some i =>
      simp only [sliceBounds, HT.sIx, Option.getD_none, show (1 : Int) > 0 by decide, if_true]
      by_cases h : i < 0
      · simp only [h, if_true] <;> omega
      · simp only [h, if_false] <;> omega
theorem slicePick_cut (its : List Value) (lo hi : Option Int) : slicePick its.toArray lo hi none = ((its.drop (HT.sIx its.length 0 lo)).take (HT.sIx its.length its.length hi - HT.sIx its.length 0 lo)).toArray := by
  obtain ⟨h1, h2, h3⟩ := slice_bounds lo hi its.toArray.size
  unfold slicePick
  rw [h1, h2, h3]
  simp only [sliceRange_one, pick_run, List.size_toArray] <;> rfl
noncomputable def rSlL (K : PySem.W.Frag) : V → Option Int → Option Int → Hp → VK → Prop := fun x lo hi H Q => ∃ a xs, x = .ref a ∧ SqL K H a xs ∧ ∀ p, H p = none → Q (.ref p) (upd H p (.lst (cutV xs lo hi)))
theorem sl_list : SlR X (rSlL X.K) := by
  intro pins s σ H x v vl vu lo hi sl Q I rx hs pl pu h
  obtain ⟨a, xs, rfl, hx, q⟩ := h
  cases rx
  obtain ⟨its, r, ht, hz⟩ := I.list hx
  have hlen := r.length
  refine ⟨"list", _, slot_list_getitem.lookup, ht.isList.typeIs, ?_⟩
  refine wpAny_getItem_list_slice ht.isList hs pl pu .none (by simp) ?_ (by rw [List.size_toArray] <;> omega)
  rw [slicePick_cut, ← hlen]
  refine ⟨.ref s.heap.objs.size, _, I.laid (t' := s.toks) (o := .lst (cutV xs lo hi)) (fun b ob q => Heap.get?_push_of_some _ q) (Nat.le_refl _) ?_, rfl, q _ (I.hok.fresh (Nat.le_refl _))⟩
  exact ⟨Nat.le_trans (cutV_length xs lo hi) hz, _, 0, (r.drop (HT.sIx xs.length 0 lo)).take (HT.sIx xs.length xs.length hi - HT.sIx xs.length 0 lo), Heap.get?_push_size _ rfl⟩

noncomputable def flatV : V → Bool
  | .non => true
  | .bl _ => true
  | .int _ => true
  | .str _ => true
  | _ => false
noncomputable def eqV : V → V → Bool
  | .non, .non => true
  | .bl a, .bl b => a == b
  | .bl a, .int b => (if a then 1 else 0) == b
  | .int a, .bl b => a == (if b then 1 else 0)
  | .int a, .int b => a == b
  | .str a, .str b => a == b
  | _, _ => false
theorem eqAt_V {A : Around} {s : Shared} {y x : V} {u v : Value} (ry : RelV y u) (rx : RelV x v) (fy : flatV y = true) (fx : flatV x = true) : SeqAt.EqAt A s u v (eqV y x) := by
  cases y with
  | non =>
    cases ry
    cases x with
    | non => cases rx; exact SeqAt.EqAt.same _
    | bl b => cases rx; exact SeqAt.EqAt.none_bool b
    | int b => obtain ⟨t, rfl⟩ := rx; exact SeqAt.EqAt.none_int b t
    | str b => obtain ⟨t, rfl⟩ := rx; exact SeqAt.EqAt.none_str b t
    | _ => exact absurd (show false = true from fx) Bool.false_ne_true
  | bl a =>
    cases ry
    cases x with
    | non => cases rx; exact SeqAt.EqAt.bool_none a
    | bl b => cases rx; exact SeqAt.EqAt.bool_bool a b
    | int b => obtain ⟨t, rfl⟩ := rx; exact SeqAt.EqAt.bool_int a b t
    | str b => obtain ⟨t, rfl⟩ := rx; exact SeqAt.EqAt.bool_str a b t
    | _ => exact absurd (show false = true from fx) Bool.false_ne_true
  | int a =>
    obtain ⟨t', rfl⟩ := ry
    cases x with
    | non => cases rx; exact SeqAt.EqAt.int_none a t'
    | bl b => cases rx; exact SeqAt.EqAt.int_bool a t' b
    | int b => obtain ⟨t, rfl⟩ := rx; exact SeqAt.EqAt.int_int a t' b t
    | str b => obtain ⟨t, rfl⟩ := rx; exact SeqAt.EqAt.int_str a t' b t
    | _ => exact absurd (show false = true from fx) Bool.false_ne_true
  | str a =>
    obtain ⟨t', rfl⟩ := ry
    cases x with
    | non => cases rx; exact SeqAt.EqAt.str_none a t'
    | bl b => cases rx; exact SeqAt.EqAt.str_bool a t' b
    | int b => obtain ⟨t, rfl⟩ := rx; exact SeqAt.EqAt.str_int a t' b t
    | str b => obtain ⟨t, rfl⟩ := rx; exact SeqAt.EqAt.str_str a t' b t
    | _ => exact absurd (show false = true from fx) Bool.false_ne_true
  | _ => exact absurd (show false = true from fy) Bool.false_ne_true
noncomputable def eqU (x : V) (u : Value) : Bool := match u with
  | .none => eqV .non x
  | .bool b => eqV (.bl b) x
  | .int i _ => eqV (.int i) x
  | .str z _ => eqV (.str z) x
  | _ => false
theorem eqU_of {x y : V} {u : Value} (r : RelV y u) (f : flatV y = true) : eqU x u = eqV y x := by
  cases y with
  | non => cases r; rfl
  | bl b => cases r; rfl
  | int i => obtain ⟨t, rfl⟩ := r; rfl
  | str z => obtain ⟨t, rfl⟩ := r; rfl
  | _ => exact absurd (show false = true from f) Bool.false_ne_true
theorem any_eqU {x : V} : ∀ {xs : List V} {us : List Value}, Vals xs us → xs.all flatV = true → us.any (eqU x) = xs.any fun y => eqV y x
  | _, _, .nil, _ => rfl
  | y :: xs, u :: us, .cons r t, f => by
    rw [List.all_cons, Bool.and_eq_true] at f
    rw [List.any_cons, List.any_cons, eqU_of r f.1, any_eqU t f.2]
theorem mem_eqAt {A : Around} {s : Shared} {x : V} {v : Value} (rx : RelV x v) (fx : flatV x = true) : ∀ {xs : List V} {us : List Value}, Vals xs us → xs.all flatV = true → ∀ u ∈ us, SeqAt.EqAt A s u v (eqU x u)
  | _, _, .nil, _ => fun u hu => by cases hu
  | y :: xs, u :: us, .cons r t, f => fun u' hu => by
    rw [List.all_cons, Bool.and_eq_true] at f
    rcases List.mem_cons.mp hu with rfl | hu
    · rw [eqU_of r f.1]; exact eqAt_V r rx f.1 fx
    · exact mem_eqAt rx fx t f.2 u' hu
noncomputable def inV (x : V) (xs : List V) : Bool := xs.any fun y => eqV y x
noncomputable def rIn (K : PySem.W.Frag) (neg : Bool) : R2 := fun x y H Q => ∃ p xs, y = .ref p ∧ (SqL K H p xs ∨ SqT K H p xs) ∧ flatV x = true ∧ xs.all flatV = true ∧ Q (.bl (if neg then !inV x xs else inV x xs)) H
theorem op_in_seq : OpR X (compareOp .In) (rIn X.K false) := by
  intro pins s σ H x y v u Q I rx ry h
  obtain ⟨p, xs, rfl, hq, fx, fs, q⟩ := h
  cases ry
  rcases hq with hq | hq
  · obtain ⟨its, r, pl, hz⟩ := I.list hq
    refine SeqAt.in_listAt (eqU x) pl.isList (fun w hw => mem_eqAt rx fx r fs w (by simpa using hw)) ⟨.bl _, H, I, rfl, ?_⟩
    rw [show its.toArray.any (eqU x) = its.any (eqU x) by simp, any_eqU r fs]
    exact q
  · obtain ⟨its, r, pl, hz⟩ := I.tuple hq
    refine SeqAt.in_tupleAt (eqU x) pl (fun w hw => mem_eqAt rx fx r fs w (by simpa using hw)) ⟨.bl _, H, I, rfl, ?_⟩
    rw [show its.toArray.any (eqU x) = its.any (eqU x) by simp, any_eqU r fs]
    exact q
theorem op_notIn_seq : OpR X (compareOp .NotIn) (rIn X.K true) := by
  intro pins s σ H x y v u Q I rx ry h
  obtain ⟨p, xs, rfl, hq, fx, fs, q⟩ := h
  cases ry
  rcases hq with hq | hq
  · obtain ⟨its, r, pl, hz⟩ := I.list hq
    refine SeqAt.notIn_listAt (eqU x) pl.isList (fun w hw => mem_eqAt rx fx r fs w (by simpa using hw)) ⟨.bl _, H, I, rfl, ?_⟩
    rw [show its.toArray.any (eqU x) = its.any (eqU x) by simp, any_eqU r fs]
    exact q
  · obtain ⟨its, r, pl, hz⟩ := I.tuple hq
    refine SeqAt.notIn_tupleAt (eqU x) pl (fun w hw => mem_eqAt rx fx r fs w (by simpa using hw)) ⟨.bl _, H, I, rfl, ?_⟩
    rw [show its.toArray.any (eqU x) = its.any (eqU x) by simp, any_eqU r fs]
    exact q
theorem CallR.or {f : Value} {r r' : List V → Hp → VK → Prop} (h : CallR X f r) (h' : CallR X f r') : CallR X f (fun xs H Q => r xs H Q ∨ r' xs H Q) := by
  intro pins s σ H xs us Q I rs q
  rcases q with q | q
  · exact h pins s σ H xs us Q I rs q
  · exact h' pins s σ H xs us Q I rs q
theorem call_list_of : CallR X (.type "list") (fun xs H Q => ∃ p ys, xs = [.ref p] ∧ (SqL X.K H p ys ∨ SqT X.K H p ys) ∧ ∀ l, H l = none → Q (.ref l) (upd H l (.lst ys))) := by
  intro pins s σ H xs us Q I r h
  obtain ⟨p, ys, rfl, hq, q⟩ := h
  obtain ⟨u, rfl, rx⟩ := vals1 r
  cases rx
  have fin : ∀ (its : List Value), Vals ys its → ys.length ≤ sizeLine → ∀ (h' : Heap) (c' : Nat), (∀ b o', s.heap.get? b = some o' → h'.get? b = some o') →
      h'.get? s.heap.objs.size = some { cls := .type "list", dict := none, data := .seq its.toArray c', slots := #[] } → EP X pins σ Q (.ref s.heap.objs.size) { s with heap := h' } := fun its r' hz h' c' kp e =>
    ⟨.ref s.heap.objs.size, _, I.laid (t' := s.toks) kp (Nat.le_refl _) (show ObjOk X.prog X.w _ h' _ (.lst ys) from ⟨hz, its, c', r', e⟩), rfl, q _ (I.hok.fresh (Nat.le_refl _))⟩
  rcases hq with hq | hq
  · obtain ⟨its, r', pl, hz⟩ := I.list hq
    have hlen := r'.length
    obtain ⟨o, ho, hc, n, hd⟩ := pl.isList
    exact call_list_seq p (.inl rfl) ho hc hd (fun h' c' kp e => fin its r' hz h' c' kp e) (by simp only [List.size_toArray] <;> omega)
  · obtain ⟨its, r', pl, hz⟩ := I.tuple hq
    have hlen := r'.length
    obtain ⟨o, ho, hc, n, hd⟩ := pl
    exact call_list_seq p (.inr rfl) ho hc hd (fun h' c' kp e => fin its r' hz h' c' kp e) (by simp only [List.size_toArray] <;> omega)
theorem call_tuple_of : CallR X (.type "tuple") (fun xs H Q => ∃ p ys, xs = [.ref p] ∧ ((SqL X.K H p ys ∧ ∀ l, H l = none → Q (.ref l) (upd H l (.tup ys))) ∨ (SqT X.K H p ys ∧ Q (.ref p) H))) := by
  intro pins s σ H xs us Q I r h
  obtain ⟨p, ys, rfl, h⟩ := h
  obtain ⟨u, rfl, rx⟩ := vals1 r
  cases rx
  rcases h with ⟨hq, q⟩ | ⟨hq, q⟩
  · obtain ⟨its, r', pl, hz⟩ := I.list hq
    have hlen := r'.length
    refine call_tuple_list pl.isList (fun h' kp => ?_) (by simp only [List.size_toArray] <;> omega)
    have I1 : Inv X pins σ H { s with heap := h' } := I.kept (t' := s.toks) kp
    have I2 : Inv X pins σ (upd H h'.objs.size (.tup ys)) { s with heap := h'.push { cls := .type "tuple", data := .seq its.toArray } } :=
      I1.laid (t' := s.toks) (fun b o e => Heap.get?_push_of_some _ e) (Nat.le_refl _) (show ObjOk X.prog X.w _ _ _ (.tup ys) from ⟨hz, its, r', IsTup.new _ _⟩)
    exact ⟨.ref h'.objs.size, _, I2, rfl, q _ (I1.hok.fresh (Nat.le_refl _))⟩
  · obtain ⟨its, r', pl, hz⟩ := I.tuple hq
    exact call_tuple_same pl ⟨.ref p, H, I, rfl, q⟩

noncomputable def tyV (K : PySem.W.Frag) (T : String) (x : V) (H : Hp) : Prop := match x with
  | .str _ => T = "str"
  | .int _ => T = "int"
  | .ref p => (T = "list" ∧ ∃ xs, SqL K H p xs) ∨ (T = "tuple" ∧ ∃ o, K.lookup p = some o ∧ o.cls = .type "tuple" ∧ o.dict = none) ∨
      (T = "dict" ∧ ((∃ kvs, H p = some (.dK kvs)) ∨ ∃ kvs, H p = some (.dT kvs))) ∨ (T = "set" ∧ ∃ S n, H p = some (.set S n))
  | _ => False
theorem tyV_is {pins : List (Addr × Obj)} {σ : St} {H : Hp} {s : Shared} {T : String} {x : V} {v : Value} (I : Inv X pins σ H s) (r : RelV x v) (ty : tyV X.K T x H) :
    s.TypeIs v T ∧ ∀ a, v = .ref a → ∃ ob, s.heap.get? a = some ob ∧ ob.dict = none := by
  cases x with
  | str z =>
    obtain ⟨t, rfl⟩ := r
    cases (show T = "str" from ty)
    exact ⟨typeIs_str s z t, fun _ e => nomatch e⟩
  | int i =>
    obtain ⟨t, rfl⟩ := r
    cases (show T = "int" from ty)
    exact ⟨typeIs_int s i t, fun _ e => nomatch e⟩
  | ref p =>
    cases r
    rcases ty with ⟨rfl, xs, hq⟩ | ⟨rfl, o, hk, hc, hd⟩ | ⟨rfl, hk⟩ | ⟨rfl, S, n, hk⟩
    · obtain ⟨its, _, pl, _⟩ := I.list hq
      refine ⟨pl.isList.typeIs, fun a e => ?_⟩
      cases e
      obtain ⟨o, n, e, c, hd, _⟩ := pl
      exact ⟨o, e, hd⟩
    · refine ⟨⟨o, I.kIn p o hk, hc⟩, fun a e => ?_⟩
      cases e
      exact ⟨o, I.kIn _ o hk, hd⟩
    · have z : ∃ o, s.heap.get? p = some o ∧ o.ExactDict := by
        rcases hk with ⟨kvs, hk⟩ | ⟨kvs, hk⟩
        · obtain ⟨_, _, _, _, o, _, _, e, ex, _⟩ := I.hok p _ hk
          exact ⟨o, e, ex⟩
        · obtain ⟨_, _, _, _, o, _, _, e, ex, _⟩ := I.hok p _ hk
          exact ⟨o, e, ex⟩
      obtain ⟨o, e, ex⟩ := z
      refine ⟨⟨o, e, ex.1⟩, fun a e2 => ?_⟩
      cases e2
      exact ⟨o, e, ex.2.1⟩
    · obtain ⟨o, _, _, _, e, ex, _⟩ := I.hok p _ hk
      refine ⟨⟨o, e, ex.1⟩, fun a e2 => ?_⟩
      cases e2
      exact ⟨o, e, ex.2.1⟩
  | _ => exact False.elim ty
noncomputable def tBM0 (K : PySem.W.Frag) (T : String) (r : V → List V → Hp → VK → Prop) (to : TE) : TE := fun σ H Q => to σ H fun x H1 => tyV K T x H1 ∧ r x [] H1 Q
noncomputable def tBM (K : PySem.W.Frag) (T : String) (r : V → List V → Hp → VK → Prop) (to : TE) (t : TA) : TE := fun σ H Q => to σ H fun x H1 => tyV K T x H1 ∧ t σ H1 fun xs H2 => r x xs H2 Q
variable {o e : Expr} {es : List Expr} {to : TE} {t : TA} {name : Str} {apos cpos : Pos} {T id : String} {r : V → List V → Hp → VK → Prop}
theorem pe_bm0 (pa : PlainAttrs T) (slot : Slot T name id) (hty : typeOf (.builtin id) = pure (.type "method_descriptor")) (hm : MtR X id r) (ho : PE X o to)
    (hbase : attributeBase o name X.env (eval o X.env) = eval o X.env := by rfl) (hline : (apos.endLine == cpos.line) = true := by rfl) : PE X (.Call (.Attribute o name apos) [] [] cpos) (tBM0 X.K T r to) := by
  intro pins s σ H Q I h
  refine wpAny_Call_method0_late hbase hline (thn (ho pins s σ H _ I h) fun v s1 ⟨x, H1, I1, r1, ty, q1⟩ => ?_)
  obtain ⟨h1, h2⟩ := tyV_is I1 r1 ty
  exact ⟨T, id, pa, slot, hty, h1, h2, Calls.callWith_builtin rfl (PySem.evalArgs_none (hm pins s1 σ H1 x [] v [] Q I1 r1 .nil q1))⟩
theorem pe_bm (pa : PlainAttrs T) (slot : Slot T name id) (hty : typeOf (.builtin id) = pure (.type "method_descriptor")) (hm : MtR X id r) (ho : PE X o to) (ha : PA X (e :: es) t)
    (hbase : attributeBase o name X.env (eval o X.env) = eval o X.env := by rfl)
    (hfew : ((backTo cpos (starEach (e :: es) X.env)).all (fun x => !x.1) && (backToKw cpos (keywordEach [] X.env)).all (fun x => x.1.isSome)
      && decide ((e :: es).length + ([] : List Keyword).length + (if ([] : List Keyword).isEmpty then 0 else 1) < 30)) = true := by rfl)
    (hline : (apos.endLine == cpos.line) = true := by rfl) (hs : starEach (e :: es) X.env = (false, eval e X.env) :: starEach es X.env := by rfl) (hplain : (backTo cpos (starEach es X.env)).any (·.1) = false := by rfl) :
    PE X (.Call (.Attribute o name apos) (e :: es) [] cpos) (tBM X.K T r to t) := by
  intro pins s σ H Q I h
  refine wpAny_Call_method_late hbase hfew hline rfl (thn (ho pins s σ H _ I h) fun v s1 ⟨x, H1, I1, r1, ty, q1⟩ => ?_)
  obtain ⟨h1, h2⟩ := tyV_is I1 r1 ty
  refine ⟨T, id, pa, slot, hty, h1, h2, ?_⟩
  have hA := ha cpos pins s1 σ H1 _ I1 q1
  rw [hs] at hA ⊢
  refine Calls.callWith_builtin (by show (false || (backTo cpos (starEach es X.env)).any (·.1)) = false; rw [hplain] <;> rfl) (Calls.evalArgs_plain ?_)
  exact thn hA fun us s2 ⟨vs, H2, I2, r2, q2⟩ => hm pins s2 σ H2 x vs v us Q I2 r1 r2 q2
/- xs.append(e), list.index on a module's tuple .. are MtR facts of 06m -/
end
end L2

namespace L2
open PySem PySem.Spec PyProof.Rows

noncomputable def MtM (X : Cx) (id : String) (r : V → List V → Hp → VK → Prop) : Prop :=
  ∀ (pins : List (Addr × Obj)) (s : Shared) (σ : St) (H : Hp) (x : V) (xs : List V) (v : Value) (us : List Value) (Q : VK), Inv X pins σ H s → RelV x v → Vals xs us → r x xs H Q →
    wpAny (model X.prog X.w) X.A (call (.builtin id) (v :: us)) (EP X pins σ Q) X.xe s

theorem Vals.one : ∀ {x : V} {us : List Value}, Vals [x] us → ∃ u, us = [u] ∧ RelV x u
  | _, _, .cons r .nil => ⟨_, rfl, r⟩
theorem Vals.two : ∀ {x y : V} {us : List Value}, Vals [x, y] us → ∃ u v, us = [u, v] ∧ RelV x u ∧ RelV y v
  | _, _, _, .cons r (.cons q .nil) => ⟨_, _, rfl, r, q⟩
theorem Vals.zero : ∀ {us : List Value}, Vals [] us → us = []
  | _, .nil => rfl
theorem Vals.dropLast {xs : List V} {us : List Value} (h : Vals xs us) : Vals xs.dropLast us.dropLast := by
  induction h with
  | nil => exact .nil
  | cons r t ih =>
    cases t with
    | nil => exact .nil
    | cons q t' => exact .cons r ih
theorem Vals.eraseIdx : ∀ {xs : List V} {us : List Value} (i : Nat), Vals xs us → Vals (xs.eraseIdx i) (us.eraseIdx i)
  | _, _, _, .nil => .nil
  | _, _, 0, .cons _ t => t
  | _, _, i + 1, .cons r t => .cons r (Vals.eraseIdx i t)
theorem Vals.reverse {xs : List V} {us : List Value} (h : Vals xs us) : Vals xs.reverse us.reverse := by
  induction h with
  | nil => exact .nil
  | cons r t ih => rw [List.reverse_cons, List.reverse_cons]; exact Vals.append ih (.cons r .nil)
theorem Vals.rep {xs : List V} {us : List Value} (h : Vals xs us) : ∀ k : Nat, Vals (List.replicate k xs).flatten (List.replicate k us).flatten
  | 0 => .nil
  | k + 1 => by
    rw [List.replicate_succ, List.replicate_succ, List.flatten_cons, List.flatten_cons]
    exact Vals.append h (Vals.rep h k)
theorem erase_last {α : Type} (l : List α) : l.eraseIdx (l.length - 1) = l.dropLast := by
  induction l with
  | nil => rfl
  | cons a r ih =>
    cases r with
    | nil => rfl
    | cons b r =>
      have e : (a :: b :: r).length - 1 = ((b :: r).length - 1) + 1 := by
        have h1 : (a :: b :: r).length = r.length + 2 := rfl
        have h2 : (b :: r).length = r.length + 1 := rfl
        omega
      rw [e, List.eraseIdx_cons_succ, ih]
      all_goals rfl
theorem foldl_rep (its : List Value) : ∀ (k : Nat) (acc : List Value),
    List.foldl (fun x1 x2 => x1 ++ x2) acc.toArray (List.replicate k its.toArray) = (acc ++ (List.replicate k its).flatten).toArray
  | 0, acc => by simp
  | k + 1, acc => by
    have e : acc.toArray ++ its.toArray = (acc ++ its).toArray := by simp
    have e2 : (acc ++ its) ++ (List.replicate k its).flatten = acc ++ (List.replicate (k + 1) its).flatten := by
      rw [List.replicate_succ, List.flatten_cons, List.append_assoc]
    rw [← e2, ← foldl_rep its k (acc ++ its), ← e, List.replicate_succ, List.foldl_cons]

section
variable {X : Cx} {pins : List (Addr × Obj)} {σ : St} {H : Hp} {s : Shared} {l b : Addr} {xs ys zs : List V}

theorem Inv.lset {its its' : List Value} {n : Nat} {f : Array Value → Array Value} {t' : Nat} (I : Inv X pins σ H s) (hH : H l = some (.lst xs))
    (e : s.heap.get? l = some { cls := .type "list", data := .seq its.toArray n }) (hf : f its.toArray = its'.toArray) (hv : Vals ys its') (hz : ys.length ≤ sizeLine) :
    Inv X pins σ (upd H l (.lst ys)) { s with heap := s.heap.update l (Obj.mapSeq f), toks := t' } := by
  have q := PySem.IsL.update e f
  rw [hf] at q
  refine I.write (x := l) (e := l) (by rw [hH]; exact trivial) (.inl rfl) (fun b' u hb hu => (Heap.get?_update_other s.heap (Obj.mapSeq f) (Ne.symm hb)).trans hu) ⟨_, q⟩ ?_
  exact ⟨hz, its', _, hv, q⟩
theorem Inv.lnew {its : List Value} {t' : Nat} (I : Inv X pins σ H s) (hv : Vals ys its) (hz : ys.length ≤ sizeLine) :
    Inv X pins σ (upd H s.heap.objs.size (.lst ys)) { s with heap := s.heap.push { cls := .type "list", data := .seq its.toArray }, toks := t' } :=
  I.laid (fun _ _ q => Heap.get?_push_of_some _ q) (Nat.le_refl _) ⟨hz, its, 0, hv, Heap.get?_push_size _ rfl⟩
theorem Inv.fresh (I : Inv X pins σ H s) : H s.heap.objs.size = none := I.hok.fresh (Nat.le_refl _)
theorem Inv.lstM (I : Inv X pins σ H s) (hH : H l = some (.lst xs)) : xs.length ≤ sizeLine ∧ ∃ (its : List Value) (n : Nat), Vals xs its ∧ xs.length = its.length ∧ s.heap.get? l = some { cls := .type "list", data := .seq its.toArray n } := by
  obtain ⟨z, its, n, r, e⟩ := I.hok l _ hH
  exact ⟨z, its, n, r, r.length, e⟩

theorem notLongL {n : Nat} (h : n ≤ sizeLine) : Builtin.List.listTooLong n = false := by
  unfold Builtin.List.listTooLong
  exact decide_eq_false (by omega)
end

section
variable {X : Cx}

noncomputable def rAppend : V → List V → Hp → VK → Prop := fun x vs H Q => ∃ l xs y, x = .ref l ∧ vs = [y] ∧ H l = some (.lst xs) ∧ xs.length < sizeLine ∧ Q .non (upd H l (.lst (xs ++ [y])))
theorem mt_append : MtM X "list.append" rAppend := by
  intro pins s σ H x vs v us Q I rx rv h
  obtain ⟨l, xs, y, rfl, rfl, hH, hz, q⟩ := h
  cases rx
  obtain ⟨u, rfl, ru⟩ := rv.one
  obtain ⟨z, its, n, r, hl, e⟩ := I.lstM hH
  refine call_meets F.slot_list_append ⟨_, e, rfl⟩ F.entry_list_append (F.args_list_append_2 _ _) (PySem.list_append l its.toArray n u (by rw [List.size_toArray]; omega)) ⟨e, ?_⟩
  refine ⟨.non, _, I.lset (its' := its ++ [u]) hH e (by simp) (r.append (.cons ru .nil)) ?_, rfl, q⟩
  rw [List.length_append, List.length_singleton]
  omega

noncomputable def rPop : V → List V → Hp → VK → Prop := fun x vs H Q => ∃ l xs y, x = .ref l ∧ vs = [] ∧ H l = some (.lst xs) ∧ xs[xs.length - 1]? = some y ∧ Q y (upd H l (.lst xs.dropLast))
theorem mt_pop : MtM X "list.pop" rPop := by
  intro pins s σ H x vs v us Q I rx rv h
  obtain ⟨l, xs, y, rfl, rfl, hH, hy, q⟩ := h
  cases rx
  have hus := rv.zero
  subst hus
  obtain ⟨z, its, n, r, hl, e⟩ := I.lstM hH
  obtain ⟨u, hu, ru⟩ := r.get hy
  have hy' : its.toArray[its.toArray.size - 1]? = some u := by
    show its.toArray[its.length - 1]? = some u
    rw [← Array.getElem?_toList, ← hl]
    exact hu
  refine call_meets F.slot_list_pop ⟨_, e, rfl⟩ F.entry_list_pop (F.args_list_pop_1 _) (MeetsSeq.list_pop_last l its.toArray n u hy' (by rw [List.size_toArray]; omega)) ⟨e, ?_⟩
  refine ⟨y, _, I.lset (its' := its.dropLast) hH e ?_ r.dropLast ?_, ru, q⟩
  · show its.toArray.eraseIdxIfInBounds (its.toArray.size - 1) = its.dropLast.toArray
    rw [List.size_toArray, List.eraseIdxIfInBounds_toArray, erase_last]
  · rw [List.length_dropLast]
    omega

noncomputable def rCat : R2 := fun x y H Q => ∃ l b xs zs, x = .ref l ∧ y = .ref b ∧ H l = some (.lst xs) ∧ H b = some (.lst zs) ∧ xs.length + zs.length ≤ sizeLine ∧ ∀ p, H p = none → Q (.ref p) (upd H p (.lst (xs ++ zs)))
theorem op_cat : OpR X (binaryOp .Add) rCat := by
  intro pins s σ H x y v u Q I rx ry h
  obtain ⟨l, b, xs, zs, rfl, rfl, hH, hB, hz, q⟩ := h
  cases rx
  cases ry
  obtain ⟨z, its, n, r, hl, e⟩ := I.lstM hH
  obtain ⟨z2, its2, n2, r2, hl2, e2⟩ := I.lstM hB
  refine PySem.P.add_list e e2 ?_ (by rw [List.size_toArray, List.size_toArray]; omega)
  have ea : its.toArray ++ its2.toArray = (its ++ its2).toArray := by simp
  rw [ea]
  exact ⟨.ref _, _, I.lnew (t' := s.toks) (r.append r2) (by rw [List.length_append]; omega), rfl, q _ I.fresh⟩
noncomputable def rRep : R2 := fun x y H Q => ∃ l k xs, x = .ref l ∧ y = .int k ∧ H l = some (.lst xs) ∧ -(2 ^ 63) ≤ k ∧ k < 2 ^ 63 ∧ xs.length * k.toNat ≤ sizeLine ∧
  ∀ p, H p = none → Q (.ref p) (upd H p (.lst (List.replicate k.toNat xs).flatten))
theorem len_rep {α : Type} (xs : List α) (k : Nat) : (List.replicate k xs).flatten.length = k * xs.length := by
  induction k with
  | zero => simp
  | succ k ih => rw [List.replicate_succ, List.flatten_cons, List.length_append, ih, Nat.succ_mul, Nat.add_comm]
theorem op_rep : OpR X (binaryOp .Mult) rRep := by
  intro pins s σ H x y v u Q I rx ry h
  obtain ⟨l, k, xs, rfl, rfl, hH, h1, h2, hz, q⟩ := h
  cases rx
  obtain ⟨t, rfl⟩ := ry
  obtain ⟨z, its, n, r, hl, e⟩ := I.lstM hH
  have hlen : its.toArray.size * k.toNat ≤ sizeLine := by rw [List.size_toArray, ← hl]; exact hz
  have hcap : ¬ its.toArray.size * k.toNat > (2 ^ 63 - 1) / 8 := by
    have : (sizeLine : Nat) ≤ (2 ^ 63 - 1) / 8 := by decide
    omega
  have hfit : ¬ (!Builtin.List.listFitsIndex k) = true := by
    rw [fitsIndex_both h1 h2]
    exact Bool.false_ne_true
  have hlong : ¬ Builtin.List.listTooLong (its.toArray.size * k.toNat) = true := by
    rw [notLongL hlen]
    exact Bool.false_ne_true
  have hnew : List.foldl (fun x1 x2 => x1 ++ x2) #[] (List.replicate (if its.toArray.isEmpty = true then 0 else k.toNat) its.toArray) = (List.replicate k.toNat its).flatten.toArray := by
    have f0 : ∀ m : Nat, List.foldl (fun x1 x2 => x1 ++ x2) #[] (List.replicate m its.toArray) = (List.replicate m its).flatten.toArray := fun m => by
      have := foldl_rep its m []
      rw [List.nil_append] at this
      exact this
    rw [f0]
    cases its with
    | nil => simp
    | cons a r' => rw [if_neg (by simp)]
  refine wpAny_binaryOp_repeat_ref (T := "list") (U := "int") (by decide) ⟨_, e, rfl⟩ (fun s' => typeIs_int s' k t) noFill_list_mul F.fills_int_mul F.slot_int_rmul repeat_list F.slot_int_index.lookup
    (call_meets F.slot_int_rmul (typeIs_int s k t) F.entry_int_rmul (F.args_int_rmul_2 _ _) (int___rmul___int_list k t l its.toArray n)
      ⟨e, rfl, ⟨_, e, rfl⟩, call_meets F.slot_list_mul ⟨_, e, rfl⟩ F.entry_list_mul (F.args_list_mul_2 _ _) (AutoListH.list___mul___list_int_3 l its.toArray n k t hfit hcap hlong) ⟨e, ?_⟩⟩)
  rw [hnew]
  exact ⟨.ref _, _, I.lnew (t' := s.toks) (r.rep k.toNat) (by rw [len_rep, Nat.mul_comm]; exact hz), rfl, q _ I.fresh⟩

end

section
variable {prog : Program} {w : World} {A : Around} {E : Value → Shared → Prop} {s : Shared}
end

section
variable {X : Cx}
end
end L2

namespace Att
open PySem PySem.W PySem.Calls PyProof.Rows

theorem ints_of_wellAll {P : Params} {h : Heap} : ∀ (ns : List Int) (vs : List Value), WellAll P h vs (ns.map WData.int) → IntsAre vs ns := by
  intro ns
  induction ns with
  | nil =>
    intro vs w
    rw [List.map_nil] at w
    cases w
    exact .nil
  | cons n ns ih =>
    intro vs w
    rw [List.map_cons] at w
    cases w with
    | cons a b =>
      cases a
      exact .cons _ _ (ih _ b)

theorem script_of {l : OpenLaw} {n : Nat} (hn : l.most = some n) {P : Params} {h : Heap} {args : List WData} {vals : List Value}
    (hpre : l.row.toRowW.claim.pre args = true) (hwl : WellAll P h vals args) :
    ∃ a vs ns, vals = [Value.ref a] ∧ args = [WData.list (ns.map WData.int)] ∧ h.get? a = some { cls := .type "list", data := .seq vs.toArray } ∧ IntsAre vs ns ∧ ns.length ≤ n := by
  have hsh : WShape.hasAll [] args [.list .int] = true := (pre_splitW hpre).1
  have hc : l.pre.holds [] { args := args } = true := (pre_splitW hpre).2
  obtain ⟨d, r, rfl, h1, h2⟩ := hasAllW_cons hsh
  obtain rfl := hasAllW_nil h2
  obtain ⟨xs, rfl, h3⟩ := hasW_list h1
  obtain ⟨ns, rfl⟩ := items_int h3
  have hlen : ns.length ≤ n := by
    unfold OpenLaw.pre at hc
    have h4 : (WTm.not (.lt (.lit (.int (n : Int))) (.len (.arg 0)))).holds [] { args := [.list (ns.map .int)] } = true := by
      have h4 := (holds_andW hc).1
      rw [hn] at h4
      exact h4
    have h5 := condW_of h4 (w_not (w_lt w_lit (w_len_list (w_arg rfl))))
    rw [List.length_map] at h5
    refine Nat.le_of_not_lt fun q => ?_
    have q' : (n : Int) < ((ns.length : Nat) : Int) := by omega
    first
      | (rw [decide_eq_true q'] at h5; exact absurd h5 (by decide))
      | (simp at h5; omega)
  cases hwl with
  | cons w1 w2 =>
    cases w2
    cases w1 with
    | list ho hall => exact ⟨_, _, ns, rfl, rfl, ho, ints_of_wellAll ns _ hall, hlen⟩

theorem post_true (l : OpenLaw) (args : List WData) : l.row.toRowW.claim.post args (.bool true) args = true :=
  postW_of (r := l.row.toRowW) (X := (true == true))
    (show WShape.has [] (.bool true) .bool = true by first | rfl | decide | simp [WShape.has, WShape.arms, WShape.armsAll])
    (show (WTm.eq .res (.lit (.bool true))).value [] { args := args, res := some (.bool true), after := args } = some (.bool (true == true)) from w_eq_bool (w_res rfl) w_lit) rfl

theorem attach_call {l : OpenLaw} {n : Nat} {q : Program} {loose : List Str} {XP : (Str → Option Value) → Heap → Prop} {YP : World → Heap → Prop} {d : DefRec}
    (hn : l.most = some n) (hdf : d.params.defaults = [])
    (call : ∀ (w : World) (s₀ s₁ : Shared) (mg mb : Str → Option Value) (fa : Addr) (o : Obj) (pm cd doc : Value) (a : Addr) (vs : List Value) (ns : List Int),
      Ground q loose [] XP w s₀ mg mb s₁.heap → YP w s₁.heap →
      s₁.heap.get? fa = some o → o.data = .func (docDef d.name d.params d.body d.scope pm cd doc) → s₁.heap.CodeRec cd d.name → mg d.name = some (.ref fa) →
      s₁.heap.get? a = some { cls := .type "list", data := .seq vs.toArray } → IntsAre vs ns → ns.length ≤ n → s₁.gens = #[] →
      codeAny (model l.prog w) callerA (.call (.ref fa) ⟨[.ref a], []⟩) (fun r s' => r = .ok (.ret (.bool true)) ∧ OldK s₁.heap s'.heap ∧ s'.os = s₁.os ∧ AllBare s'.gens) s₁) :
    WalkO q loose XP YP l.row.toRowW d [] (fun f vs => PySem.call f vs) := by
  intro w s₀ s₁ mg mb G Y fa o pm cd doc dV kV ho hd hcd hD hmg hg args vals as hpre hlay hrd hwl hlo
  obtain rfl : dV = .none := Dflts.none hD hdf
  obtain rfl : kV = .none := Dflts.noKw hD
  obtain ⟨a, vs, ns, rfl, rfl, hobj, hints, hlen⟩ := script_of hn hpre hwl
  refine enter_call (codeAny_mono (call w s₀ s₁ mg mb fa o pm cd doc a vs ns G Y ho (fd_plain hd) hcd hmg hobj hints hlen hg) fun r s' hq => ?_)
  obtain ⟨rfl, h2, h3, h4⟩ := hq
  exact ⟨.inl ⟨.bool true, .bool true, [], rfl, fun _ => rfl, .bool true, post_true l _, fun _ => ⟨List.Pairwise.nil, fun _ hm => (nomatch hm)⟩⟩, h2, h3, h4⟩

section
variable {prog : Program} {w : World} {A : Around} {E : Value → Shared → Prop} {s : Shared} {K : Frag}

end
end Att

namespace L2
open PySem PySem.Spec PyProof.Rows

theorem vals_ints : ∀ {vs : List Value} {ns : List Int}, IntsAre vs ns → Vals (ns.map V.int) vs
  | _, _, .nil => .nil
  | _, _, .cons n t h => .cons ⟨t, rfl⟩ (vals_ints h)

noncomputable def Only (H : Hp) : Prop := ∀ b, H b = none ∨ ∃ o xs, H b = some (.frz o (.lst xs))

theorem law_call {P : Program} {w : World} {K : PySem.W.Frag} {mg mb : Str → Option Value} {CX : CXT} {k : Nat} {fa a : Addr} {fd : FuncData} {x : Str} {sp : Sp} {s₁ : Shared} {vs : List Value} {ns : List Int}
    (KX : K.In s₁.heap) (hns : s₁.heap.Ns mainGlobals mg) (hb : s₁.heap.Ns builtinsNs mb) (hbb : ∀ x : Str, x ≠ "__name__" → mb x = bootBuiltins x) (hlim : s₁.heap.NoLimit) (hg : s₁.gens = #[])
    (ha : s₁.heap.get? a = some { cls := .type "list", data := .seq vs.toArray }) (hi : IntsAre vs ns) (hl : ns.length ≤ sizeLine) (hr : Room k callerA)
    (F : ∀ base : Heap, K.In base → base.Ns mainGlobals mg → FnOk P w K mg base CX k fa fd [x] sp) (hbind : ∀ (s : Shared) (u : Value), BindsTo s fd ⟨[u], []⟩ [(x, u)])
    (hsp : ∀ H : Hp, Only H → SqL K H a (ns.map V.int) → sp [.ref a] H (fun v _ => v = .bl true) fun _ _ _ => False)
    (hCX : ∀ H e s', CX [] H s₁ (fun _ _ _ => False) e s' → False) :
    codeAny (model P w) callerA (.call (.ref fa) ⟨[.ref a], []⟩) (fun r s' => r = .ok (.ret (.bool true)) ∧ OldK s₁.heap s'.heap ∧ s'.os = s₁.os ∧ AllBare s'.gens) s₁ := by
  have rv := vals_ints hi
  have lenV := hi.length
  -- from an abstract heap in which nothing but the script may be tracked
  have core : ∀ H : Hp, Only H → SqL K H a (ns.map V.int) → HOk P w H s₁.heap → (∀ b, H b ≠ none → b = a) → (H a ≠ none → K.lookup a = none) →
      codeAny (model P w) callerA (.call (.ref fa) ⟨[.ref a], []⟩) (fun r s' => r = .ok (.ret (.bool true)) ∧ OldK s₁.heap s'.heap ∧ s'.os = s₁.os ∧ AllBare s'.gens) s₁ := by
    intro H hO hS hok hA hK
    have base_of : ∀ {b : Addr} {o : Obj}, s₁.heap.get? b = some o → H b = none → (hidT s₁.heap H).get? b = some o := fun e n => hidT_get e n
    have noA : ∀ {b : Addr} {o : Obj} {es : Array DictEntry} {ep : Nat}, s₁.heap.get? b = some o → o.data = .dict es ep → H b = none := fun {b o es ep} e d => by
      cases q : H b with
      | none => rfl
      | some u =>
        have e' : b = a := hA b (by rw [q]; simp)
        subst e'
        rw [ha] at e; cases e
        have d' : Data.seq vs.toArray _ = Data.dict es ep := d
        cases d'
    have nsK : ∀ {b : Addr} {m : Str → Option Value}, s₁.heap.Ns b m → (hidT s₁.heap H).Ns b m := fun {b m} ⟨o, es, ep, e, d, r⟩ => ⟨o, es, ep, base_of e (noA e d), d, r⟩
    have hKb : K.In (hidT s₁.heap H) := fun b o e => base_of (KX b o e) (by
      cases q : H b with
      | none => rfl
      | some u =>
        have e' : b = a := hA b (by rw [q]; simp)
        subst e'
        rw [hK (by rw [q]; simp)] at e; cases e)
    have hM : Mod K mg (hidT s₁.heap H) := ⟨hKb, nsK hns, ⟨mb, nsK hb, hbb⟩, let ⟨mc, h1, h2⟩ := hlim; ⟨mc, nsK h1, h2⟩⟩
    have e0 : Env0 P w K mg (hidT s₁.heap H) callerA [] s₁ H := ⟨rfl, hM, fun b o e => of_hidT e, Nat.le_of_eq (hidT_size _ _), trivial, fun b hb => absurd (show b ∈ ([] : List Addr) from hb) (by simp), hok, .of_eq hg⟩
    refine codeAny_mono ((F _ hKb (nsK hns)).run callerA [] s₁ H ⟨[.ref a], []⟩ [.ref a] [.ref a] _ _ hr e0 (hbind s₁ (.ref a)) (.cons rfl .nil) (hsp H hO hS)) fun r s' h => ?_
    cases r with
    | error e => exact (hCX H e s' h).elim
    | ok fl =>
      cases fl with
      | next => exact False.elim h
      | brk => exact False.elim h
      | cont => exact False.elim h
      | ret u =>
        obtain ⟨v, H', os, bare, un, hok', r', q⟩ := h
        have q' : v = .bl true := q
        subst q'
        obtain rfl : u = Value.bool true := r'
        refine ⟨rfl, OldK.of_keep fun b o e => ?_, os, bare⟩
        cases q : H b with
        | none => exact un.keep b o e q (by intro z; exact absurd (show b ∈ ([] : List Addr) from z) (by simp)) (by simp)
        | some u =>
          rcases hO b with z | ⟨ob, xs, z⟩
          · rw [q] at z; cases z
          · have z2 := un.frzs b ob _ z
            obtain ⟨e1, _⟩ := hok b _ z
            obtain ⟨e2, _⟩ := hok' b _ z2
            rw [e] at e1; cases e1
            exact e2
  cases hk : K.lookup a with
  | some o =>
    -- the script is one of the module's own objects
    have e := KX a o hk
    rw [ha] at e
    cases e
    refine core (fun _ => none) (fun _ => .inl rfl) (.inr ⟨_, vs.toArray, _, hk, rfl, rfl, rfl, by rw [List.size_toArray, lenV]; exact hl, by simpa using rv⟩) (fun b u z => by have z' : (none : Option HO) = some u := z; cases z') (fun b z => absurd rfl z) fun z => absurd rfl z
  | none =>
    refine core (fun b => if b = a then some (.frz { cls := .type "list", data := .seq vs.toArray } (.lst (ns.map V.int))) else none) (fun b => ?_) (.inl (.inr ⟨{ cls := .type "list", data := .seq vs.toArray }, if_pos rfl⟩)) (fun b u z => ?_) (fun b z => ?_) fun _ => hk
    · by_cases hb : b = a
      · exact .inr ⟨_, _, if_pos hb⟩
      · exact .inl (if_neg hb)
    · by_cases hb : b = a
      · have z' := (if_pos hb).symm.trans z
        cases z'
        subst hb
        exact ⟨ha, by rw [List.length_map]; exact hl, vs, _, rv, ha⟩
      · have z' := (if_neg hb).symm.trans z
        cases z'
    · by_cases hb : b = a
      · exact hb
      · exact absurd (if_neg hb) z
end L2

namespace L2
open PySem PySem.Spec PyProof.Rows

theorem walk_of {l : PySem.W.OpenLaw} {n k : Nat} {q : Program} {loose : List Str} {XP : (Str → Option Value) → Heap → Prop} {YP : World → Heap → Prop} {d : DefRec} {K : Params → PySem.W.Frag} {CX : World → CXT} {sp : World → Sp} {x : Str}
    (hn : l.most = some n) (hn2 : n ≤ sizeLine) (hdf : d.params.defaults = []) (hr : Room k callerA)
    (hY : ∀ (w : World) (h : Heap), YP w h → (K w.params).In h)
    (F : ∀ (w : World) (mg : Str → Option Value) (fa : Addr) (h : Heap), (K w.params).In h → h.Ns mainGlobals mg → mg d.name = some (.ref fa) →
      ∃ fd : FuncData, (∀ (s : Shared) (u : Value), BindsTo s fd ⟨[u], []⟩ [(x, u)]) ∧
        ∀ base : Heap, (K w.params).In base → base.Ns mainGlobals mg → FnOk l.prog w (K w.params) mg base (CX w) k fa fd [x] (sp w))
    (hsp : ∀ (w : World) (H : Hp) (a : Addr) (ns : List Int), ns.length ≤ n → Only H → SqL (K w.params) H a (ns.map V.int) → sp w [.ref a] H (fun v _ => v = .bl true) fun _ _ _ => False)
    (hCX : ∀ (w : World) (H : Hp) (s : Shared) (e : Value) (s' : Shared), CX w [] H s (fun _ _ _ => False) e s' → False) :
    PySem.W.WalkO q loose XP YP l.row.toRowW d [] (fun f vs => PySem.call f vs) := by
  refine Att.attach_call hn hdf fun w s₀ s₁ mg mb fa o pm cd doc a vs ns G Y ho hd hcd hmg hobj hints hlen hg => ?_
  have KX := hY w _ Y
  obtain ⟨fd, hb, hF⟩ := F w mg fa _ KX G.T.g hmg
  exact law_call KX G.T.g G.T.b G.T.builtins G.T.nolimit hg hobj hints (Nat.le_trans hlen hn2) hr hF hb (fun H hO hS => hsp w H a ns hlen hO hS) fun H e s' => hCX w H s₁ e s'
end L2

/- THE LAST THEOREM (shape; LID, My.* are yours):
   My.Adr: a structure of the addresses that your layer names (classes, functions); My.Txt K t: a structure (Prop) of the equations over K;
   My.txt_mk : {K} {implicit addresses ..} (e1 : nsIn K mainGlobals "law" = some (some (.ref f))) (e2 : K.lookup f = some ⟨oc, od, .func (fnOf "law" "law" params body scope dV kV doc pm an cdv ct), sl⟩) (e3 : codeIn K cdv "law" = true) .. : ∃ t, My.Txt K t

set_option maxRecDepth 100000 in
set_option maxHeartbeats 0 in
theorem PySem.Challenge.cw_LID_holds : PySem.Challenge.rw_LID.Holds := by
  w_on; o_law; k_head; (case hw => w_witness2)
  k_fill
  refine L2.walk_of (l := PySem.Challenge.rw_LID) (n := 63) (k := 40) (x := "script") (CX := fun w => ..) (sp := fun _ => My.sp_law) rfl (by decide) rfl ⟨rfl, by decide, by decide⟩ (fun w h Y => PySem.W.kIn_of Y) ?F ?S ?C
  case F =>
    intro w mg fa h KX G hmg
    have T : ∃ t, My.Txt (L2.KOf KX) t := by
      dsimp only [L2.KOf]                          -- K must stand as «<heap const> w.params» for k_is
      refine' My.txt_mk ?e1 ?e2 ?e3 ..
      (case e1 => PySem.W.k_is)                    -- in the order: a name -> its address -> its object -> its parts
      (case e2 => PySem.W.k_is)
      ..
    obtain ⟨t, T⟩ := T
    have e0 := hmg.symm.trans (PySem.W.mg_of KX G T.law)
    cases e0                                       -- fa is the law's own address
    exact ⟨_, fun s u => .of_eq rfl, fun base kb nb => My.law_fn T kb nb⟩     -- if «.of_eq rfl» comes too early: refine' ⟨_, ?b, fun base kb nb => My.law_fn T kb nb⟩; exact fun s u => .of_eq rfl
  case S => exact fun w H a ns hl hO hS => ..
  case C => exact ..
(the tactic k_is has no namespace: write k_is) -/

namespace L2
open PySem PySem.Spec PyProof.Rows

noncomputable def defArgs (s : Stmt) : Arguments := match s with
  | .FunctionDef _ a _ _ _ _ _ _ _ _ => a
  | _ => { posonlyargs := [], args := [], vararg := none, kwonlyargs := [], kw_defaults := [], kwarg := none, defaults := [] }
noncomputable def defBody (s : Stmt) : List Stmt := match s with
  | .FunctionDef _ _ b _ _ _ _ _ _ _ => b
  | _ => []
noncomputable def defScope (s : Stmt) : Scope := match s with
  | .FunctionDef _ _ _ _ _ _ sc _ _ _ => sc
  | _ => { kind := .function, names := [], isGenerator := false, isCoroutine := false }

noncomputable abbrev CX0 : CXT := fun _ _ _ _ _ _ => False
noncomputable abbrev E0 : XK := fun _ _ _ => False
theorem pass0 {X : Cx} : Passes CX0 X E0 := fun _ _ _ _ _ _ _ h => h.elim

structure Fun (K : PySem.W.Frag) (x qual : Str) (st : Stmt) (f : Addr) (fd : FuncData) : Prop where
  ex : ∃ (oc : Value) (od : Option Addr) (kV doc pm : Value) (an : Option Addr) (cdv ct : Value) (osl : Array (Option Value)),
    fd = PySem.W.fnOf x qual (defArgs st) (defBody st) (defScope st) .none kV doc pm an cdv ct ∧ K.lookup f = some ⟨oc, od, .func fd, osl⟩ ∧ PySem.W.codeIn K cdv qual = true
  kp : PySem.W.keepIn K (.ref f) = true
section
variable {P : Program} {w : World} {K : PySem.W.Frag} {mg : Str → Option Value} {base : Heap}
theorem Fun.ok {x qual : Str} {st : Stmt} {f : Addr} {fd : FuncData} {N ps : List Str} {k : Nat} {sp : Sp} (F : Fun K x qual st f fd) (S : FnScope N ps (defScope st)) (len : ∀ vs H Q E, sp vs H Q E → vs.length = ps.length)
    (hbody : ∀ (cdv : Value) (A : Around) (outer : List Env) (s : Shared) (H : Hp) (vs : List V) (Q : VK) (E : XK), Room k (A.deeper (envOfC qual (defScope st) s.heap.objs.size f cdv)) → sp vs H Q E →
      ∃ t, PSs (cxOf CX0 P w K mg base N qual (defScope st) f cdv A outer s H E).nox (defBody st) t ∧ t { nx := fun _ H' => Q .non H', rt := Q } (start N vs) H) : FnOk P w K mg base CX0 (k + 1) f fd ps sp := by
  obtain ⟨oc, od, kV, doc, pm, an, cdv, ct, osl, rfl, lk, hcd⟩ := F.ex
  refine fn_of lk hcd S len fun A outer s H vs Q E hr hsp => ?_
  obtain ⟨t, h, q⟩ := hbody cdv A outer s H vs Q E hr hsp
  exact ⟨t, h.nox, q⟩
theorem Fun.binds {x qual : Str} {st : Stmt} {f : Addr} {fd : FuncData} {ps : List Str} (F : Fun K x qual st f fd)
    (h : ∀ (kV doc pm : Value) (an : Option Addr) (cdv ct : Value) (us : List Value), us.length = ps.length → bindArgs (PySem.W.fnOf x qual (defArgs st) (defBody st) (defScope st) .none kV doc pm an cdv ct) ⟨us, []⟩ = pure (ps.zip us)) : Binds K fd ps [] := by
  obtain ⟨oc, od, kV, doc, pm, an, cdv, ct, osl, rfl, lk, hcd⟩ := F.ex
  exact .all (h kV doc pm an cdv ct)
theorem fun_mk {x qual : Str} {st : Stmt} {f : Addr} {oc : Value} {od an : Option Addr} {osl : Array (Option Value)} {kV doc pm cdv ct : Value} (l : K.lookup f = some ⟨oc, od, .func (PySem.W.fnOf x qual (defArgs st) (defBody st) (defScope st) .none kV doc pm an cdv ct), osl⟩)
    (c : PySem.W.codeIn K cdv qual = true) (k : PySem.W.keepIn K (.ref f) = true) : Fun K x qual st f (PySem.W.fnOf x qual (defArgs st) (defBody st) (defScope st) .none kV doc pm an cdv ct) := ⟨⟨oc, od, kV, doc, pm, an, cdv, ct, osl, rfl, l, c⟩, k⟩
end
section
variable {X : Cx}
end

theorem iteF {A B : Prop} (h : B) : if false = true then A else B := by
  rw [if_neg Bool.false_ne_true]
  exact h
theorem iteT {A B : Prop} (h : A) : if true = true then A else B := by
  rw [if_pos rfl]
  exact h
theorem ite2 {c A B : Prop} [Decidable c] (h1 : c → A) (h2 : ¬ c → B) : if c then A else B := by
  by_cases h : c
  · rw [if_pos h]
    exact h1 h
  · rw [if_neg h]
    exact h2 h
noncomputable def Same (H H' : Hp) : Prop := ∀ b o, H b = some o → H' b = some o
theorem Same.refl (H : Hp) : Same H H := fun _ _ h => h
theorem Same.trans {H H1 H2 : Hp} (a : Same H H1) (b : Same H1 H2) : Same H H2 := fun c o h => b c o (a c o h)
theorem Same.free {H H' : Hp} (e : Same H H') {l : Addr} (h : H' l = Option.none) : H l = Option.none := by
  cases q : H l with
  | none => rfl
  | some o =>
    rw [e l o q] at h
    cases h
theorem Same.seq {K : PySem.W.Frag} {H H' : Hp} {a : Addr} {xs : List V} (e : Same H H') (h : SqL K H a xs) : SqL K H' a xs := by
  rcases h with (h | ⟨o, h⟩) | h
  · exact .inl (.inl (e _ _ h))
  · exact .inl (.inr ⟨o, e _ _ h⟩)
  · exact .inr h

end L2

set_option Elab.async false
set_option linter.all false
set_option maxRecDepth 100000
set_option maxHeartbeats 4000000
namespace L2
open PySem PySem.Spec PyProof.Rows

noncomputable def closL (env : Env) : List (Str × NameKind) → List (Str × Addr) → List (Str × Addr)
  | [], acc => acc
  | (n, k) :: r, acc => closL env r (if k == .free then (match env.cells.lookup n with | some a => (n, a) :: acc | none => acc) else acc)
theorem closL_sub {env : Env} : ∀ {ns : List (Str × NameKind)} {acc : List (Str × Addr)} {x : Str} {c : Addr}, (∀ x c, acc.lookup x = some c → env.cells.lookup x = some c) → (closL env ns acc).lookup x = some c → env.cells.lookup x = some c
  | [], acc, x, c, h, e => h x c e
  | (n, k) :: r, acc, x, c, h, e => by
    refine closL_sub (ns := r) ?_ e
    intro y d
    split
    · split
      · rename_i a ha
        intro q
        rw [List.lookup_cons] at q
        split at q
        · rename_i hy
          have hy' : y = n := by simpa using hy
          subst hy'
          rw [ha]; exact q
        · exact h y d q
      · exact h y d
    · exact h y d
theorem closL_acc {env : Env} : ∀ {ns : List (Str × NameKind)} {acc : List (Str × Addr)} {x : Str}, (acc.lookup x).isSome = true → ((closL env ns acc).lookup x).isSome = true
  | [], acc, x, h => h
  | (n, k) :: r, acc, x, h => by
    refine closL_acc (ns := r) ?_
    split
    · split
      · rw [List.lookup_cons]
        split
        · rfl
        · exact h
      · exact h
    · exact h
theorem closL_has {env : Env} : ∀ {ns : List (Str × NameKind)} {acc : List (Str × Addr)} {x : Str}, (x, NameKind.free) ∈ ns → (env.cells.lookup x).isSome = true → ((closL env ns acc).lookup x).isSome = true
  | [], acc, x, h, _ => by cases h
  | (n, k) :: r, acc, x, h, hc => by
    rcases List.mem_cons.mp h with e | e
    · cases e
      refine closL_acc (ns := r) ?_
      obtain ⟨a, ha⟩ := Option.isSome_iff_exists.mp hc
      rw [if_pos (by rfl), ha]
      show (List.lookup n ((n, a) :: acc)).isSome = true
      rw [List.lookup_cons]
      simp
    · exact closL_has (ns := r) e hc
theorem closureFor_eq {scope : Scope} {env : Env} (h : ∀ x ∈ scope.names, x.2 = .free → (env.cells.lookup x.1).isSome = true) : closureFor scope env = pure (closL env scope.names []) := by
  have all : ∀ (ns : List (Str × NameKind)) (acc : List (Str × Addr)), (∀ x ∈ ns, x.2 = .free → (env.cells.lookup x.1).isSome = true) →
      (forIn ns acc fun (x : Str × NameKind) (cs : List (Str × Addr)) => (if (x.2 == NameKind.free) = true then do let a ← cellOf env x.1; pure (ForInStep.yield ((x.1, a) :: cs)) else pure (ForInStep.yield cs) : Sem (ForInStep (List (Str × Addr))))) = pure (closL env ns acc) := by
    intro ns
    induction ns with
    | nil => intro acc _; rfl
    | cons x r ih =>
      intro acc hx
      obtain ⟨n, k⟩ := x
      rw [List.forIn_cons]
      by_cases hk : (k == NameKind.free) = true
      · obtain ⟨a, ha⟩ := Option.isSome_iff_exists.mp (hx (n, k) List.mem_cons_self (by simpa using hk))
        have ha : env.cells.lookup n = some a := ha
        have hcell : cellOf env n = pure a := by unfold cellOf; rw [ha]
        simp only [hk, if_true, hcell]
        refine Eq.trans (ih ((n, a) :: acc) fun y hy => hx y (List.mem_cons_of_mem _ hy)) ?_
        conv => rhs; unfold closL
        simp only [hk, if_true, ha]
      · simp only [hk]
        refine Eq.trans (ih acc fun y hy => hx y (List.mem_cons_of_mem _ hy)) ?_
        conv => rhs; unfold closL
        simp only [hk]
        rfl
  unfold closureFor
  exact (by
    have := all scope.names [] h
    first | exact this | (simp only [bind_pure] ; exact this) | simpa using this)
noncomputable def cmpCx (X : Cx) (scope : Scope) (C : Addr) (N : List Str) (s₀ : Shared) (H₀ : Hp) (ex : List Addr) : Cx where
  prog := X.prog
  w := X.w
  K := X.K
  mg := X.mg
  base := X.base
  A := X.A
  N := N
  s₀ := s₀
  H₀ := H₀
  env := compEnvC scope (closL X.env scope.names []) C X.env
  outer := X.stack
  stack := X.stack
  ex := ex
  fn := fun _ => false
  calm := X.calm
  pn := []
  xe := fun _ _ => False
structure CScope (sc : Scope) (env : Env) : Prop where
  kind : sc.kind = .function
  nocell : ∀ y ∈ sc.names, y.2 ≠ .cell
  loc : ∀ y ∈ sc.names, y.2 = .local → sc.names.lookup y.1 = some .local
  free : ∀ x ∈ sc.names, x.2 = .free → (env.cells.lookup x.1).isSome = true
theorem lookup_relabel {env : Env} : ∀ {names : List (Str × NameKind)} {x : Str} {k : NameKind}, ((names.map fun (n, k) => if (k == NameKind.free && env.scope.kind == .function && env.kindOf n == some .cell) then (n, NameKind.cell) else (n, k)).lookup x = some k) →
    ∃ k', names.lookup x = some k' ∧ (k' = k ∨ (k' = .free ∧ k = .cell))
  | [], x, k, h => by simp at h
  | (n, q) :: r, x, k, h => by
    have ih := @lookup_relabel env r x k
    have h : List.lookup x ((if (q == NameKind.free && env.scope.kind == .function && env.kindOf n == some .cell) = true then (n, NameKind.cell) else (n, q)) :: _) = some k := h
    rw [List.lookup_cons]
    cases hx : x == n with
    | true =>
      by_cases hc : (q == NameKind.free && env.scope.kind == .function && env.kindOf n == some .cell) = true
      · rw [if_pos hc] at h
        simp only [List.lookup_cons, hx] at h
        refine ⟨q, rfl, .inr ⟨?_, (Option.some.inj h).symm⟩⟩
        simp only [Bool.and_eq_true] at hc
        simpa using hc.1.1
      · rw [if_neg hc] at h
        simp only [List.lookup_cons, hx] at h
        exact ⟨q, rfl, .inl (Option.some.inj h)⟩
    | false =>
      by_cases hc : (q == NameKind.free && env.scope.kind == .function && env.kindOf n == some .cell) = true
      · rw [if_pos hc] at h
        simp only [List.lookup_cons, hx] at h
        exact ih h
      · rw [if_neg hc] at h
        simp only [List.lookup_cons, hx] at h
        exact ih h
noncomputable def Takes (X : Cx) (scope : Scope) (N : List Str) (σ σ0 : St) : Prop :=
  σ0.length = N.length ∧ ∀ (i : Nat) (x : Str) (v : V), N[i]? = some x → σ0[i]? = some (some v) → ∃ j : Nat, X.N[j]? = some x ∧ σ[j]? = some (some v) ∧ scope.names.lookup x = some .free ∧ (X.env.kindOf x = some .cell ∨ X.env.kindOf x = some .free)
section
variable {X : Cx}
theorem cmp_start {scope : Scope} {N : List Str} {pins : List (Addr × Obj)} {σ σ0 : St} {H : Hp} {s : Shared} {h' : Heap} {tk : Nat} {fp : List Addr} (I : Inv X pins σ H s) (S : CScope scope X.env) (hf : ∀ b ∈ fp, FpOk X pins H b) (hlt : ∀ b ∈ fp, b < s.heap.objs.size)
    (T : Takes X scope N σ σ0) (hn : h'.Ns s.heap.objs.size (fun _ => none)) (hk : ∀ b o, s.heap.get? b = some o → h'.get? b = some o) :
    Inv (cmpCx X scope s.heap.objs.size N s H fp) [] σ0 H { s with heap := h', toks := tk } := by
  have subC : ∀ x c, (closL X.env scope.names []).lookup x = some c → X.env.cells.lookup x = some c := fun x c e => closL_sub (ns := scope.names) (acc := []) (fun y d z => by simp at z) e
  have hasC : ∀ x, scope.names.lookup x = some .free → ∃ c, (closL X.env scope.names []).lookup x = some c := fun x e => by
    have m := PySem.mem_of_lookup e
    exact Option.isSome_iff_exists.mp (closL_has m (S.free _ m rfl))
  have fsN : ∀ b ∈ fp, b ∉ frs X.stack := fun b hb z => by
    obtain ⟨_, f1, f2, _⟩ := hf b hb
    rcases List.mem_cons.mp (I.stkSub b z) with e | e
    · exact f1 e
    · exact f2 e
  have kinds : ∀ x, ((relabel scope X.env).names.lookup x = some .cell ∨ (relabel scope X.env).names.lookup x = some .free) → scope.names.lookup x = some .free := fun x hx => by
    rcases hx with hx | hx
    · obtain ⟨k', e, q⟩ := lookup_relabel hx
      rcases q with q | ⟨q, _⟩
      · subst q
        exact absurd rfl (S.nocell _ (PySem.mem_of_lookup e))
      · rw [e, q]
    · obtain ⟨k', e, q⟩ := lookup_relabel hx
      rcases q with q | ⟨_, q⟩
      · rw [e, q]
      · cases q
  have noex : ∀ b o, X.base.get? b = some o → b ∉ fp := fun b o e hb => by
    obtain ⟨_, _, _, f3, _⟩ := hf b hb
    rcases f3 with z | z
    · exact I.ok.noex b o e z
    · exact absurd (Nat.lt_of_lt_of_le (Heap.lt_size e) (Nat.le_trans I.ok.bsz z)) (Nat.lt_irrefl _)
  refine ⟨⟨I.ok.mod, S.kind, I.ok.glob, I.ok.blt, Nat.le_refl _, fun x y c e1 e2 => I.ok.inj x y c (subC x c e1) (subC y c e2), fun x hx => hasC x (kinds x hx), fun x c z => absurd (show false = true from z) Bool.false_ne_true, I.ok.hd, I.ok.frames, .inl rfl,
      fun b hb => ⟨Nat.ne_of_lt (hlt b hb), fun x c e => (hf b hb).2.2.2.2.1 x c (subC x c e)⟩, I.bs, Nat.le_trans I.ok.bsz I.sz, noex, fsN, I.stack, I.stkFree⟩,
    rfl, I.bare, Un.kept hk, ⟨_, hn, fun i x v e1 e2 e3 => ?_⟩, fun x c e => ?_, I.hok.fresh (Nat.le_refl _), fun x c e => I.freeC x c (subC x c e), fun p hp => absurd (show p ∈ ([] : List (Addr × Obj)) from hp) (by simp), I.hok.kept hk, T.1⟩
  · obtain ⟨j, hj, hs, hfr, hkd⟩ := T.2 i x v e1 e2
    obtain ⟨m, _, hl⟩ := I.loc
    obtain ⟨u, r, l⟩ := hl j x v hj hs (hkd.elim (fun z => Or.inr (Or.inl z)) fun z => Or.inr (Or.inr z))
    refine ⟨u, r, .inr ⟨?_, ?_⟩⟩
    · show (relabel scope X.env).names.lookup x = some .cell ∨ (relabel scope X.env).names.lookup x = some .free
      rcases e3 with z | z | z
      · obtain ⟨k', e, q⟩ := lookup_relabel (show (relabel scope X.env).names.lookup x = some .local from z)
        rw [hfr] at e
        cases e
        rcases q with q | ⟨_, q⟩ <;> cases q
      · exact .inl z
      · exact .inr z
    · obtain ⟨c, hc⟩ := hasC x hfr
      refine ⟨c, hc, ?_⟩
      rcases l with ⟨k, _⟩ | ⟨_, c', e, z⟩
      · rcases hkd with hkd | hkd <;> (rw [hkd] at k; cases k)
      · have e' := subC x c hc
        rw [e] at e'
        cases e'
        obtain ⟨o, ho, hd⟩ := z
        exact ⟨o, hk _ o ho, hd⟩
  · obtain ⟨v, o, ho, hd⟩ := I.cell x c (subC x c e)
    exact ⟨v, o, hk _ o ho, hd⟩
theorem cmp_end {scope : Scope} {N : List Str} {pins pins' : List (Addr × Obj)} {σ σ' : St} {H H' : Hp} {s s' : Shared} {h' : Heap} {fp : List Addr} (I : Inv X pins σ H s) (hf : ∀ b ∈ fp, FpOk X pins H b)
    (I' : Inv (cmpCx X scope s.heap.objs.size N s H fp) pins' σ' H' s') (hs : Heap.SameBut s.heap.objs.size s'.heap h') : Inv X pins σ H' { s' with heap := h' } := by
  have hC : H' s.heap.objs.size = none := I'.free
  have ne : ∀ b o, s.heap.get? b = some o → b ≠ s.heap.objs.size := fun b o e => Nat.ne_of_lt (Heap.lt_size e)
  have B : Un (frs X.stack) fp H H' s.heap s'.heap := I'.base
  refine I.call' (s' := { s' with heap := h' }) (ch := fp) I'.os ⟨fun b o e n hb hx => ?_, fun b o e n hb hx => ?_, B.free, fun b o e hx => ?_, B.tups, B.frzs, B.tbls⟩ (fun b o e => ?_) I'.bare (fun b hb => ?_)
  · exact (hs.2 b (ne b o e)).trans (B.keep b o e n hb hx)
  · obtain ⟨sl, q⟩ := B.slot b o e n hb hx
    exact ⟨sl, (hs.2 b (ne b o e)).trans q⟩
  · obtain ⟨o', q⟩ := B.there b o e hx
    exact ⟨o', (hs.2 b (ne b o e)).trans q⟩
  · refine (I'.hok b o e).stay (fun c w' hc q => (hs.2 c ?_).trans q) (fun _ q => q) fun _ _ q => q
    rintro rfl
    rcases hc with rfl | hc
    · rw [hC] at e; cases e
    · rw [hC] at hc; cases hc
  · obtain ⟨_, f1, _, f3, f4, f5⟩ := hf b hb
    exact ⟨f3, f1, f4, f5⟩
end
end L2

set_option Elab.async false
set_option linter.all false
set_option maxRecDepth 100000
set_option maxHeartbeats 4000000
namespace L2
open PySem PySem.Spec PyProof.Rows
section
variable {prog : Program} {w : World} {A : Around} {R : Result → Shared → Prop} {s : Shared}
theorem compLoop_any {elt target iter : Expr} {ifs : List Expr} {scope : Scope} {pos : Pos} {it acc : Value} {env : Env} (I : Nat → Shared → Prop)
    (turn : ∀ n s, I n s → wpAny (model prog w) A (pyNext it) (fun r s₁ => match r with
      | none => R (.ok .next) s₁
      | some v => wpAny (model prog w) A (letOwnedTupleGo target it v) (fun _ s₁' => wpAny (model prog w) A (assign target env v) (fun _ s₂ =>
          wpAny (model prog w) A (forIn ifs true fun c r => if r = true then do let ok ← isTrue c env (eval c env); pure (ForInStep.yield ok) else pure (ForInStep.yield r)) (fun ok s₃ =>
            if ok = true then wpAny (model prog w) A (eval elt env) (fun x s₄ =>
              wpAny (model prog w) A (call (.builtin "list.append") [acc, x]) (fun _ s₅ => ∃ m, m < n ∧ I m s₅) (fun _ _ => False) s₄) (fun _ _ => False) s₃
            else ∃ m, m < n ∧ I m s₃) (fun _ _ => False) s₂) (fun _ _ => False) s₁') (fun _ _ => False) s₁) (fun _ _ => False) s)
    (n : Nat) (h : I n s) : codeAny (model prog w) A (.compLoop (.ListComp elt [⟨target, iter, ifs, 0⟩] scope pos) 0 it acc env) R s := by
  refine codeAny_loop rfl I (fun n s hI => ?_) n h
  show wpAny _ A ((compTurn (.ListComp elt [⟨target, iter, ifs, 0⟩] scope pos) 0 it acc env).onRaise (fun x => do noteFrame x env; theTreesLotGoes x)) _ _ s
  refine wpAny_noted ?_
  rw [compTurn_list]
  have up : ∀ {α : Type} {t : Sem α} {Q : α → Shared → Prop} {s : Shared} {E : Value → Shared → Prop}, wpAny (model prog w) A t Q (fun _ _ => False) s → wpAny (model prog w) A t Q E s := fun h => wpAny_noRaise h
  refine wpAny_bind (wpAny_standAt (wpAny_bind (up (thn (turn n s hI) fun r s₁ h₁ => ?_))))
  cases r with
  | none => exact wpAny_pure h₁
  | some v =>
    refine wpAny_bind (up (thn h₁ fun _ s₁' h₁' => ?_))
    refine wpAny_bind (up (thn h₁' fun _ s₂ h₂ => wpAny_bind (up (thn h₂ fun ok s₃ h₃ => ?_))))
    cases ok with
    | false => exact wpAny_pure ⟨rfl, h₃⟩
    | true =>
      exact wpAny_bind (wpAny_bind (up (thn h₃ fun x s₄ h₄ => wpAny_bind (up (thn h₄ fun _ s₅ h₅ => wpAny_pure (wpAny_pure ⟨rfl, h₅⟩))))))
end

noncomputable def CompW (J : It) (g : TG) (tt : TT) (te : TE) (σ0 : St) (H1 : Hp) (D : Addr) (Q : VK) : Prop :=
  ∃ W : Nat → Nat → St → Hp → Prop, (∃ m, W 0 m σ0 (upd H1 D (.lst []))) ∧ ∀ i m σ' H', W i m σ' H' →
    (J.stop i H' ∧ Q (.ref D) H') ∨ (J.go i H' ∧ ∃ N : St → Hp → Prop, (∀ σ2 H2, N σ2 H2 → ∃ m', m' < m ∧ W (i + 1) m' σ2 H2) ∧ ∀ x H2, J.yld i H' x H2 → g x σ' H2 fun σ2 H3 => tt σ2 H3 fun b H4 =>
      if b = true then te σ2 H4 fun y H5 => ∃ ys, H5 D = some (.lst ys) ∧ ys.length < sizeLine ∧ N σ2 (upd H5 D (.lst (ys ++ [y]))) else N σ2 H4)
noncomputable def tComp (wi : TI) (σ0 : St → St) (g : TG) (tt : TT) (te : TE) : TE := fun σ H Q => wi σ H fun J H1 => ∀ D, H1 D = none → CompW J g tt te (σ0 σ) H1 D Q
noncomputable def PTs (X : Cx) (ifs : List Expr) (t : TT) : Prop :=
  ∀ (pins : List (Addr × Obj)) (s : Shared) (σ : St) (H : Hp) (Q : Bool → Hp → Prop), Inv X pins σ H s → t σ H Q →
    wpAny (model X.prog X.w) X.A (forIn ifs true fun c r => if r = true then do let ok ← isTrue c X.env (eval c X.env); pure (ForInStep.yield ok) else pure (ForInStep.yield r)) (TP X pins σ Q) X.xe s
noncomputable def tYes : TT := fun _ H Q => Q true H
theorem pts_nil {X : Cx} : PTs X [] tYes := fun _ _ _ H _ I h => wpAny_tests_nil ⟨H, I, h⟩
section
variable {X : Cx} {elt target iter : Expr} {ifs : List Expr} {scope : Scope} {pos : Pos} {N : List Str} {wi : TI} {σ0 : St → St} {g : TG} {tt : TT} {te : TE}
theorem comp_block {pins : List (Addr × Obj)} {σ : St} {H : Hp} {s : Shared} {it : Addr} {fp : List Addr} {tn : Nat → Heap → Prop} {J : It} {Q : Addr → Hp → Prop} {RR : Value → Addr → Result → Shared → Prop} {E : Value → Shared → Prop}
    (hc : X.calm = true) (S : CScope scope X.env) (T : Takes X scope N σ (σ0 σ)) (I : Inv X pins σ H s) (Tn : Turn X.prog X.w X.K target J fp it tn) (st : tn 0 s.heap) (hf : ∀ b ∈ fp, FpOk X pins H b)
    (hg : ∀ C s H fp, PG (cmpCx X scope C N s H fp) target g) (ht : ∀ C s H fp, PTs (cmpCx X scope C N s H fp) ifs tt) (he : ∀ C s H fp, PE (cmpCx X scope C N s H fp) elt te)
    (hw : ∀ D, H D = none → ∃ W : Nat → Nat → St → Hp → Prop, (∃ m, W 0 m (σ0 σ) (upd H D (.lst []))) ∧ ∀ i m σ' H', W i m σ' H' →
      (J.stop i H' ∧ Q D H') ∨ (J.go i H' ∧ ∃ N : St → Hp → Prop, (∀ σ2 H2, N σ2 H2 → ∃ m', m' < m ∧ W (i + 1) m' σ2 H2) ∧ ∀ x H2, J.yld i H' x H2 → g x σ' H2 fun σ2 H3 => tt σ2 H3 fun b H4 =>
        if b = true then te σ2 H4 fun y H5 => ∃ ys, H5 D = some (.lst ys) ∧ ys.length < sizeLine ∧ N σ2 (upd H5 D (.lst (ys ++ [y]))) else N σ2 H4))
    (hR : ∀ (D C : Addr) (H' : Hp) (s' : Shared) (m : Str → Option Value), s.heap.objs.size ≤ C → H' C = none → s'.heap.Ns C m → (∀ h', Heap.SameBut C s'.heap h' → Inv X pins σ H' { s' with heap := h' }) → Q D H' → RR (.ref D) C (.ok .next) s') :
    wpAny (model X.prog X.w) X.A (newList []) (fun acc s₃ => wpAny (model X.prog X.w) X.A (newFunctionEnv scope X.env.globals (closL X.env scope.names []) [] X.env.qual none .none (some X.env)) (fun cenv s₄ =>
      codeAny (model X.prog X.w) X.A (.compStart (.ListComp elt [⟨target, iter, ifs, 0⟩] scope pos) 0 (.ref it) acc { cenv with scope := relabel scope X.env }) (RR acc cenv.locals) s₄) E s₃) E s := by
  refine wpAny_newObj_type (wpAny_newFunctionEnv S.nocell (by intro y hy; simp at hy) (fun h₁ hns₁ hsb₁ => ?_) S.kind)
  -- the new list is tracked
  have hD : H s.heap.objs.size = none := I.hok.fresh (Nat.le_refl _)
  have I3 : Inv X pins σ (upd H s.heap.objs.size (.lst [])) { s with heap := s.heap.push { cls := .type "list", dict := none, data := .seq ([] : List Value).toArray } } := I.lnew (ys := []) (its := []) (t' := s.toks) .nil (by simp)
  have hlt : ∀ b ∈ fp, b < s.heap.objs.size := fun b hb => by obtain ⟨o, e, _⟩ := Tn.obj _ _ st b hb; exact Heap.lt_size e
  have hf3 : ∀ b ∈ fp, FpOk X pins (upd H s.heap.objs.size (.lst [])) b := fun b hb => ⟨by rw [upd_ne (Nat.ne_of_lt (hlt b hb))]; exact (hf b hb).1, (hf b hb).2⟩
  have hlt3 : ∀ b ∈ fp, b < ({ s with heap := s.heap.push { cls := .type "list", dict := none, data := .seq ([] : List Value).toArray } } : Shared).heap.objs.size := fun b hb => by
    show b < (s.heap.push _).objs.size
    rw [Heap.size_push]
    exact Nat.lt_succ_of_lt (hlt b hb)
  have hk1 : ∀ b o, ({ s with heap := s.heap.push { cls := .type "list", dict := none, data := .seq ([] : List Value).toArray } } : Shared).heap.get? b = some o → h₁.get? b = some o := fun b o e =>
    hsb₁.extBut b o (Nat.ne_of_lt (Heap.lt_size e)) (Heap.get?_push_of_some _ e)
  have I4 := cmp_start (N := N) (tk := s.toks + ([] : List (Str × Value)).length) I3 S hf3 hlt3 T hns₁ hk1
  have st4 : tn 0 h₁ := Tn.keep _ _ _ st fun b hb o e => hk1 b o (Heap.get?_push_of_some _ e)
  obtain ⟨W, ⟨m0, w0⟩, turn⟩ := hw _ hD
  generalize hX : cmpCx X scope ({ s with heap := s.heap.push { cls := .type "list", dict := none, data := .seq ([] : List Value).toArray } } : Shared).heap.objs.size N { s with heap := s.heap.push { cls := .type "list", dict := none, data := .seq ([] : List Value).toArray } } (upd H s.heap.objs.size (.lst [])) fp = X' at I4
  have eP : X'.prog = X.prog := by rw [← hX]; rfl
  have eW : X'.w = X.w := by rw [← hX]; rfl
  have eK : X'.K = X.K := by rw [← hX]; rfl
  have eA : X'.A = X.A := by rw [← hX]; rfl
  have eC : X'.calm = true := by rw [← hX]; exact hc
  have eX : X'.xe = fun _ _ => False := by rw [← hX]; rfl
  have eEx : X'.ex = fp := by rw [← hX]; rfl
  have hg' : PG X' target g := by rw [← hX]; exact hg _ _ _ _
  have ht' : PTs X' ifs tt := by rw [← hX]; exact ht _ _ _ _
  have he' : PE X' elt te := by rw [← hX]; exact he _ _ _ _
  have eE : X'.env = compEnvC scope (closL X.env scope.names []) ({ s with heap := s.heap.push { cls := .type "list", dict := none, data := .seq ([] : List Value).toArray } } : Shared).heap.objs.size X.env := by rw [← hX]; rfl
  -- the iterator's objects, inside
  have fpIn : ∀ {H' : Hp}, (∀ b ∈ fp, H' b = none) → ∀ b ∈ fp, FpOk X' [] H' b := fun {H'} hn b hb => by
    obtain ⟨f0, f1, f2, f3, f4, f5⟩ := hf3 b hb
    rw [← hX]
    refine ⟨hn b hb, Nat.ne_of_lt (hlt3 b hb), fun z => ?_, .inl hb, fun x c e => f4 x c (closL_sub (ns := scope.names) (acc := []) (fun y d z => by simp at z) e), fun p hp => absurd (show p ∈ ([] : List (Addr × Obj)) from hp) (by simp)⟩
    rcases List.mem_cons.mp (I3.stkSub b z) with e | e
    · exact f1 e
    · exact f2 e
  have fr0 : ∀ b ∈ fp, upd H s.heap.objs.size (.lst []) b = none := fun b hb => (hf3 b hb).1
  have loop : codeAny (model X.prog X.w) X.A (.compLoop (.ListComp elt [⟨target, iter, ifs, 0⟩] scope pos) 0 (.ref it) (.ref s.heap.objs.size) X'.env)
      (RR (.ref s.heap.objs.size) ({ s with heap := s.heap.push { cls := .type "list", dict := none, data := .seq ([] : List Value).toArray } } : Shared).heap.objs.size)
      { s with heap := h₁, toks := s.toks + ([] : List (Str × Value)).length } := by
    refine compLoop_any (fun n s' => ∃ i σ' H', Inv X' [] σ' H' s' ∧ tn i s'.heap ∧ (∀ b ∈ fp, H' b = none) ∧ W i n σ' H') ?_ m0 ⟨0, σ0 σ, _, I4, st4, fr0, w0⟩
    rintro n s5 ⟨i, σ5, H5, I5, st5, fr5, w5⟩
    rcases turn i n σ5 H5 w5 with ⟨stop, qn⟩ | ⟨go, Nx, hN, step⟩
    · have q := Tn.done X' eP eW eK eC i [] s5 σ5 H5 (fun _ _ => False) I5 (fpIn fr5) st5 stop
      rw [eA] at q
      refine thn q fun r s6 ⟨hr, I6⟩ => ?_
      subst hr
      obtain ⟨mm, hns6, _⟩ := I6.loc
      rw [eE] at hns6
      have fr6 := I6.free
      rw [eE] at fr6
      refine hR _ _ H5 s6 mm ?_ fr6 hns6 (fun h' hs => ?_) qn
      · show s.heap.objs.size ≤ (s.heap.push _).objs.size
        rw [Heap.size_push]
        exact Nat.le_succ _
      · rw [← hX] at I6
        exact cmp_end I3 hf3 I6 hs
    · have q := Tn.item X' eP eW eK eC i [] s5 σ5 H5 (fun _ _ => False) I5 (fpIn fr5) st5 go
      rw [eA] at q
      refine thn q fun r s6 ⟨u, hr, h6⟩ => ?_
      subst hr
      refine thn h6 fun _ s7 ⟨x, H7, I7, r7, y7, st7, fr7⟩ => ?_
      have I7' := I7.pinned (fpIn fr7) (Tn.obj _ _ st7)
      have q8 := hg' _ s7 σ5 H7 x u _ I7' r7 (step x H7 y7)
      rw [eP, eW, eA, eX] at q8
      refine thn q8 fun _ s8 ⟨σ8, H8, I8, q8⟩ => ?_
      have q9 := ht' _ s8 σ8 H8 _ I8 q8
      rw [eP, eW, eA, eX] at q9
      refine thn q9 fun ok s9 ⟨H9, I9, q9⟩ => ?_
      have again : ∀ {σ10 : St} {H10 : Hp} {s10 : Shared}, Inv X' ([] ++ pinsAt fp s7.heap) σ10 H10 s10 → Nx σ10 H10 → ∃ m, m < n ∧ ∃ i σ' H', Inv X' [] σ' H' s10 ∧ tn i s10.heap ∧ (∀ b ∈ fp, H' b = none) ∧ W i m σ' H' := fun {σ10 H10 s10} J10 n10 => by
        obtain ⟨m', hm, w10⟩ := hN σ10 H10 n10
        refine ⟨m', hm, i + 1, σ10, H10, J10.unpinned, Tn.keep _ _ _ st7 fun b hb o e => (J10.pin (b, o) (List.mem_append_right _ (List.mem_append_right _ (mem_pinsAt hb e)))).1, fun b hb => ?_, w10⟩
        obtain ⟨o, e, d⟩ := Tn.obj _ _ st7 b hb
        exact (J10.pin (b, o) (List.mem_append_right _ (List.mem_append_right _ (mem_pinsAt hb e)))).2.1
      cases ok with
      | false =>
        have q9' : Nx σ8 H9 := q9
        exact again I9 q9'
      | true =>
        have q9' : te σ8 H9 _ := q9
        have q10 := he' _ s9 σ8 H9 _ I9 q9'
        rw [eP, eW, eA, eX] at q10
        refine thn q10 fun y s10 ⟨yv, H10, I10, r10, ys, hys, hz, n10⟩ => ?_
        have q11 := (mt_append (X := X')) _ s10 σ8 H10 (.ref s.heap.objs.size) [yv] (.ref s.heap.objs.size) [y] (fun _ H11 => Nx σ8 H11) I10 rfl (.cons r10 .nil) ⟨_, ys, yv, rfl, rfl, hys, hz, n10⟩
        rw [eP, eW, eA, eX] at q11
        exact thn q11 fun _ s11 ⟨_, H11, I11, _, n11⟩ => again I11 n11
  rw [eE] at loop
  exact codeAny_compStart_list loop (Tn.self _ 0 _ _ _ st4 loop)

theorem pe_comp (hc : X.calm = true) (S : CScope scope X.env) (hi : PI X target iter wi) (T : ∀ σ, σ.length = X.N.length → Takes X scope N σ (σ0 σ))
    (hg : ∀ C s H fp, PG (cmpCx X scope C N s H fp) target g) (ht : ∀ C s H fp, PTs (cmpCx X scope C N s H fp) ifs tt) (he : ∀ C s H fp, PE (cmpCx X scope C N s H fp) elt te)
    (hs : ∀ x, foldedSetIterable iter X.env x = pure x := by intro _; rfl) : PE X (.ListComp elt [⟨target, iter, ifs, 0⟩] scope pos) (tComp wi σ0 g tt te) := by
  intro pins s σ H Q I h
  rw [eval_ListComp]
  refine wpAny_comprehension_free (use := none) rfl hs (closureFor_eq S.free) S.kind S.loc (thn (hi pins s σ H _ I h) fun xv s₁ h₁ => thn h₁ fun itv s₂ h₂ => ?_)
  obtain ⟨it, fp, tn, J, H2, rfl, I2, Tn, st2, f2, hw⟩ := h₂
  refine comp_block (Q := fun D H' => Q (.ref D) H') (RR := fun acc C => compPost (model X.prog X.w) X.A X.xe none (EP X pins σ Q) acc C) hc S (T σ I.len) I2 Tn st2 f2 hg ht he hw ?_
  intro D C H' s' m hC _ hn hI hq
  exact ⟨m, hn, fun h' hs' => ⟨.ref D, H', hI h' hs', rfl, hq⟩⟩
theorem ps_setC {i : Nat} {y : Str} {py spos : Pos} (hc : X.calm = true) (S : CScope scope X.env) (hi : PI X target iter wi) (T : ∀ σ, σ.length = X.N.length → Takes X scope N σ (σ0 σ))
    (hg : ∀ C s H fp, PG (cmpCx X scope C N s H fp) target g) (ht : ∀ C s H fp, PTs (cmpCx X scope C N s H fp) ifs tt) (he : ∀ C s H fp, PE (cmpCx X scope C N s H fp) elt te)
    (hN : X.N.Nodup) (hy : X.N[i]? = some y) (hx : Loc X.env.scope y)
    (hsw : swapsWith (.ListComp elt [⟨target, iter, ifs, 0⟩] scope pos) (some (.Name y py)) spos.line X.env = pure true := by rfl)
    (hf : X.fn y = true ∨ X.env.scope.names.lookup y = some .local := by first | exact .inl rfl | exact .inr rfl | assumption)
    (hs : ∀ x, foldedSetIterable iter X.env x = pure x := by intro _; rfl) : PS X (.Assign [.Name y py] (.ListComp elt [⟨target, iter, ifs, 0⟩] scope pos) spos) (tAsg (tComp wi σ0 g tt te) (gName i)) := by
  intro pins s σ H D I h
  rw [exec_Assign_Name_used _ _ _ _ hsw]
  refine wpAny_bind (wpAny_standAt (wpAny_bind ?_))
  show wpAny _ X.A (do let _ ← comprehension (.ListComp elt [⟨target, iter, ifs, 0⟩] scope pos) scope X.env _ (newList []) false (eval iter X.env) (some (assign (.Name y py) X.env))) _ _ s
  refine wpAny_bind (thn (wpAny_comprehension_free (use := some (assign (.Name y py) X.env)) (Q := fun _ s' => SP X pins D .next s') rfl hs (closureFor_eq S.free) S.kind S.loc
    (thn (hi pins s σ H _ I h) fun xv s₁ h₁ => thn h₁ fun itv s₂ h₂ => ?_)) fun _ s' hq => wpAny_pure (wpAny_pure hq))
  obtain ⟨it, fp, tn, J, H2, rfl, I2, Tn, st2, f2, hw⟩ := h₂
  refine comp_block (Q := fun L H' => D.nx (σ.set i (some (.ref L))) H') (RR := fun acc C => compPost (model X.prog X.w) X.A X.xe (some (assign (.Name y py) X.env)) (fun _ s' => SP X pins D .next s') acc C) hc S (T σ I.len) I2 Tn st2 f2 hg ht he hw ?_
  intro L C H' s' m hC hfree hn hI hq
  have I3 : Inv X pins σ H' s' := hI s'.heap (.refl ..)
  refine wpAny_assign_Name (store_ok2 I3 hN hy hx (v := .ref L) rfl (fun s4 I4 hch => ?_) hf)
  obtain ⟨a, hsb, ha⟩ := hch
  have haC : C ≠ a := by
    rintro rfl
    rcases ha with e | e
    · have := I2.lt
      rw [← e] at this
      exact absurd (Nat.lt_of_lt_of_le this hC) (Nat.lt_irrefl _)
    · obtain ⟨v, z⟩ := I2.cell y _ e
      exact absurd (Nat.lt_of_lt_of_le z.lt hC) (Nat.lt_irrefl _)
  refine ⟨m, hn.sameBut hsb haC, fun h' hs' => ⟨_, H', ?_, hq⟩⟩
  have e4 : ({ s4 with heap := h' } : Shared) = { s4 with heap := h', toks := s4.toks } := rfl
  rw [e4]
  refine I4.turned (it := C) (fun b o hb e => (hs'.2 b hb).trans e) hfree ?_ (.inr (Nat.le_trans I2.sz hC)) ?_ ?_
  · exact Nat.ne_of_gt (Nat.lt_of_lt_of_le I2.lt hC)
  · rintro x c e rfl
    obtain ⟨v, z⟩ := I2.cell x _ e
    exact absurd (Nat.lt_of_lt_of_le z.lt hC) (Nat.lt_irrefl _)
  · rintro p hp e
    exact absurd (Nat.lt_of_lt_of_le (Heap.lt_size (I2.pin p hp).1) (by rw [e]; exact hC)) (Nat.lt_irrefl _)
end
end L2

set_option Elab.async false
set_option linter.all false
set_option maxRecDepth 100000
set_option maxHeartbeats 4000000
namespace L2
open PySem PySem.Spec PyProof.Rows
section
variable {X : Cx}
theorem kit_same {K : PySem.W.Frag} {T : String} : PySem.W.kitOne K (.type T) (.type T) = some true := by
  unfold PySem.W.kitOne
  rw [if_pos (by simp)]
theorem kit_of {K : PySem.W.Frag} {T U : String} {b : Bool} {l : List Value} (hm : PySem.W.kitMeta U = true) (hn : ¬ T = U) (hl : fastBuiltinMro T = some l) (hb : l.contains (.type U) = b) : PySem.W.kitOne K (.type T) (.type U) = some b := by
  unfold PySem.W.kitOne
  rw [if_neg (by simp [hn])]
  show (if PySem.W.kitMeta U = true then PySem.W.subIn K (.type T) (.type U) else none) = some b
  rw [if_pos hm]
  show (fastBuiltinMro T).map (·.contains (.type U)) = some b
  rw [hl, ← hb]
  rfl
theorem op_le_str : OpR X (compareOp .LtE) (fun x y H Q => ∃ i j, x = .str i ∧ y = .str j ∧ Q (.bl (!(decide (j.cps.toList < i.cps.toList)))) H) := by
  intro pins s σ H x y v u Q I rx ry h
  obtain ⟨i, j, rfl, rfl, q⟩ := h
  obtain ⟨t, rfl⟩ := rx
  obtain ⟨t', rfl⟩ := ry
  exact PySem.P.le_str (fin_bl I q rfl)
theorem op_in_sign : OpR X (compareOp .In) (fun x y H Q => ∃ (c : Nat) (j : Str), x = .str ⟨#[c]⟩ ∧ y = .str j ∧ Q (.bl (decide (c ∈ j.cps.toList))) H) := by
  intro pins s σ H x y v u Q I rx ry h
  obtain ⟨c, j, rfl, rfl, q⟩ := h
  exact op_in_str pins s σ H _ _ v u Q I rx ry ⟨_, _, rfl, rfl, by rw [StrLaws.found_one]; exact q⟩
theorem op_notin_sign : OpR X (compareOp .NotIn) (fun x y H Q => ∃ (c : Nat) (j : Str), x = .str ⟨#[c]⟩ ∧ y = .str j ∧ Q (.bl (!decide (c ∈ j.cps.toList))) H) := by
  intro pins s σ H x y v u Q I rx ry h
  obtain ⟨c, j, rfl, rfl, q⟩ := h
  exact op_notin_str pins s σ H _ _ v u Q I rx ry ⟨_, _, rfl, rfl, by rw [StrLaws.found_one]; exact q⟩
noncomputable def rSlS : V → Option Int → Option Int → Hp → VK → Prop := fun x lo hi H Q => ∃ z, x = .str z ∧ z.length ≤ sizeLine ∧ Q (.str (Txt.slice z lo hi)) H
theorem sl_str : SlR X rSlS := by
  intro pins s σ H x v vl vu lo hi sl Q I rx hs pl pu h
  obtain ⟨z, rfl, hz, q⟩ := h
  obtain ⟨t, rfl⟩ := rx
  obtain ⟨o, ho, hc, hd⟩ := hs
  refine ⟨"str", _, slot_str_getitem.lookup, typeIs_str _ _ _, ?_⟩
  cases pl with
  | none =>
    cases pu with
    | none => exact wpAny_getItem_str_slice (l := none) (u := none) (st := none) ⟨_, ho, hc, hd⟩ rfl (post_val_or_str ⟨Nat.le_trans (Txt.slice_le z _ _) hz, fun t' k => ⟨.str (Txt.slice z _ _), H, I.tok k, ⟨t', rfl⟩, q⟩⟩)
    | int j u => exact wpAny_getItem_str_slice (l := none) (u := some (j, u)) (st := none) ⟨_, ho, hc, hd⟩ rfl (post_val_or_str ⟨Nat.le_trans (Txt.slice_le z _ _) hz, fun t' k => ⟨.str (Txt.slice z _ _), H, I.tok k, ⟨t', rfl⟩, q⟩⟩)
  | int i ti =>
    cases pu with
    | none => exact wpAny_getItem_str_slice (l := some (i, ti)) (u := none) (st := none) ⟨_, ho, hc, hd⟩ rfl (post_val_or_str ⟨Nat.le_trans (Txt.slice_le z _ _) hz, fun t' k => ⟨.str (Txt.slice z _ _), H, I.tok k, ⟨t', rfl⟩, q⟩⟩)
    | int j u => exact wpAny_getItem_str_slice (l := some (i, ti)) (u := some (j, u)) (st := none) ⟨_, ho, hc, hd⟩ rfl (post_val_or_str ⟨Nat.le_trans (Txt.slice_le z _ _) hz, fun t' k => ⟨.str (Txt.slice z _ _), H, I.tok k, ⟨t', rfl⟩, q⟩⟩)
theorem slice_mem {z : Str} {lo hi : Option Int} {c : Nat} (h : c ∈ (Txt.slice z lo hi).cps.toList) : c ∈ z.cps.toList := by
  unfold Txt.slice at h
  split at h
  · exact h
  · obtain ⟨i, _, e⟩ := List.mem_filterMap.mp (by simpa using h)
    exact List.mem_of_getElem? (by simpa using e)
theorem strsAre_of : ∀ {ys : List Str} {us : List Value}, Vals (ys.map V.str) us → StrsAre us ys
  | [], _, .nil => .nil
  | y :: ys, _, .cons r t => by
    obtain ⟨tk, rfl⟩ := r
    exact .cons y tk (strsAre_of t)
noncomputable def rJoin (K : PySem.W.Frag) : V → List V → Hp → VK → Prop := fun x vs H Q => ∃ sep p ys, x = .str sep ∧ vs = [.ref p] ∧ SqL K H p (ys.map V.str) ∧ (ys.map (·.length)).sum + ys.length * sep.length ≤ 16777216 ∧ Q (.str (Txt.join sep ys)) H
theorem mt_join : MtR X "str.join" (rJoin X.K) := by
  intro pins s σ H x vs v us Q I rx rv h
  obtain ⟨sep, p, ys, rfl, rfl, hq, hz, q⟩ := h
  obtain ⟨t, rfl⟩ := rx
  obtain ⟨u, rfl, ru⟩ := rv.one
  cases ru
  obtain ⟨its, r, pl, _⟩ := I.list hq
  exact join_list pl.isList (by simpa using strsAre_of r) hz fun t' k => ⟨.str (Txt.join sep ys), H, I.tok k, ⟨t', rfl⟩, q⟩
theorem join_mem : ∀ {ys : List Str} {c : Nat}, c ∈ (Str.join Str.empty ys).cps.toList → ∃ y ∈ ys, c ∈ y.cps.toList
  | [], c, h => by simp [Str.join, Str.empty] at h
  | [y], c, h => ⟨y, List.mem_singleton.mpr rfl, h⟩
  | y :: z :: r, c, h => by
    have h : c ∈ ((y ++ Str.empty) ++ Str.join Str.empty (z :: r)).cps.toList := h
    have e : ∀ a b : Str, (a ++ b).cps.toList = a.cps.toList ++ b.cps.toList := fun a b => by
      show (a.cps ++ b.cps).toList = _
      simp
    rw [e, e] at h
    rcases List.mem_append.mp h with h | h
    · rcases List.mem_append.mp h with h | h
      · exact ⟨y, List.mem_cons_self, h⟩
      · simp [Str.empty] at h
    · obtain ⟨w, hw, hc⟩ := join_mem h
      exact ⟨w, List.mem_cons_of_mem _ hw, hc⟩
theorem joinT_mem {ys : List Str} {c : Nat} (h : c ∈ (Txt.join Str.empty ys).cps.toList) : ∃ y ∈ ys, c ∈ y.cps.toList := by
  unfold Txt.join at h
  rw [StrLaws.glued_eq_join] at h
  exact join_mem h
end
end L2

set_option Elab.async false
set_option linter.all false
set_option maxRecDepth 100000
set_option maxHeartbeats 4000000
namespace L2
open PySem PySem.Spec PyProof.Rows
noncomputable def Its (z : Str) : It := ⟨fun i _ => i < z.cps.size, fun i H x H' => H' = H ∧ ∃ c, z.cps.toList[i]? = some c ∧ x = .str ⟨#[c]⟩, fun i _ => i = z.cps.size⟩
theorem strIter_ty (z : Str) : ["enumerate", "zip", "dict_itemiterator", "dict_reverseitemiterator", "odict_iterator", "itertools.zip_longest", "itertools.pairwise"].contains (strIterType z) = false := by
  unfold strIterType
  cases z.cps.all (· < 128) <;> decide
theorem walks_str {P : Program} {w : World} {A : Around} (hh : A.handled = none) (it : Addr) (z : Str) (t : Tok) : Walks P w A it [it] [it] z.cps.size (SignAt z) (fun i h => h.IsStrIter it (strIterType z) z t i) := by
  unfold strIterType
  cases z.cps.all (· < 128)
  · exact Walks.strWide hh it z t
  · exact Walks.strAscii hh it z t
theorem turn_str {P : Program} {w : World} {K : PySem.W.Frag} {tg : Expr} (it : Addr) (z : Str) (t : Tok) : Turn P w K tg (Its z) [it] it (fun i h => h.IsStrIter it (strIterType z) z t i) where
  mem := by simp
  obj := fun i h st b hb => by
    have e : b = it := by simpa using hb
    subst e
    obtain ⟨o, e, c, d⟩ := st
    exact ⟨o, e, fun v z => by rw [d] at z; cases z⟩
  keep := fun i h h' st k => let ⟨o, e, r⟩ := st; ⟨o, k it (by simp) o e, r⟩
  item := by
    intro X hP hw hK hc i pins s σ H E I hf st hg
    subst hP hw hK
    obtain ⟨f0, f1, f2, f3, f4, f5⟩ := hf it (by simp)
    refine (walks_str (P := X.prog) (w := X.w) (I.ok.hd hc) it z t).item i s _ _ hg st fun v h' tk hv st' kk => ?_
    obtain ⟨c, u, hcu, rfl⟩ := hv
    have I1 : Inv X pins σ H { s with heap := h', toks := tk } := I.turned (fun b o hb e => kk b o (by simpa using hb) e) f0 f1 f3 f4 f5
    obtain ⟨o, e, cc, d⟩ := id st'
    exact ⟨_, rfl, go_of (s := { s with heap := h', toks := tk }) e cc d (strIter_ty z) ⟨.str ⟨#[c]⟩, H, I1, ⟨u, rfl⟩, ⟨rfl, c, by simpa using hcu, rfl⟩, st', fun b hb => (hf b hb).1⟩⟩
  done := by
    intro X hP hw hK hc i pins s σ H E I hf st hg
    subst hP hw hK
    obtain ⟨f0, f1, f2, f3, f4, f5⟩ := hf it (by simp)
    have hg : i = z.cps.size := hg
    subst hg
    exact (walks_str (P := X.prog) (w := X.w) (I.ok.hd hc) it z t).done s _ _ st fun h' tk kk => ⟨rfl, I.turned (fun b o hb e => kk b o (by simpa using hb) e) f0 f1 f3 f4 f5⟩
  self := fun A i s Q E st h => by
    obtain ⟨o, e, c, d⟩ := st
    unfold strIterType at c
    cases ha : z.cps.all (· < 128)
    · rw [ha] at c; exact wpAny_pyIter_striter_wide ⟨o, e, c, d⟩ h
    · rw [ha] at c; exact wpAny_pyIter_striter_ascii ⟨o, e, c, d⟩ h
section
variable {X : Cx} {tg : Expr}
end

section
variable {g : TG} {tt : TT} {te : TE} {σ0 : St} {H1 : Hp} {D : Addr} {Q : VK}
noncomputable def CompT (g : TG) (tt : TT) (te : TE) (D : Addr) (Nx : List V → St → Hp → Prop) (x : V) (σ : St) (H : Hp) : Prop :=
  g x σ H fun σ2 H3 => tt σ2 H3 fun b H4 => if b = true then te σ2 H4 fun y H5 => ∃ ys, H5 D = some (.lst ys) ∧ ys.length < sizeLine ∧ (∃ zs, upd H5 D (.lst (ys ++ [y])) D = some (.lst zs) ∧ Nx zs σ2 (upd H5 D (.lst (ys ++ [y])))) else ∃ zs, H4 D = some (.lst zs) ∧ Nx zs σ2 H4
theorem comp_range {lo : Int} {n : Nat} (Pv : Nat → List V → St → Hp → Prop) (h0 : Pv 0 [] σ0 (upd H1 D (.lst [])))
    (hs : ∀ i ys σ H, i < n → H D = some (.lst ys) → Pv i ys σ H → CompT g tt te D (Pv (i + 1)) (.int (lo + i)) σ H)
    (hd : ∀ ys σ H, H D = some (.lst ys) → Pv n ys σ H → Q (.ref D) H) : CompW (Itr lo n) g tt te σ0 H1 D Q := by
  refine ⟨fun i m σ H => m = n - i ∧ i ≤ n ∧ ∃ ys, H D = some (.lst ys) ∧ Pv i ys σ H, ⟨n, by simp, Nat.zero_le _, [], upd_same, h0⟩, ?_⟩
  rintro i m σ H ⟨rfl, hi, ys, hD, p⟩
  by_cases hlt : i < n
  · refine .inr ⟨hlt, fun σ2 H2 => ∃ zs, H2 D = some (.lst zs) ∧ Pv (i + 1) zs σ2 H2, fun σ' H' p' => ⟨n - (i + 1), by omega, rfl, hlt, p'⟩, fun x H' y => ?_⟩
    obtain ⟨e, y⟩ := y
    subst e y
    exact hs i ys σ _ hlt hD p
  · have e : i = n := by omega
    subst e
    exact .inl ⟨Nat.le_refl _, hd ys σ H hD p⟩
theorem comp_str {z : Str} (Pv : Nat → List V → St → Hp → Prop) (h0 : Pv 0 [] σ0 (upd H1 D (.lst [])))
    (hs : ∀ i c ys σ H, z.cps.toList[i]? = some c → H D = some (.lst ys) → Pv i ys σ H → CompT g tt te D (Pv (i + 1)) (.str ⟨#[c]⟩) σ H)
    (hd : ∀ ys σ H, H D = some (.lst ys) → Pv z.cps.size ys σ H → Q (.ref D) H) : CompW (Its z) g tt te σ0 H1 D Q := by
  refine ⟨fun i m σ H => m = z.cps.size - i ∧ i ≤ z.cps.size ∧ ∃ ys, H D = some (.lst ys) ∧ Pv i ys σ H, ⟨z.cps.size, by simp, Nat.zero_le _, [], upd_same, h0⟩, ?_⟩
  rintro i m σ H ⟨rfl, hi, ys, hD, p⟩
  by_cases hlt : i < z.cps.size
  · refine .inr ⟨hlt, fun σ2 H2 => ∃ zs, H2 D = some (.lst zs) ∧ Pv (i + 1) zs σ2 H2, fun σ' H' p' => ⟨z.cps.size - (i + 1), by omega, rfl, hlt, p'⟩, fun x H' y => ?_⟩
    obtain ⟨e, c, hc, y⟩ := y
    subst e y
    exact hs i c ys σ _ hc hD p
  · have e : i = z.cps.size := by omega
    subst e
    exact .inl ⟨rfl, hd ys σ H hD p⟩
end

section
variable {X : Cx}
theorem vals_bl : ∀ {bs : List Bool} {us : List Value}, Vals (bs.map V.bl) us → us = bs.map Value.bool
  | [], _, .nil => rfl
  | b :: bs, _, .cons r t => by
    cases r
    rw [vals_bl t]
    rfl
theorem range_all {bs : List Bool} : (List.range bs.length).all (fun i => bs.getD i true) = bs.all id := by
  induction bs with
  | nil => rfl
  | cons b r ih =>
    rw [List.length_cons, List.range_succ_eq_map, List.all_cons, List.all_map, List.all_cons]
    have : ((fun i => (b :: r).getD i true) ∘ Nat.succ) = fun i => r.getD i true := by
      funext i
      simp
    rw [this, ih]
    rfl
theorem call_all (hc : X.calm = true) : CallR X (.builtin "all") (fun xs H Q => ∃ (p : Addr) (bs : List Bool), xs = [.ref p] ∧ SqL X.K H p (bs.map V.bl) ∧ Q (.bl (bs.all id)) H) := by
  intro pins s σ H xs us Q I r h
  obtain ⟨p, bs, rfl, hq, q⟩ := h
  obtain ⟨u, rfl, ru⟩ := r.one
  cases ru
  obtain ⟨its, rv, pl, hz⟩ := I.list hq
  obtain rfl := vals_bl rv
  refine call_all_walk (wpAny_pyIter_list pl.isList ?_)
  have hlt : p < s.heap.objs.size := by obtain ⟨o, e, _⟩ := pl.isList; exact Heap.lt_size e
  have hl' : (s.heap.push { cls := .type "list_iterator", data := .fields #[.ref p, rawInt 0] }).IsList p (bs.map Value.bool).toArray := pl.isList.at fun o e => Heap.get?_push_of_some _ e
  refine ⟨s.heap.objs.size, _, _, _, _, _, fun i => bs.getD i true, rfl, Walks.list (A := X.A.in1) (show X.A.in1.handled = none from I.ok.hd hc) s.heap.objs.size p (Nat.ne_of_lt hlt) (bs.map Value.bool).toArray, ⟨⟨_, Heap.get?_push_size _ rfl, rfl, rfl⟩, ?_⟩, ?_, ?_⟩
  · exact pl.isList.at fun o e => Heap.get?_push_of_some _ e
  · intro i v s' Q' E' hv hQ
    have hv' : (bs.map Value.bool)[i]? = some v := by simpa using hv
    rw [List.getElem?_map] at hv'
    cases e : bs[i]? with
    | none => rw [e] at hv'; cases hv'
    | some b =>
      rw [e] at hv'
      cases hv'
      have : bs.getD i true = b := by simp [List.getD, e]
      have hQ : Q' (bs.getD i true) s' := hQ
      rw [this] at hQ
      exact wpAny_truthy_bool hQ
  · intro h' tk hk
    have I1 : Inv X pins σ H { s with heap := s.heap.push { cls := .type "list_iterator", data := .fields #[.ref p, rawInt 0] } } := I.kept (t' := s.toks) fun b o e => Heap.get?_push_of_some _ e
    have F := I.fpOk (Nat.le_refl s.heap.objs.size) (I.hok.fresh (Nat.le_refl _))
    obtain ⟨f0, f1, f2, f3, f4, f5⟩ := F
    have I2 : Inv X pins σ H { s with heap := h', toks := tk } := Inv.turned (s := { s with heap := s.heap.push { cls := .type "list_iterator", data := .fields #[.ref p, rawInt 0] } }) (h' := h') (t' := tk) (it := s.heap.objs.size) I1 (fun b o hb e => hk b o (by simpa using hb) e) f0 f1 f3 f4 f5
    refine ⟨.bl (bs.all id), H, I2, ?_, q⟩
    show Value.bool _ = Value.bool _
    have : (bs.map Value.bool).toArray.size = bs.length := by simp
    rw [this, range_all]
end
end L2

set_option Elab.async false
set_option linter.all false
set_option maxRecDepth 100000
set_option maxHeartbeats 4000000
namespace L2
open PySem PySem.Spec PyProof.Rows
theorem Same.upd {H : Hp} {p : Addr} {o : HO} (h : H p = none) : Same H (upd H p o) := fun b u e => by rw [upd_ne (ne_of_none e h)]; exact e
theorem Same.put {H0 H : Hp} {p : Addr} {o : HO} (s : Same H0 H) (h : H p = none) : Same H0 (L2.upd H p o) := s.trans (Same.upd h)
theorem Same.over {H0 H : Hp} {p : Addr} {o : HO} (s : Same H0 H) (h : H0 p = none) : Same H0 (L2.upd H p o) := fun b u e => by rw [upd_ne (ne_of_none e h)]; exact s b u e
theorem Same.tup {K : PySem.W.Frag} {H H' : Hp} {a : Addr} {xs : List V} (e : Same H H') (h : SqT K H a xs) : SqT K H' a xs := by
  rcases h with (h | ⟨o, h⟩) | h
  · exact .inl (.inl (e _ _ h))
  · exact .inl (.inr ⟨o, e _ _ h⟩)
  · exact .inr h
theorem cscope_fn {sc out : Scope} {qual : Str} {n : Nat} {f : Addr} {cd : Value} (hk : sc.kind = .function) (hc : (sc.names.all fun y => y.2 != .cell) = true)
    (hl : (sc.names.all fun y => y.2 != .local || sc.names.lookup y.1 == some .local) = true) (hf : (sc.names.all fun y => y.2 != .free || out.names.lookup y.1 == some .cell) = true) : CScope sc (envOfC qual out n f cd) where
  kind := hk
  nocell := fun y hy e => by have := List.all_eq_true.mp hc y hy; rw [e] at this; cases this
  loc := fun y hy e => by
    have := List.all_eq_true.mp hl y hy
    rw [e] at this
    simpa using this
  free := fun y hy e => by
    have h := List.all_eq_true.mp hf y hy
    rw [e] at h
    have h : out.names.lookup y.1 = some .cell := by simpa using h
    obtain ⟨c, hc⟩ := cell_has (n := n + 1) h
    show ((cellsFrom (n + 1) out.names []).lookup y.1).isSome = true
    rw [hc]
    rfl
noncomputable def capSt (k : Nat) (cap : List Nat) (σ : St) : St := List.replicate k none ++ cap.map fun j => (σ[j]?).join
theorem takes_of {X : Cx} {scope : Scope} {N : List Str} {k : Nat} {cap : List Nat} {σ : St} (hl : k + cap.length = N.length)
    (h : ∀ (i j : Nat) (x : Str), cap[i]? = some j → N[k + i]? = some x → X.N[j]? = some x ∧ scope.names.lookup x = some .free ∧ (X.env.kindOf x = some .cell ∨ X.env.kindOf x = some .free)) : Takes X scope N σ (capSt k cap σ) := by
  refine ⟨by unfold capSt; simp [hl], fun i x v hx hv => ?_⟩
  unfold capSt at hv
  by_cases hi : i < k
  · rw [List.getElem?_append_left (by simpa using hi), List.getElem?_replicate, if_pos hi] at hv
    cases hv
  · rw [List.getElem?_append_right (by simpa using hi), List.length_replicate, List.getElem?_map] at hv
    cases hj : cap[i - k]? with
    | none => rw [hj] at hv; cases hv
    | some j =>
      rw [hj] at hv
      have hv : (σ[j]?).join = some v := Option.some.inj hv
      obtain ⟨h1, h2, h3⟩ := h (i - k) j x hj (by rw [show k + (i - k) = i by omega]; exact hx)
      refine ⟨j, h1, ?_, h2, h3⟩
      cases e : σ[j]? with
      | none => rw [e] at hv; cases hv
      | some o => rw [e] at hv; exact congrArg some hv
theorem takes_in {X : Cx} {scope : Scope} {N : List Str} {k : Nat} {cap : List Nat} (hl : k + cap.length = N.length)
    (h : ((cap.zip (N.drop k)).all fun p => X.N[p.1]? == some p.2 && scope.names.lookup p.2 == some .free && (X.env.kindOf p.2 == some .cell || X.env.kindOf p.2 == some .free)) = true) : ∀ σ, σ.length = X.N.length → Takes X scope N σ (capSt k cap σ) := fun σ _ =>
  takes_of hl fun i j x hj hx => by
    have m : (j, x) ∈ cap.zip (N.drop k) := by
      refine List.mem_of_getElem? (i := i) ?_
      rw [List.getElem?_zip_eq_some]
      exact ⟨hj, by rw [List.getElem?_drop]; exact hx⟩
    have := List.all_eq_true.mp h _ m
    simp only [Bool.and_eq_true, Bool.or_eq_true, beq_iff_eq] at this
    exact ⟨this.1.1, this.1.2, this.2⟩
theorem atI_in {α : Type} {xs : List α} {i : Int} (h0 : 0 ≤ i) (h1 : i < xs.length) : ∃ v, atI xs i = some v ∧ v ∈ xs := by
  have hj : i.toNat < xs.length := by omega
  refine ⟨xs[i.toNat], ?_, List.getElem_mem hj⟩
  have := atI_nat (xs := xs) (j := i.toNat) (v := xs[i.toNat]) (by simp [hj])
  rwa [Int.toNat_of_nonneg h0] at this
noncomputable def constV : Expr → Option V
  | .Constant (.str x) _ _ => some (.str x)
  | .Constant (.int i) _ _ => some (.int i)
  | .Constant (.bool b) _ _ => some (.bl b)
  | .Constant .none _ _ => some .non
  | _ => none
noncomputable def constsV : List Expr → Option (List V)
  | [] => some []
  | e :: es => match constV e, constsV es with
    | some v, some vs => some (v :: vs)
    | _, _ => none
noncomputable def tVals (xs : List V) : TA := fun _ H Q => Q xs H
theorem constV_ok {X : Cx} {e : Expr} {v : V} (h : constV e = some v) : PE X e (tC v) ∧ ∀ es, starEach (e :: es) X.env = (false, eval e X.env) :: starEach es X.env := by
  unfold constV at h
  split at h
  · cases h; exact ⟨pe_str, fun _ => rfl⟩
  · cases h; exact ⟨pe_int, fun _ => rfl⟩
  · cases h; exact ⟨pe_bl, fun _ => rfl⟩
  · cases h; exact ⟨pe_non, fun _ => rfl⟩
  · cases h
theorem pa_consts {X : Cx} : ∀ {es : List Expr} {xs : List V}, constsV es = some xs → PA X es (tVals xs)
  | [], xs, h => by
    have h : some [] = some xs := h
    cases h
    exact pa_nil
  | e :: es, xs, h => by
    unfold constsV at h
    split at h
    · rename_i v vs h1 h2
      cases h
      obtain ⟨p, hs⟩ := constV_ok (X := X) h1
      exact pa_cons p (pa_consts h2) (hs es)
    · cases h
structure Callee (P : Program) (w : World) (K : PySem.W.Frag) (mg : Str → Option Value) (base : Heap) (k : Nat) (x : Str) (ps : List Str) (sp : Sp) : Prop where
  ex : ∃ (f : Addr) (fd : FuncData), FnOk P w K mg base CX0 k f fd ps sp ∧ mg x = some (.ref f) ∧ PySem.W.keepIn K (.ref f) = true ∧ Binds K fd ps []
section
variable {X : Cx} {k : Nat} {x : Str} {ps : List Str} {sp : Sp} {p pos : Pos} {e : Expr} {es : List Expr} {t : TA}
theorem pe_fn (C : Callee X.prog X.w X.K X.mg X.base k x ps sp) (hr : Room k X.A) (ha : PA X (e :: es) t) (hg : Gl X x := by rfl) (hdb : (x == ("__debug__" : Str)) = false := by decide)
    (he : starEach (e :: es) X.env = (false, eval e X.env) :: starEach es X.env := by rfl) (hpl : (backTo pos (starEach es X.env)).any (·.1) = false := by rfl) : PE X (.Call (.Name x p) (e :: es) [] pos) (tCall sp [] E0 t) := by
  obtain ⟨f, fd, F, hm, hk, hb⟩ := C.ex
  exact pe_call F hr hg hm hk hb .nil pass0 ha hdb he hpl
end
end L2

set_option Elab.async false
set_option linter.all false
set_option maxRecDepth 100000
set_option maxHeartbeats 4000000
namespace L2
open PySem
theorem relV_abs {x : V} {u : Value} (h : absV u = some x) : RelV x u := by
  cases u <;> simp only [absV] at h <;> first | (cases h; first | rfl | exact ⟨_, rfl⟩) | cases h
noncomputable def absAll : List Value → Option (List V)
  | [] => some []
  | u :: r => match absV u, absAll r with
    | some x, some xs => some (x :: xs)
    | _, _ => none
theorem vals_abs : ∀ {us : List Value} {xs : List V}, absAll us = some xs → Vals xs us
  | [], xs, h => by
    have h : some [] = some xs := h
    cases h
    exact .nil
  | u :: r, xs, h => by
    unfold absAll at h
    split at h
    · rename_i x ys h1 h2
      cases h
      exact .cons (relV_abs h1) (vals_abs h2)
    · cases h
theorem top_tuple {K : PySem.W.Frag} {a : Addr} {od : Option Addr} {its : Array Value} {n : Nat} {sl : Array (Option Value)} {xs : List V} (l : K.lookup a = some ⟨.type "tuple", od, .seq its n, sl⟩) (h : absAll its.toList = some xs) (hz : xs.length ≤ 1000) : ∀ H, SqT K H a xs := fun H => by
  have v := vals_abs h
  refine .inr ⟨_, its, n, l, rfl, rfl, ?_, v⟩
  have e := v.length
  have b : 1000 ≤ sizeLine := by decide
  have e2 : its.toList.length = its.size := Array.length_toList
  omega
theorem callee_of {P : Program} {w : World} {K : PySem.W.Frag} {mg : Str → Option Value} {base : Heap} {k : Nat} {x : Str} {ps : List Str} {sp : Sp} {f : Addr} {fd : FuncData} (F : FnOk P w K mg base CX0 k f fd ps sp) (m : mg x = some (.ref f)) (kp : PySem.W.keepIn K (.ref f) = true) (b : Binds K fd ps []) : Callee P w K mg base k x ps sp := ⟨f, fd, F, m, kp, b⟩
section
variable {P : Program} {w : World} {K : PySem.W.Frag} {mg : Str → Option Value} {base : Heap}
end
end L2

set_option Elab.async false
set_option linter.all false
set_option maxRecDepth 100000
set_option maxHeartbeats 4000000
set_option autoImplicit true
namespace L2
open PySem PySem.Spec PyProof.Rows
structure QE (X : Cx) (e : Expr) (t : TE) : Prop where
  run : PE X e t
structure QT (X : Cx) (e : Expr) (t : TT) : Prop where
  run : PT X e t
structure QW (X : Cx) (e : Expr) (t : TT) : Prop where
  run : PW X e t
structure QA (X : Cx) (es : List Expr) (t : TA) : Prop where
  run : PA X es t
structure QS (X : Cx) (st : Stmt) (t : TS) : Prop where
  run : PS X st t
structure QSs (X : Cx) (sts : List Stmt) (t : TS) : Prop where
  run : PSs X sts t
structure QG (X : Cx) (e : Expr) (g : TG) : Prop where
  run : PG X e g
structure QGs (X : Cx) (es : List Expr) (g : TGs) : Prop where
  run : PGs X es g
structure QI (X : Cx) (tg iter : Expr) (wi : TI) : Prop where
  run : PI X tg iter wi
structure QC (X : Cx) (op : CmpOp) (a b : Expr) (t : TE) : Prop where
  run : PC X op a b t
structure QO (X : Cx) (e : Option Expr) (t : TO) : Prop where
  run : PO X e t
structure QTs (X : Cx) (ifs : List Expr) (t : TT) : Prop where
  run : PTs X ifs t
theorem qe_int {i j pos} : QE X (.Constant (.int i) j pos) (tC (.int i)) := ⟨pe_int⟩
theorem qe_bl {b j pos} : QE X (.Constant (.bool b) j pos) (tC (.bl b)) := ⟨pe_bl⟩
theorem qe_non {j pos} : QE X (.Constant .none j pos) (tC .non) := ⟨pe_non⟩
theorem qe_str {x j pos} : QE X (.Constant (.str x) j pos) (tC (.str x)) := ⟨pe_str⟩
theorem qe_glob {x : Str} {v : V} {u : Value} {pos : Pos} (hg : Gl X x) (hm : X.mg x = some u) (r : RelV v u) (hd : (x == ("__debug__" : Str)) = false := by decide) : QE X (.Name x pos) (tC v) := ⟨pe_glob hg hm r hd⟩
theorem qe_bltn {x : Str} {v : V} {u : Value} {pos : Pos} (hg : Gl X x) (hm : X.mg x = none) (hv : bootBuiltins x = some u) (r : RelV v u) (hn : x ≠ "__name__" := by decide) (hd : (x == ("__debug__" : Str)) = false := by decide) : QE X (.Name x pos) (tC v) := ⟨pe_bltn hg hm hv r hn hd⟩
theorem qe_op {op : Operator} {r : R2} (ho : OpR X (binaryOp op) r) (ha : QE X a ta) (hb : QE X b tb) : QE X (.BinOp a op b pos) (tOp r ta tb) := ⟨pe_op ho ha.run hb.run⟩
theorem qe_un {op : UnaryOp} {r : V → Hp → VK → Prop} (ho : UnR X (unaryOp op) r) (ha : QE X a ta) : QE X (.UnaryOp op a pos) (tUn r ta) := ⟨pe_un ho ha.run⟩
theorem qe_cmp {op : CmpOp} {t : TE} (h : QC X op a b t) (h1 : behindInMarks op b = false := by first | exact nobehind _ (by decide) (by decide) | rfl) : QE X (.Compare a [op] [b] pos) t := ⟨pe_cmp h.run h1⟩
theorem qe_cmpR {op : CmpOp} {r : R2} (ho : OpR X (compareOp op) r) (ha : QE X a ta) (hb : QE X b tb) (hm : behindInMarks op b = false) : QE X (.Compare a [op] [b] pos) (tOp r ta tb) := ⟨pe_cmpR ho ha.run hb.run hm⟩
theorem qt_cmpR {op : CmpOp} {r : R2} (ho : OpR X (compareOp op) r) (ha : QE X a ta) (hb : QE X b tb) (hm : behindInMarks op b = false) : QT X (.Compare a [op] [b] pos) (tTest (tOp r ta tb)) := ⟨pt_cmpR ho ha.run hb.run hm⟩
theorem qe_chain {op op' : CmpOp} {r r' : R2} (ho : OpR X (compareOp op) r) (ho' : OpR X (compareOp op') r') (ha : QE X a ta) (hb : QE X b tb) (hc : QE X c tc) (hm : lastMarks [op, op'] [b, c] = false := by with_unfolding_all rfl) : QE X (.Compare a [op, op'] [b, c] pos) (tChain r r' ta tb tc) := ⟨pe_chain ho ho' ha.run hb.run hc.run hm⟩
theorem qt_chain {op op' : CmpOp} {r r' : R2} (ho : OpR X (compareOp op) r) (ho' : OpR X (compareOp op') r') (ha : QE X a ta) (hb : QE X b tb) (hc : QE X c tc) (hm : lastMarks [op, op'] [b, c] = false := by with_unfolding_all rfl) : QT X (.Compare a [op, op'] [b, c] pos) (tTest (tChain r r' ta tb tc)) := ⟨pt_chain ho ho' ha.run hb.run hc.run hm⟩
theorem qt_val {e : Expr} {t : TE} (h : QE X e t) (he : ∀ whole, isTrue e X.env whole = (do let v ← whole; standAt e.pos; holding [v] (truthy v)) := by intro _; rfl) : QT X e (tB t) := ⟨pt_val h.run he⟩
theorem qw_and1 (ha : QT X a tA) : QW X (.BoolOp .And [a] pos) tA := ⟨pw_and1 ha.run⟩
theorem qw_or1 (ha : QT X a tA) : QW X (.BoolOp .Or [a] pos) tA := ⟨pw_or1 ha.run⟩
theorem qw_and {rest : List Expr} (ha : QT X a tA) (hb : QW X (.BoolOp .And (b :: rest) pos) tB') : QW X (.BoolOp .And (a :: b :: rest) pos) (tAnd tA tB') := ⟨pw_and ha.run hb.run⟩
theorem qw_or {rest : List Expr} (ha : QT X a tA) (hb : QW X (.BoolOp .Or (b :: rest) pos) tB') : QW X (.BoolOp .Or (a :: b :: rest) pos) (tOr tA tB') := ⟨pw_or ha.run hb.run⟩
theorem qt_not (ha : QT X a tA) : QT X (.UnaryOp .Not a pos) (tNot tA) := ⟨pt_not ha.run⟩
theorem qe_one {op} {t : TE} (h : QE X a t) : QE X (.BoolOp op [a] pos) t := ⟨pe_one h.run⟩
theorem qe_and {rest : List Expr} (ha : QE X a ta) (hb : QE X (.BoolOp .And (b :: rest) pos) tb) : QE X (.BoolOp .And (a :: b :: rest) pos) (tAndV ta tb) := ⟨pe_and ha.run hb.run⟩
theorem qe_or {rest : List Expr} (ha : QE X a ta) (hb : QE X (.BoolOp .Or (b :: rest) pos) tb) : QE X (.BoolOp .Or (a :: b :: rest) pos) (tOrV ta tb) := ⟨pe_or ha.run hb.run⟩
theorem qe_not (ha : QE X a ta) : QE X (.UnaryOp .Not a pos) (tNotV ta) := ⟨pe_not ha.run⟩
theorem qss_nil  : QSs X [] tNext := ⟨pss_nil⟩
theorem qss_cons {st : Stmt} {rest : List Stmt} {t u : TS} (h1 : QS X st t) (h2 : QSs X rest u) : QSs X (st :: rest) (tSeq t u) := ⟨pss_cons h1.run h2.run⟩
theorem qss_one {st : Stmt} {t : TS} (h1 : QS X st t) : QSs X [st] t := ⟨pss_one h1.run⟩
theorem qs_expr {e : Expr} {te : TE} (he : QE X e te) (hs : swapsWith e none pos.line X.env = pure false := by rfl) : QS X (.Expr e pos) (tDrop te) := ⟨ps_expr he.run hs⟩
theorem qs_ret {e : Expr} {te : TE} (he : QE X e te) : QS X (.Return (some e) pos) (tRet te) := ⟨ps_ret he.run⟩
theorem qs_if {t u : TS} {c : Expr} {a b : List Stmt} {tc : TT} (hc : QT X c tc) (ha : QSs X a t) (hb : QSs X b u) : QS X (.If c a b pos) (tIfS tc t u) := ⟨ps_if hc.run ha.run hb.run⟩
theorem qgs_nil  : QGs X [] gNil := ⟨pgs_nil⟩
theorem qgs_cons {e : Expr} {es : List Expr} {t : TG} {u : TGs} (h1 : QG X e t) (h2 : QGs X es u) (hs : (assignEach (e :: es) X.env).map (·.2) = assign e X.env :: (assignEach es X.env).map (·.2) := by rfl) : QGs X (e :: es) (gCons t u) := ⟨pgs_cons h1.run h2.run hs⟩
theorem qg_name {i : Nat} {x : Str} (hN : X.N.Nodup) (hi : X.N[i]? = some x) (hx : Loc X.env.scope x) (hf : X.fn x = true ∨ X.env.scope.names.lookup x = some .local := by first | exact .inl rfl | exact .inr rfl | assumption) : QG X (.Name x pos) (gName i) := ⟨pg_name hN hi hx hf⟩
theorem qg_tup {es : List Expr} {k : Nat} {t : TGs} {n : Nat} (hc : X.calm = true) (h : QGs X es t) (hn : (assignEach es X.env).length = n := by rfl) (hst : (assignEach es X.env).findIdx? (·.1) = none := by rfl) : QG X (.Tuple es k pos) (gTup X.K n t) := ⟨pg_tup hc h.run hn hst⟩
theorem qg_sub {o i : Expr} {to ti : TE} {t : TSet} (ho : QE X o to) (hi : QE X i ti) (hs : PSet X t) (ha : ∀ v, assign (.Subscript o i pos) X.env v = (do
      let ov ← holding [v] (eval o X.env)
      let iv ← holding [v, ov] (eval i X.env)
      standAt pos
      holding [v, ov, iv] (setItem ov iv v)
      release [v, ov, iv] []) := by intro _; rfl) : QG X (.Subscript o i pos) (gSub to ti t) := ⟨pg_sub ho.run hi.run hs ha⟩
theorem qs_asg {tg e : Expr} {te : TE} {g : TG} (he : QE X e te) (hg : QG X tg g) (hs : swapsWithSole [tg] e pos.line X.env = pure false := by rfl) (hw : swappedStores [tg] e X.env = pure none := by rfl) (h1 : (assignEach [tg] X.env).map (·.2) = [assign tg X.env] := by rfl) : QS X (.Assign [tg] e pos) (tAsg te g) := ⟨ps_asg he.run hg.run hs hw h1⟩
theorem qs_set {i : Nat} {x : Str} {e : Expr} {te : TE} {pos' : Pos} (hN : X.N.Nodup) (hi : X.N[i]? = some x) (hx : Loc X.env.scope x) (he : QE X e te) (hs : swapsWith e (some (.Name x pos')) pos.line X.env = pure false := by rfl) (hf : X.fn x = true ∨ X.env.scope.names.lookup x = some .local := by first | exact .inl rfl | exact .inr rfl | assumption) : QS X (.Assign [.Name x pos'] e pos) (tAsg te (gName i)) := ⟨ps_set hN hi hx he.run hs hf⟩
theorem qs_while {c : Expr} {body : List Stmt} {tc : TT} {tb : TS} (hp : PassesOwn (model X.prog X.w) X.A X.env X.xe) (hc : QT X c tc) (hb : QSs X body tb) : QS X (.While c body [] pos) (tWhile tc tb) := ⟨ps_while hp hc.run hb.run⟩
theorem qi_range1 {a : Expr} {ta : TA} {p pos : Pos} (hg : Gl X "range") (hm : X.mg "range" = none) (ha : QA X [a] ta) (hs : starEach [a] X.env = [(false, eval a X.env)] := by rfl) : QI X tg (.Call (.Name "range" p) [a] [] pos) (iRng1 ta) := ⟨pi_range1 hg hm ha.run hs⟩
theorem qs_for {iter : Expr} {body : List Stmt} {wi : TI} {g : TG} {tb : TS} {pos : Pos} (hp : PassesOwn (model X.prog X.w) X.A X.env X.xe) (hc : X.calm = true) (hi : QI X tg iter wi) (hg : QG X tg g) (hb : QSs X body tb) (hs : ∀ x, foldedSetIterable iter X.env x = pure x := by intro _; rfl) : QS X (.For tg iter body [] pos) (tFor wi g tb) := ⟨ps_for hp hc hi.run hg.run hb.run hs⟩
theorem qe_fld (he : QE X e ta) (hb : attributeBase e f X.env (eval e X.env) = eval e X.env) : QE X (.Attribute e f pos) (tFld X.K ta f) := ⟨pe_fld he.run hb⟩
theorem qs_fld (ha : QE X o ta) (hv : QE X value tv) (hs : swapsWith value (some (.Attribute o f pos')) pos.line X.env = pure false) : QS X (.Assign [.Attribute o f pos'] value pos) (sFld X.K ta tv f) := ⟨ps_fld ha.run hv.run hs⟩
theorem qa_nil  : QA X [] tNil := ⟨pa_nil⟩
theorem qa_cons (ha : QE X e te) (hr : QA X es t) (hs : starEach (e :: es) X.env = (false, eval e X.env) :: starEach es X.env := by rfl) : QA X (e :: es) (tCons te t) := ⟨pa_cons ha.run hr.run hs⟩
theorem qe_tup {x1} (h : QA X es t) : QE X (.Tuple es x1 pos) (tTup t) := ⟨pe_tup h.run⟩
theorem qe_lst (h : QA X es t) : QE X (.List es pos) (tLst t) := ⟨pe_lst h.run⟩
theorem qe_fn (C : Callee X.prog X.w X.K X.mg X.base k x ps sp) (hr : Room k X.A) (ha : QA X (e :: es) t) (hg : Gl X x := by rfl) (hdb : (x == ("__debug__" : Str)) = false := by decide) (he : starEach (e :: es) X.env = (false, eval e X.env) :: starEach es X.env := by rfl) (hpl : (backTo pos (starEach es X.env)).any (·.1) = false := by rfl) : QE X (.Call (.Name x p) (e :: es) [] pos) (tCall sp [] E0 t) := ⟨pe_fn C hr ha.run hg hdb he hpl⟩
theorem qe_callB {id : String} (hc : CallR X (.builtin id) r) (hg : Gl X x) (hm : X.mg x = none) (hv : bootBuiltins x = some (.builtin id)) (ha : QA X (e :: es) t) (hn : x ≠ "__name__" := by decide) (hdb : (x == ("__debug__" : Str)) = false := by decide) (he : starEach (e :: es) X.env = (false, eval e X.env) :: starEach es X.env := by rfl) (hpl : (backTo pos (starEach es X.env)).any (·.1) = false := by rfl) : QE X (.Call (.Name x p) (e :: es) [] pos) (tCB r t) := ⟨pe_callB hc hg hm hv ha.run hn hdb he hpl⟩
theorem qe_callTy {T : String} (hc : CallR X (.type T) r) (hg : Gl X x) (hm : X.mg x = none) (hv : bootBuiltins x = some (.type T)) (ha : QA X (e :: es) t) (hn : x ≠ "__name__" := by decide) (hdb : (x == ("__debug__" : Str)) = false := by decide) (he : starEach (e :: es) X.env = (false, eval e X.env) :: starEach es X.env := by rfl) (hpl : (backTo pos (starEach es X.env)).any (·.1) = false := by rfl) : QE X (.Call (.Name x p) (e :: es) [] pos) (tCB r t) := ⟨pe_callTy hc hg hm hv ha.run hn hdb he hpl⟩
theorem qo_none  : QO X none tNoPart := ⟨po_none⟩
theorem qo_some (h : QE X e te) : QO X (some e) (tPart te) := ⟨po_some h.run⟩
theorem qe_slice {lo hi : Option Expr} {r : V → Option Int → Option Int → Hp → VK → Prop} (hr : SlR X r) (he : QE X e te) (hl : QO X lo tl) (hu : QO X hi th) : QE X (.Subscript e (.Slice lo hi none p2) pos) (tSl r te tl th) := ⟨pe_slice hr he.run hl.run hu.run⟩
theorem qe_ix {r : R2} (hr : IxR X r) (ha : QE X a ta) (hb : QE X b tb) (hs : PlainIx b) : QE X (.Subscript a b pos) (tOp r ta tb) := ⟨pe_ix hr ha.run hb.run hs⟩
theorem qe_bm {T id : String} (pa : PlainAttrs T) (slot : Slot T name id) (hty : typeOf (.builtin id) = pure (.type "method_descriptor")) (hm : MtR X id r) (ho : QE X o to) (ha : QA X (e :: es) t) (hbase : attributeBase o name X.env (eval o X.env) = eval o X.env := by rfl) (hfew : ((backTo cpos (starEach (e :: es) X.env)).all (fun x => !x.1) && (backToKw cpos (keywordEach [] X.env)).all (fun x => x.1.isSome)
      && decide ((e :: es).length + ([] : List Keyword).length + (if ([] : List Keyword).isEmpty then 0 else 1) < 30)) = true := by rfl) (hline : (apos.endLine == cpos.line) = true := by rfl) (hs : starEach (e :: es) X.env = (false, eval e X.env) :: starEach es X.env := by rfl) (hplain : (backTo cpos (starEach es X.env)).any (·.1) = false := by rfl) : QE X (.Call (.Attribute o name apos) (e :: es) [] cpos) (tBM X.K T r to t) := ⟨pe_bm pa slot hty hm ho.run ha.run hbase hfew hline hs hplain⟩
theorem qe_bm0 {T id : String} (pa : PlainAttrs T) (slot : Slot T name id) (hty : typeOf (.builtin id) = pure (.type "method_descriptor")) (hm : MtR X id r) (ho : QE X o to) (hbase : attributeBase o name X.env (eval o X.env) = eval o X.env := by rfl) (hline : (apos.endLine == cpos.line) = true := by rfl) : QE X (.Call (.Attribute o name apos) [] [] cpos) (tBM0 X.K T r to) := ⟨pe_bm0 pa slot hty hm ho.run hbase hline⟩
theorem qe_comp (hc : X.calm = true) (S : CScope scope X.env) (hi : QI X target iter wi) (T : ∀ σ, σ.length = X.N.length → Takes X scope N σ (σ0 σ)) (hg : ∀ C s H fp, QG (cmpCx X scope C N s H fp) target g) (ht : ∀ C s H fp, QTs (cmpCx X scope C N s H fp) ifs tt) (he : ∀ C s H fp, QE (cmpCx X scope C N s H fp) elt te) (hs : ∀ x, foldedSetIterable iter X.env x = pure x := by intro _; rfl) : QE X (.ListComp elt [⟨target, iter, ifs, 0⟩] scope pos) (tComp wi σ0 g tt te) := ⟨pe_comp hc S hi.run T (fun C s H fp => (hg C s H fp).run) (fun C s H fp => (ht C s H fp).run) (fun C s H fp => (he C s H fp).run) hs⟩
theorem qs_setC {i : Nat} {y : Str} {py spos : Pos} (hc : X.calm = true) (S : CScope scope X.env) (hi : QI X target iter wi) (T : ∀ σ, σ.length = X.N.length → Takes X scope N σ (σ0 σ)) (hg : ∀ C s H fp, QG (cmpCx X scope C N s H fp) target g) (ht : ∀ C s H fp, QTs (cmpCx X scope C N s H fp) ifs tt) (he : ∀ C s H fp, QE (cmpCx X scope C N s H fp) elt te) (hN : X.N.Nodup) (hy : X.N[i]? = some y) (hx : Loc X.env.scope y) (hsw : swapsWith (.ListComp elt [⟨target, iter, ifs, 0⟩] scope pos) (some (.Name y py)) spos.line X.env = pure true := by rfl) (hf : X.fn y = true ∨ X.env.scope.names.lookup y = some .local := by first | exact .inl rfl | exact .inr rfl | assumption) (hs : ∀ x, foldedSetIterable iter X.env x = pure x := by intro _; rfl) : QS X (.Assign [.Name y py] (.ListComp elt [⟨target, iter, ifs, 0⟩] scope pos) spos) (tAsg (tComp wi σ0 g tt te) (gName i)) := ⟨ps_setC hc S hi.run T (fun C s H fp => (hg C s H fp).run) (fun C s H fp => (ht C s H fp).run) (fun C s H fp => (he C s H fp).run) hN hy hx hsw hf hs⟩
theorem qts_nil {X : Cx} : QTs X [] tYes := ⟨pts_nil⟩
theorem qc_isN {j pos'} (ha : QE X a ta) : QC X .Is a (.Constant .none j pos') (tIsN ta) := ⟨pc_isN ha.run⟩
end L2

set_option Elab.async false
set_option linter.all false
set_option maxRecDepth 100000
set_option maxHeartbeats 4000000
namespace L2
open PySem PySem.Spec PyProof.Rows
theorem qa_consts {X : Cx} {es : List Expr} {xs : List V} (h : constsV es = some xs) : QA X es (tVals xs) := ⟨pa_consts h⟩
theorem qv {X : Cx} (i : Nat) {x : Str} {pos : Pos} (hN : X.N[i]? = some x := by rfl) (hv : Vis X.env.scope x := by first | exact Or.inl rfl | exact Or.inr (Or.inl rfl) | exact Or.inr (Or.inr rfl)) (hd : (x == ("__debug__" : Str)) = false := by decide)
    (hcd : (x == ("__classdict__" : Str)) = false := by decide) : QE X (.Name x pos) (tVar i) := ⟨pe_var hN hv hd hcd⟩
theorem QW.qt {X : Cx} {e : Expr} {t : TT} (h : QW X e t) : QT X e t := ⟨h.run.pt⟩
section
variable {P : Program} {w : World} {K : PySem.W.Frag} {mg : Str → Option Value} {base : Heap}
theorem Fun.okq {x qual : Str} {st : Stmt} {f : Addr} {fd : FuncData} {N ps : List Str} {k : Nat} {sp : Sp} (F : Fun K x qual st f fd) (S : FnScope N ps (defScope st)) (len : ∀ vs H Q E, sp vs H Q E → vs.length = ps.length)
    (hbody : ∀ (cdv : Value) (A : Around) (outer : List Env) (s : Shared) (H : Hp) (vs : List V) (Q : VK) (E : XK), Room k (A.deeper (envOfC qual (defScope st) s.heap.objs.size f cdv)) → sp vs H Q E →
      ∃ t, QSs (cxOf CX0 P w K mg base N qual (defScope st) f cdv A outer s H E).nox (defBody st) t ∧ t { nx := fun _ H' => Q .non H', rt := Q } (start N vs) H) : FnOk P w K mg base CX0 (k + 1) f fd ps sp :=
  F.ok S len fun cdv A outer s H vs Q E hr h => by
    obtain ⟨t, q, r⟩ := hbody cdv A outer s H vs Q E hr h
    exact ⟨t, q.run, r⟩
end
end L2

set_option Elab.async false
set_option linter.all false
set_option maxRecDepth 100000
set_option maxHeartbeats 4000000
namespace L2
open PySem PySem.Spec PyProof.Rows
section
variable {X : Cx}
noncomputable def rAddS : R2 := fun x y H Q => ∃ i j, x = .str i ∧ y = .str j ∧ i.length + j.length ≤ sizeLine ∧ Q (.str (i ++ j)) H
noncomputable def rCatA (K : PySem.W.Frag) : R2 := fun x y H Q => ∃ a b xs ys, x = .ref a ∧ y = .ref b ∧ SqT K H a xs ∧ SqT K H b ys ∧ xs.length + ys.length ≤ sizeLine ∧
  ∀ r H', Same H H' → SqT K H' r (xs ++ ys) → Q (.ref r) H'
theorem op_catA : OpR X (binaryOp .Add) (rCatA X.K) := by
  intro pins s σ H x y v u Q I rx ry h
  obtain ⟨a, b, xs, ys, rfl, rfl, ha, hb, hz, q⟩ := h
  by_cases hx : xs = []
  · subst hx
    cases rx
    cases ry
    obtain ⟨its, r1, p1, _⟩ := I.tuple ha
    obtain ⟨its2, r2, p2, _⟩ := I.tuple hb
    cases r1
    obtain ⟨⟨cls, dd, data, sl⟩, ho, hc, n, hd⟩ := id p1
    obtain ⟨⟨cls2, dd2, data2, sl2⟩, ho2, hc2, n2, hd2⟩ := id p2
    simp only at hc hd hc2 hd2
    subst hc hd hc2 hd2
    exact concat_meets ⟨_, ho, rfl⟩ ⟨_, ho2, rfl⟩ noFill_tuple_add seq_tuple_add PySem.F.slot_tuple_add PySem.F.entry_tuple_add (PySem.F.args_tuple_add_2 _ _)
      (tuple_addW0 a b _ _ n n2 dd dd2 sl sl2 (by simp)) ⟨ho, ho2, ⟨.ref b, H, I, rfl, q b H (Same.refl H) hb⟩⟩
  · refine op_catT pins s σ H _ _ v u Q I rx ry ⟨a, b, xs, ys, rfl, rfl, ha, hb, hx, hz, fun e => ?_, fun _ p hp => q p _ (fun c o e => by rw [upd_ne (ne_of_none e hp)]; exact e) (.inl (.inl upd_same))⟩
    subst e
    exact q a H (Same.refl H) (by rw [List.append_nil]; exact ha)
noncomputable def rAddA (K : PySem.W.Frag) : R2 := fun x y H Q => rI0 (fun i j => .int (i + j)) x y H Q ∨ rAddS x y H Q ∨ rCat x y H Q ∨ rCatA K x y H Q
theorem op_addA : OpR X (binaryOp .Add) (rAddA X.K) := op_add.or (op_add_str.or (op_cat.or op_catA))
theorem s_add_int {K : PySem.W.Frag} {i j : Int} {H : Hp} {Q : VK} (h : Q (.int (i + j)) H) : rAddA K (.int i) (.int j) H Q := .inl ⟨i, j, rfl, rfl, h⟩
theorem s_add_str {K : PySem.W.Frag} {i j : Str} {H : Hp} {Q : VK} (hl : i.length + j.length ≤ sizeLine) (h : Q (.str (i ++ j)) H) : rAddA K (.str i) (.str j) H Q := .inr (.inl ⟨i, j, rfl, rfl, hl, h⟩)
theorem s_add_lst {K : PySem.W.Frag} {a b : Addr} {xs ys : List V} {H : Hp} {Q : VK} (ha : H a = some (.lst xs)) (hb : H b = some (.lst ys)) (hz : xs.length + ys.length ≤ sizeLine) (h : ∀ p, H p = none → Q (.ref p) (upd H p (.lst (xs ++ ys)))) : rAddA K (.ref a) (.ref b) H Q := .inr (.inr (.inl ⟨a, b, xs, ys, rfl, rfl, ha, hb, hz, h⟩))
theorem s_add_tup {K : PySem.W.Frag} {a b : Addr} {xs ys : List V} {H : Hp} {Q : VK} (ha : SqT K H a xs) (hb : SqT K H b ys) (hz : xs.length + ys.length ≤ sizeLine) (h : ∀ r H', Same H H' → SqT K H' r (xs ++ ys) → Q (.ref r) H') : rAddA K (.ref a) (.ref b) H Q := .inr (.inr (.inr ⟨a, b, xs, ys, rfl, rfl, ha, hb, hz, h⟩))
noncomputable def rMulA : R2 := fun x y H Q => rI CMul (fun i j => .int (i * j)) x y H Q ∨ rRep x y H Q
theorem op_mulA : OpR X (binaryOp .Mult) rMulA := op_mul.or op_rep
theorem s_mul_l {i j : Int} {H : Hp} {Q : VK} (h1 : -(2 ^ 64) < i) (h2 : i < 2 ^ 64) (h : Q (.int (i * j)) H) : rMulA (.int i) (.int j) H Q := .inl ⟨i, j, rfl, rfl, .inl ⟨h1, h2⟩, h⟩
theorem s_mul_r {i j : Int} {H : Hp} {Q : VK} (h1 : -(2 ^ 64) < j) (h2 : j < 2 ^ 64) (h : Q (.int (i * j)) H) : rMulA (.int i) (.int j) H Q := .inl ⟨i, j, rfl, rfl, .inr ⟨h1, h2⟩, h⟩
theorem s_rI {C : Int → Int → Prop} {g : Int → Int → V} {i j : Int} {H : Hp} {Q : VK} (hc : C i j) (h : Q (g i j) H) : rI C g (.int i) (.int j) H Q := ⟨i, j, rfl, rfl, hc, h⟩
theorem s_rI0 {g : Int → Int → V} {i j : Int} {H : Hp} {Q : VK} (h : Q (g i j) H) : rI0 g (.int i) (.int j) H Q := ⟨i, j, rfl, rfl, h⟩
theorem s_rU {g : Int → V} {i : Int} {H : Hp} {Q : VK} (h : Q (g i) H) : rU g (.int i) H Q := ⟨i, rfl, h⟩
noncomputable def rLtA : R2 := fun x y H Q => rI0 (fun i j => .bl (decide (i < j))) x y H Q ∨ ∃ i j, x = .str i ∧ y = .str j ∧ Q (.bl (decide (i.cps.toList < j.cps.toList))) H
theorem op_ltA : OpR X (compareOp .Lt) rLtA := op_lt.or op_lt_str
noncomputable def rLeA : R2 := fun x y H Q => rI0 (fun i j => .bl (decide (i ≤ j))) x y H Q ∨ ∃ i j, x = .str i ∧ y = .str j ∧ Q (.bl (!(decide (j.cps.toList < i.cps.toList)))) H
theorem op_leA : OpR X (compareOp .LtE) rLeA := op_le.or op_le_str
theorem s_lt {i j : Int} {H : Hp} {Q : VK} (h : Q (.bl (decide (i < j))) H) : rLtA (.int i) (.int j) H Q := .inl ⟨i, j, rfl, rfl, h⟩
theorem s_le {i j : Int} {H : Hp} {Q : VK} (h : Q (.bl (decide (i ≤ j))) H) : rLeA (.int i) (.int j) H Q := .inl ⟨i, j, rfl, rfl, h⟩
noncomputable def rInS (neg : Bool) : R2 := fun x y H Q => ∃ (c : Nat) (j : Str), x = .str ⟨#[c]⟩ ∧ y = .str j ∧ Q (.bl (if neg then !decide (c ∈ j.cps.toList) else decide (c ∈ j.cps.toList))) H
theorem op_inS : OpR X (compareOp .In) (rInS false) := op_in_sign
theorem op_notinS : OpR X (compareOp .NotIn) (rInS true) := op_notin_sign
noncomputable def rInA (K : PySem.W.Frag) (neg : Bool) : R2 := fun x y H Q => rIn K neg x y H Q ∨ rInS neg x y H Q
theorem op_inA : OpR X (compareOp .In) (rInA X.K false) := op_in_seq.or op_inS
theorem op_notinA : OpR X (compareOp .NotIn) (rInA X.K true) := op_notIn_seq.or op_notinS
theorem s_in_seq {K : PySem.W.Frag} {neg : Bool} {x : V} {p : Addr} {xs : List V} {H : Hp} {Q : VK} (hq : SqL K H p xs ∨ SqT K H p xs) (hx : flatV x = true) (hxs : xs.all flatV = true) (h : Q (.bl (if neg then !inV x xs else inV x xs)) H) : rInA K neg x (.ref p) H Q := .inl ⟨p, xs, rfl, hq, hx, hxs, h⟩
noncomputable def rSlA (K : PySem.W.Frag) : V → Option Int → Option Int → Hp → VK → Prop := fun x lo hi H Q => rSlL K x lo hi H Q ∨ rSlS x lo hi H Q ∨ rSlT K x lo hi H Q
theorem sl_any : SlR X (rSlA X.K) := sl_list.or (sl_str.or sl_tup)
theorem s_sl_lst {K : PySem.W.Frag} {a : Addr} {xs : List V} {lo hi : Option Int} {H : Hp} {Q : VK} (ha : SqL K H a xs) (h : ∀ p, H p = none → Q (.ref p) (upd H p (.lst (cutV xs lo hi)))) : rSlA K (.ref a) lo hi H Q := .inl ⟨a, xs, rfl, ha, h⟩
theorem s_sl_str {K : PySem.W.Frag} {z : Str} {lo hi : Option Int} {H : Hp} {Q : VK} (hl : z.length ≤ sizeLine) (h : Q (.str (Txt.slice z lo hi)) H) : rSlA K (.str z) lo hi H Q := .inr (.inl ⟨z, rfl, hl, h⟩)
theorem s_ix_lst {K : PySem.W.Frag} {a : Addr} {xs : List V} {i : Int} {v : V} {H : Hp} {Q : VK} (ha : SqL K H a xs) (hv : atI xs i = some v) (h : Q v H) : rIx K (.ref a) (.int i) H Q := .inl ⟨a, xs, i, v, rfl, rfl, ha, hv, h⟩
theorem s_ix_tup {K : PySem.W.Frag} {a : Addr} {xs : List V} {i : Int} {v : V} {H : Hp} {Q : VK} (ha : SqT K H a xs) (hv : atI xs i = some v) (h : Q v H) : rIx K (.ref a) (.int i) H Q := .inr (.inl ⟨a, xs, i, v, rfl, rfl, ha, hv, h⟩)
theorem s_ix_str {K : PySem.W.Frag} {z : Str} {i : Int} {c : Nat} {H : Hp} {Q : VK} (hl : z.length ≤ sizeLine) (hv : atI z.cps.toList i = some c) (h : Q (.str ⟨#[c]⟩) H) : rIx K (.str z) (.int i) H Q := .inr (.inr ⟨z, i, c, rfl, rfl, hl, hv, h⟩)
noncomputable def rLen (K : PySem.W.Frag) : List V → Hp → VK → Prop := fun xs H Q => ∃ x n, xs = [x] ∧ LenV K x H n ∧ Q (.int n) H
theorem call_lenA : CallR X (.builtin "len") (rLen X.K) := call_len
theorem s_len_lst {K : PySem.W.Frag} {a : Addr} {xs : List V} {H : Hp} {Q : VK} (ha : SqL K H a xs) (h : Q (.int xs.length) H) : rLen K [.ref a] H Q := ⟨_, _, rfl, .inl ⟨xs, ha, rfl⟩, h⟩
theorem s_len_tup {K : PySem.W.Frag} {a : Addr} {xs : List V} {H : Hp} {Q : VK} (ha : SqT K H a xs) (h : Q (.int xs.length) H) : rLen K [.ref a] H Q := ⟨_, _, rfl, .inr ⟨xs, ha, rfl⟩, h⟩
theorem s_len_str {K : PySem.W.Frag} {z : Str} {H : Hp} {Q : VK} (hl : z.length ≤ sizeLine) (h : Q (.int z.length) H) : rLen K [.str z] H Q := ⟨_, _, rfl, ⟨hl, rfl⟩, h⟩
structure Glob (mg : Str → Option Value) (x : Str) (v : V) : Prop where
  ex : ∃ u, mg x = some u ∧ RelV v u
theorem qe_gl {x : Str} {v : V} {pos : Pos} (G : Glob X.mg x v) (hg : Gl X x := by rfl) (hd : (x == ("__debug__" : Str)) = false := by decide) : QE X (.Name x pos) (tC v) := by
  obtain ⟨u, h, r⟩ := G.ex
  exact ⟨pe_glob hg h r hd⟩
noncomputable def iAny (K : PySem.W.Frag) (tl : TE) : TI := fun σ H R => tl σ H fun x H1 => (∃ a, x = .ref a ∧ (∃ xs, SqL K H1 a xs) ∧ R (Itl K a) H1) ∨ (∃ a, x = .ref a ∧ (∃ xs, SqT K H1 a xs) ∧ R (Itt K a) H1) ∨ ∃ z, x = .str z ∧ R (Its z) H1
theorem qi_any {tg l : Expr} {tl : TE} (hl : QE X l tl) : QI X tg l (iAny X.K tl) := by
  refine ⟨fun pins s σ H R I h => ?_⟩
  refine thn (hl.run pins s σ H _ I h) fun v s1 ⟨x, H1, I1, r1, q1⟩ => ?_
  have one : ∀ (l : Expr) (t : TE), PE X l t → True := fun _ _ _ => trivial
  rcases q1 with ⟨a, e, ⟨xs, hq⟩, q⟩ | ⟨a, e, ⟨xs, hq⟩, q⟩ | ⟨z, e, q⟩
  · subst e
    cases r1
    obtain ⟨its, rv, p, hz⟩ := I1.list hq
    refine wpAny_pyIter_list p.isList ?_
    refine ⟨s1.heap.objs.size, [s1.heap.objs.size], _, _, H1, rfl, I1.kept (t' := s1.toks) fun b o e => Heap.get?_push_of_some _ e, turn_list a _, ⟨_, Heap.get?_push_size _ rfl, rfl, rfl⟩, fun b hb => ?_, q⟩
    have e : b = s1.heap.objs.size := by simpa using hb
    subst e
    exact I1.fpOk (Nat.le_refl _) (I1.hok.fresh (Nat.le_refl _))
  · subst e
    cases r1
    obtain ⟨its, rv, p, hz⟩ := I1.tuple hq
    refine wpAny_pyIter_tuple (show s1.heap.IsTuple a its.toArray from p) ?_
    refine ⟨s1.heap.objs.size, [s1.heap.objs.size], _, _, H1, rfl, I1.kept (t' := s1.toks) fun b o e => Heap.get?_push_of_some _ e, turn_tuple a _, ⟨_, Heap.get?_push_size _ rfl, rfl, rfl⟩, fun b hb => ?_, q⟩
    have e : b = s1.heap.objs.size := by simpa using hb
    subst e
    exact I1.fpOk (Nat.le_refl _) (I1.hok.fresh (Nat.le_refl _))
  · subst e
    obtain ⟨t, rfl⟩ := r1
    refine wpAny_pyIter_strU ?_
    refine ⟨s1.heap.objs.size, [s1.heap.objs.size], _, _, H1, rfl, I1.kept (t' := s1.toks) fun b o e => Heap.get?_push_of_some _ e, turn_str _ z t, ⟨_, Heap.get?_push_size _ rfl, rfl, rfl⟩, fun b hb => ?_, q⟩
    have e : b = s1.heap.objs.size := by simpa using hb
    subst e
    exact I1.fpOk (Nat.le_refl _) (I1.hok.fresh (Nat.le_refl _))
end
end L2

set_option Elab.async false
set_option linter.all false
set_option maxRecDepth 100000
set_option maxHeartbeats 4000000
namespace L2
open PySem PySem.Spec PyProof.Rows
noncomputable def Itd (hi : Int) (n : Nat) : It := ⟨fun i _ => i < n, fun i H x H' => H' = H ∧ x = .int (hi - i), fun i _ => n ≤ i⟩
theorem rangeSize_down (a b : Int) : Builtin.Range.rangeSize a b (-1) = if b < a then a - b else 0 := by
  unfold Builtin.Range.rangeSize
  simp only [show ¬ ((-1 : Int) > 0) by decide, if_false, Int.neg_neg, Int.ediv_one]
  split <;> omega
theorem small_down {a b : Int} (ha : -(2 ^ 62) ≤ a) (ha' : a < 2 ^ 62) (hb : -(2 ^ 62) ≤ b) (hb' : b < 2 ^ 62) : Builtin.Range.small a b (-1) = true := by
  unfold Builtin.Range.small
  rw [rangeSize_down]
  simp only [Builtin.Range.rangeFitsLong, Bool.and_eq_true, Bool.or_eq_true, decide_eq_true_eq, beq_iff_eq, show ¬ ((-1 : Int) > 0) by decide, if_false]
  split <;> omega
theorem turn_down {P : Program} {w : World} {K : PySem.W.Frag} {tg : Expr} (it : Addr) (hi : Int) (n : Nat) : Turn P w K tg (Itd hi n) [it] it (fun i h => IsRangeIter h it (hi + (i : Nat) * (-1)) ((n : Int) - (i : Nat)) (-1)) where
  mem := by simp
  obj := fun i h st b hb => by
    have e : b = it := by simpa using hb
    subst e
    exact ⟨_, st, fun v z => by
      have z' : Data.fields _ = Data.cell v := z
      cases z'⟩
  keep := fun i h h' st k => k it (by simp) _ st
  item := by
    intro X hP hw hK hc i pins s σ H E I hf st hg
    subst hP hw hK
    obtain ⟨f0, f1, f2, f3, f4, f5⟩ := hf it (by simp)
    have W := Walks.range (prog := X.prog) (w := X.w) (I.ok.hd hc) it hi (-1) n
    refine W.item i s _ _ hg st fun v h' tk hv st' kk => ?_
    obtain ⟨t, rfl⟩ := hv
    have I1 : Inv X pins σ H { s with heap := h', toks := tk } := I.turned (fun b o hb e => kk b o (by simpa using hb) e) f0 f1 f3 f4 f5
    refine ⟨_, rfl, go_of (s := { s with heap := h', toks := tk }) (n := "range_iterator") st' rfl rfl (by decide) ⟨.int (hi - i), H, I1, ⟨t, ?_⟩, ⟨rfl, rfl⟩, st', fun b hb => (hf b hb).1⟩⟩
    rw [Int.mul_neg_one, Int.sub_eq_add_neg]
  done := by
    intro X hP hw hK hc i pins s σ H E I hf st hg
    subst hP hw hK
    obtain ⟨f0, f1, f2, f3, f4, f5⟩ := hf it (by simp)
    exact wpAny_pyNext_range_end (I.ok.hd hc) st (by have : n ≤ i := hg; omega) fun h' eb => ⟨rfl, I.turned (t' := s.toks) (fun b o hb e => eb b o hb e) f0 f1 f3 f4 f5⟩
  self := fun _ _ _ _ _ st h => wpAny_pyIter_rangeiter st h
section
variable {X : Cx} {tg : Expr}
noncomputable def iRng3 (ta : TA) : TI := fun σ H R => ta σ H fun vs H1 => ∃ i j : Int, vs = [.int i, .int j, .int (-1)] ∧ (-(2 ^ 62) ≤ i ∧ i < 2 ^ 62 ∧ -(2 ^ 62) ≤ j ∧ j < 2 ^ 62) ∧ R (Itd i (i - j).toNat) H1
theorem qi_range3 {a b c : Expr} {ta : TA} {p pos : Pos} (hg : Gl X "range") (hm : X.mg "range" = none) (ha : QA X [a, b, c] ta) (hs : starEach [a, b, c] X.env = [(false, eval a X.env), (false, eval b X.env), (false, eval c X.env)] := by rfl) (hs2 : starEach [b, c] X.env = [(false, eval b X.env), (false, eval c X.env)] := by rfl) :
    QI X tg (.Call (.Name "range" p) [a, b, c] [] pos) (iRng3 ta) := by
  refine ⟨fun pins s σ H R I h => ?_⟩
  refine Call_ (ld_blt I hg hm boot_range (PyProof.Rows.callWith_type1 (thn (ha.run pos pins s σ H _ I h) fun us s1 ⟨vs, H1, I1, r1, q1⟩ => ?_) (by rw [hs, hs2]) (by rw [hs2]; rfl)))
  obtain ⟨i, j, e, ⟨q1, q2, q3, q4⟩, q⟩ := q1
  subst e
  cases r1 with
  | cons r rr =>
    cases rr with
    | cons r' rr =>
      cases rr with
      | cons r'' rr =>
        cases rr
        obtain ⟨t, rfl⟩ := r
        obtain ⟨t', rfl⟩ := r'
        obtain ⟨t'', rfl⟩ := r''
        refine call_range_3 (by decide) ?_ (.inl (PyProof.noPylong_small (by omega)))
        refine wpAny_pyIter_range (IsRange.new ..) (small_down q1 q2 q3 q4) ?_
        have I2 : Inv X pins σ H1 { s1 with heap := s1.heap.push { cls := .type "range", data := .fields #[.int i t, .int j t', .int (-1) t''] }, toks := s1.toks } := I1.kept fun b o e => Heap.get?_push_of_some _ e
        refine ⟨(s1.heap.push { cls := .type "range", data := .fields #[.int i t, .int j t', .int (-1) t''] }).objs.size, [(s1.heap.push { cls := .type "range", data := .fields #[.int i t, .int j t', .int (-1) t''] }).objs.size], _, _, H1, rfl,
          I2.kept (t' := s1.toks) fun b o e => Heap.get?_push_of_some _ e, turn_down _ i (i - j).toNat, ?_, fun b hb => ?_, q⟩
        · have e1 : i + ((0 : Nat) : Int) * (-1) = i := by simp
          have e2 : (((i - j).toNat : Nat) : Int) - ((0 : Nat) : Int) = Builtin.Range.rangeSize i j (-1) := by rw [rangeSize_down]; split <;> omega
          show IsRangeIter _ _ (i + ((0 : Nat) : Int) * (-1)) ((((i - j).toNat : Nat) : Int) - ((0 : Nat) : Int)) (-1)
          rw [e1, e2]
          exact Heap.get?_push_size _ rfl
        · have e : b = (s1.heap.push { cls := .type "range", data := .fields #[.int i t, .int j t', .int (-1) t''] }).objs.size := by simpa using hb
          subst e
          exact I2.fpOk (Nat.le_refl _) (I2.hok.fresh (Nat.le_refl _))
theorem for_down {hi : Int} {n : Nat} {g : TG} {tb : TS} {D : Ends} {σ : St} {H : Hp} (Pv : Nat → St → Hp → Prop) (h0 : Pv 0 σ H)
    (hs : ∀ i σ H, i < n → Pv i σ H → g (.int (hi - i)) σ H fun σ2 H2 => tb { D with nx := Pv (i + 1), ct := Pv (i + 1), bk := D.nx } σ2 H2) (hd : ∀ σ H, Pv n σ H → D.nx σ H) :
    ∃ W : Nat → Nat → St → Hp → Prop, (∃ m, W 0 m σ H) ∧ ∀ i m σ H, W i m σ H →
      ((Itd hi n).stop i H ∧ D.nx σ H) ∨ ((Itd hi n).go i H ∧ ∃ N : St → Hp → Prop, (∀ σ' H', N σ' H' → ∃ m', m' < m ∧ W (i + 1) m' σ' H') ∧ ∀ x H', (Itd hi n).yld i H x H' → g x σ H' fun σ2 H2 => tb { D with nx := N, ct := N, bk := D.nx } σ2 H2) := by
  refine ⟨fun i m σ H => m = n - i ∧ i ≤ n ∧ Pv i σ H, ⟨n, by simp, Nat.zero_le _, h0⟩, ?_⟩
  rintro i m σ H ⟨rfl, hi', p⟩
  by_cases hlt : i < n
  · refine .inr ⟨hlt, Pv (i + 1), fun σ' H' p' => ⟨n - (i + 1), by omega, rfl, hlt, p'⟩, fun x H' y => ?_⟩
    obtain ⟨e, y⟩ := y
    subst e y
    exact hs i σ _ hlt p
  · have e : i = n := by omega
    subst e
    exact .inl ⟨Nat.le_refl _, hd σ H p⟩
end
noncomputable def Itv (K : PySem.W.Frag) (a : Addr) (n : Nat) : It :=
  ⟨fun i H => ∃ xs, SqL K H a xs ∧ xs.length = n ∧ i < n, fun i H x H' => H' = H ∧ ∀ xs, SqL K H a xs → xs[n - 1 - i]? = some x, fun i _ => i = n⟩
theorem turn_rev {P : Program} {w : World} {K : PySem.W.Frag} {tg : Expr} (a it : Addr) (n : Nat) : Turn P w K tg (Itv K a n) [it] it (fun i h => i ≤ n ∧ h.IsRevIter it a ((n : Int) - 1 - (i : Int))) where
  mem := by simp
  obj := fun i h st b hb => by
    have e : b = it := by simpa using hb
    subst e
    obtain ⟨o, e, c, d⟩ := st.2
    exact ⟨o, e, fun v z => by rw [d] at z; cases z⟩
  keep := fun i h h' st k => ⟨st.1, st.2.at fun o e => k it (by simp) o e⟩
  item := by
    intro X hP hw hK hc i pins s σ H E I hf st hg
    subst hP hw hK
    obtain ⟨xs, hq, hl, hi⟩ := hg
    obtain ⟨its, rv, p, hz⟩ := I.list hq
    have hx : xs[n - 1 - i]? = some (xs[n - 1 - i]'(by omega)) := List.getElem?_eq_getElem (by omega)
    obtain ⟨u, hu, ru⟩ := rv.get hx
    obtain ⟨f0, f1, f2, f3, f4, f5⟩ := hf it (by simp)
    have e : (n : Int) - 1 - (i : Int) = ((n - 1 - i : Nat) : Int) := by omega
    have hit := st.2
    rw [e] at hit
    refine wpAny_pyNext_rev_item hit p.isList (x := u) (by simpa using hu) fun h' st' sb => ?_
    have I1 : Inv X pins σ H { s with heap := h' } := I.turned (t' := s.toks) (fun b o hb e => (sb.2 b hb).trans e) f0 f1 f3 f4 f5
    have e2 : ((n - 1 - i : Nat) : Int) - 1 = (n : Int) - 1 - ((i + 1 : Nat) : Int) := by omega
    rw [e2] at st'
    obtain ⟨o, eo, c, d⟩ := id st'
    exact ⟨u, rfl, go_of (s := { s with heap := h' }) eo c d (by decide) ⟨_, H, I1, ru, ⟨rfl, fun ys hy => by rw [I.list_inj hy hq]; exact hx⟩, ⟨hi, st'⟩, fun b hb => (hf b hb).1⟩⟩
  done := by
    intro X hP hw hK hc i pins s σ H E I hf st hg
    subst hP hw hK
    have hg : i = n := hg
    subst hg
    obtain ⟨f0, f1, f2, f3, f4, f5⟩ := hf it (by simp)
    have e : (i : Int) - 1 - (i : Int) = -1 := by omega
    have hit := st.2
    rw [e] at hit
    exact wpAny_pyNext_rev_end (I.ok.hd hc) hit fun h' eb => ⟨rfl, I.turned (t' := s.toks) (fun b o hb e => eb b o hb e) f0 f1 f3 f4 f5⟩
  self := fun _ _ _ _ _ st h => wpAny_pyIter_revIter st.2 h
theorem boot_rev : bootBuiltins "reversed" = some (.type "reversed") := by decide +kernel
section
variable {X : Cx} {tg : Expr}
noncomputable def iRev (K : PySem.W.Frag) (ta : TA) : TI := fun σ H R => ta σ H fun vs H1 => ∃ a xs, vs = [.ref a] ∧ SqL K H1 a xs ∧ R (Itv K a xs.length) H1
theorem qi_rev {a : Expr} {ta : TA} {p pos : Pos} (hg : Gl X "reversed") (hm : X.mg "reversed" = none) (ha : QA X [a] ta) (hs : starEach [a] X.env = [(false, eval a X.env)] := by rfl) : QI X tg (.Call (.Name "reversed" p) [a] [] pos) (iRev X.K ta) := by
  refine ⟨fun pins s σ H R I h => ?_⟩
  refine Call_ (ld_blt I hg hm boot_rev (PyProof.Rows.callWith_type1 (thn (ha.run pos pins s σ H _ I h) fun us s1 ⟨vs, H1, I1, r1, q1⟩ => ?_) hs rfl))
  obtain ⟨l, xs, e, hq, q⟩ := q1
  subst e
  cases r1 with
  | cons r rr =>
    cases rr
    cases r
    obtain ⟨its, rv, pl, hz⟩ := I1.list hq
    refine call_reversed_list pl.isList ?_
    have hl := rv.length
    have st0 : (s1.heap.push (PySem.revObj l (((its.toArray).size : Int) - 1))).IsRevIter s1.heap.objs.size l ((xs.length : Int) - 1 - ((0 : Nat) : Int)) := by
      refine ⟨_, Heap.get?_push_size _ rfl, rfl, ?_⟩
      have e : ((its.toArray).size : Int) - 1 = (xs.length : Int) - 1 - ((0 : Nat) : Int) := by simp [hl]
      rw [← e]
      rfl
    refine wpAny_pyIter_revIter (it := s1.heap.objs.size) (l := l) (i := (xs.length : Int) - 1 - ((0 : Nat) : Int)) st0 ?_
    refine ⟨s1.heap.objs.size, [s1.heap.objs.size], _, _, H1, rfl, I1.kept (t' := s1.toks) fun b o e => Heap.get?_push_of_some _ e, turn_rev l _ xs.length, ⟨Nat.zero_le _, st0⟩, fun b hb => ?_, q⟩
    have e : b = s1.heap.objs.size := by simpa using hb
    subst e
    exact I1.fpOk (Nat.le_refl _) (I1.hok.fresh (Nat.le_refl _))
theorem for_rev {K : PySem.W.Frag} {a : Addr} {xs : List V} {g : TG} {tb : TS} {D : Ends} {σ : St} {H : Hp} (Pv : Nat → St → Hp → Prop) (h0 : Pv 0 σ H) (hl : ∀ i σ H, i ≤ xs.length → Pv i σ H → SqL K H a xs)
    (hs : ∀ i x σ H, i < xs.length → xs[xs.length - 1 - i]? = some x → Pv i σ H → g x σ H fun σ2 H2 => tb { D with nx := Pv (i + 1), ct := Pv (i + 1), bk := D.nx } σ2 H2) (hd : ∀ σ H, Pv xs.length σ H → D.nx σ H) :
    ∃ W : Nat → Nat → St → Hp → Prop, (∃ m, W 0 m σ H) ∧ ∀ i m σ H, W i m σ H →
      ((Itv K a xs.length).stop i H ∧ D.nx σ H) ∨ ((Itv K a xs.length).go i H ∧ ∃ N : St → Hp → Prop, (∀ σ' H', N σ' H' → ∃ m', m' < m ∧ W (i + 1) m' σ' H') ∧ ∀ x H', (Itv K a xs.length).yld i H x H' → g x σ H' fun σ2 H2 => tb { D with nx := N, ct := N, bk := D.nx } σ2 H2) := by
  refine ⟨fun i m σ H => m = xs.length - i ∧ i ≤ xs.length ∧ Pv i σ H, ⟨xs.length, by simp, Nat.zero_le _, h0⟩, ?_⟩
  rintro i m σ H ⟨rfl, hi, p⟩
  have q := hl i σ H hi p
  by_cases hlt : i < xs.length
  · refine .inr ⟨⟨xs, q, rfl, hlt⟩, Pv (i + 1), fun σ' H' p' => ⟨xs.length - (i + 1), by omega, rfl, hlt, p'⟩, fun x H' y => ?_⟩
    obtain ⟨e, y⟩ := y
    subst e
    exact hs i x σ _ hlt (y xs q) p
  · have e : i = xs.length := by omega
    subst e
    exact .inl ⟨rfl, hd σ H p⟩
end
end L2

set_option Elab.async false
set_option linter.all false
set_option maxRecDepth 100000
set_option maxHeartbeats 4000000
namespace L2
open PySem PySem.Spec PyProof.Rows
section
variable {prog : Program} {w : World} {A : Around} {E : Value → Shared → Prop} {s : Shared}
end
section
variable {prog : Program} {w : World} {A : Around} {E : Value → Shared → Prop} {s : Shared}
noncomputable def EnLate (h : Heap) (e it : Addr) (i : Int) : Prop := ∃ (a : Addr) (oa : Obj) (f1 old : Value), h.get? e = some { cls := .type "enumerate", dict := none, data := .fields #[rawInt a, f1, .ref it, rawInt i, .none, old], slots := #[] } ∧ h.get? a = some oa ∧ a ≠ e ∧ a ≠ it
end
end L2

set_option Elab.async false
set_option linter.all false
set_option maxRecDepth 100000
set_option maxHeartbeats 4000000
namespace L2
open PySem PySem.Spec PyProof.Rows
section
variable {prog : Program} {w : World} {A : Around} {E : Value → Shared → Prop} {s : Shared}
noncomputable def EnSt (h : Heap) (e it : Addr) (i : Nat) : Prop := (i = 0 ∧ ∃ old, IsEnum h e it 0 old) ∨ (0 < i ∧ EnLate h e it i)
theorem EnSt.obj {h : Heap} {e it : Addr} {i : Nat} (x : EnSt h e it i) : ∃ vs, h.get? e = some { cls := .type "enumerate", dict := none, data := .fields vs, slots := #[] } := by
  rcases x with ⟨_, old, x⟩ | ⟨_, _, _, _, _, x, _⟩
  · exact ⟨_, x⟩
  · exact ⟨_, x⟩
end
end L2

set_option Elab.async false
set_option linter.all false
set_option maxRecDepth 100000
set_option maxHeartbeats 4000000
namespace L2
open PySem PySem.Spec PyProof.Rows
structure Src (X : Cx) (pins : List (Addr × Obj)) (σ : St) (it : Addr) (T : String) (n : Nat) (H0 : Hp) (J : Nat → List V → Hp → Heap → Prop) : Prop where
  ty : ∀ i ys H h, J i ys H h → ∃ o, h.get? it = some o ∧ o.cls = .type T
  nl : (Value.type T == Value.type "list") = false ∧ (Value.type T == Value.type "tuple") = false
  nolen : typeLookup (.type T) "__len__" = pure none
  nohint : typeLookup (.type T) "__length_hint__" = pure none
  self : ∀ (A : Around) (s : Shared) (ys : List V) (H : Hp) (Q : Value → Shared → Prop) (E : Value → Shared → Prop), J 0 ys H s.heap → Q (.ref it) s → wpAny (model X.prog X.w) A (pyIter (.ref it)) Q E s
  keep : ∀ i ys H h h' S zs zs', H0 S = none → H S = some (.lst zs) → J i ys H h → (∀ b o, b ≠ S → h.get? b = some o → h'.get? b = some o) → (∃ o, h'.get? S = some o) → J i ys (upd H S (.lst zs')) h'
  fresh : ∀ i ys H h, J i ys H h → H it = none
  item : ∀ (A : Around) (i : Nat) (s : Shared) (H : Hp) (ys : List V) (E : Value → Shared → Prop), A.handled = none → i < n → Inv X pins σ H s → J i ys H s.heap →
    wpAny (model X.prog X.w) A (pyNext (.ref it)) (fun r s' => ∃ u x H', r = some u ∧ RelV x u ∧ Inv X pins σ H' s' ∧ J (i + 1) (ys ++ [x]) H' s'.heap ∧ ∀ S zs, H S = some (.lst zs) → H' S = some (.lst zs)) E s
  done : ∀ (A : Around) (s : Shared) (H : Hp) (ys : List V) (E : Value → Shared → Prop), A.handled = none → Inv X pins σ H s → J n ys H s.heap →
    wpAny (model X.prog X.w) A (pyNext (.ref it)) (fun r s' => r = none ∧ Inv X pins σ H s') E s
section
variable {X : Cx} {pins : List (Addr × Obj)} {σ : St} {it : Addr} {T : String} {n : Nat} {H0 : Hp} {J : Nat → List V → Hp → Heap → Prop}
end
end L2

set_option Elab.async false
set_option linter.all false
set_option maxRecDepth 100000
set_option maxHeartbeats 4000000
namespace L2
open PySem PySem.Spec PyProof.Rows
section
variable {X : Cx} {pins : List (Addr × Obj)} {σ : St} {H : Hp} {s : Shared} {h' : Heap}
theorem Inv.turned2 {t' : Nat} {i1 i2 : Addr} (I : Inv X pins σ H s) (k : ∀ b o, b ≠ i1 → b ≠ i2 → s.heap.get? b = some o → h'.get? b = some o) (f1 : FpOk X pins H i1) (f2 : FpOk X pins H i2) : Inv X pins σ H { s with heap := h', toks := t' } := by
  obtain ⟨n1, l1, _, e1, c1, p1⟩ := f1
  obtain ⟨n2, l2, _, e2, c2, p2⟩ := f2
  have nit : ∀ b u, H b = some u → b ≠ i1 ∧ b ≠ i2 := fun b u e => ⟨(fun z => by rw [z, n1] at e; exact nomatch e), (fun z => by rw [z, n2] at e; exact nomatch e)⟩
  refine I.step (g' := s.gens) (d' := s.drawn) (ch := [i1, i2]) (fun b hb => ?_) (fun b o _ _ hc e _ => k b o (fun z => hc (by simp [z])) (fun z => hc (by simp [z])) e) (fun b o _ _ hc e _ => ⟨o.slots, k b o (fun z => hc (by simp [z])) (fun z => hc (by simp [z])) e⟩) (fun _ _ _ _ n => n)
    (fun b o hc e => ⟨o, k b o (fun z => hc (by simp [z])) (fun z => hc (by simp [z])) e⟩) (fun _ _ e => e) (fun _ _ _ e => e) (fun b ps e => ⟨#[], by rw [e]; simp⟩) (fun m hm => ?_) (fun b u e => ?_) I.bare
  · rcases List.mem_cons.mp hb with rfl | hb
    · exact ⟨e1, l1, c1, p1⟩
    · rw [List.mem_singleton.mp hb]
      exact ⟨e2, l2, c2, p2⟩
  · obtain ⟨o, es, ep, ho, r⟩ := hm
    exact ⟨o, es, ep, k _ o (Ne.symm l1) (Ne.symm l2) ho, r⟩
  · refine (I.hok b u e).stay (fun c v hc q => k c v ?_ ?_ q) (fun _ q => q) fun _ _ q => q
    · rcases hc with z | z
      · rw [z]; exact (nit b u e).1
      · exact (nit c _ z).1
    · rcases hc with z | z
      · rw [z]; exact (nit b u e).2
      · exact (nit c _ z).2
end
theorem FpOk.of {X : Cx} {pins : List (Addr × Obj)} {H H' : Hp} {b : Addr} (f : FpOk X pins H b) (h : H' b = none) : FpOk X pins H' b := ⟨h, f.2⟩
theorem SqT.kept {K : PySem.W.Frag} {H : Hp} {S a : Addr} {zs zs' xs : List V} (hS : H S = some (.lst zs)) (h : SqT K H a xs) : SqT K (upd H S (.lst zs')) a xs := by
  rcases h with (h | ⟨o, h⟩) | h
  · exact .inl (.inl (by rw [upd_ne (ne_of h hS (by intro z; cases z))]; exact h))
  · exact .inl (.inr ⟨o, by rw [upd_ne (ne_of h hS (by intro z; cases z))]; exact h⟩)
  · exact .inr h
theorem SqT.same {K : PySem.W.Frag} {H H' : Hp} {a : Addr} {xs : List V} (h : SqT K H a xs) (e : Same H H') : SqT K H' a xs := e.tup h
noncomputable def Pairs (H : Hp) (xs : List V) (ys : List V) : Prop := ∀ (j : Nat) (y : V), ys[j]? = some y → ∃ (t : Addr) (x : V), y = V.ref t ∧ xs[j]? = some x ∧ H t = some (.tup [.int j, x])
section
variable {X : Cx}
noncomputable def tListEn (K : PySem.W.Frag) (ta : TA) : TE := fun σ H Q => ta σ H fun vs H1 => ∃ a xs, vs = [.ref a] ∧ SqT K H1 a xs ∧
  ∀ (S : Addr) (ys : List V) (H2 : Hp), H1 S = none → Same H1 H2 → ys.length = xs.length → Pairs H2 xs ys → H2 S = some (.lst ys) → Q (.ref S) H2
end
end L2

set_option Elab.async false
set_option linter.all false
set_option maxRecDepth 100000
set_option maxHeartbeats 4000000
namespace L2
open PySem PySem.Spec PyProof.Rows
noncomputable def Ite (K : PySem.W.Frag) (a : Addr) (n : Nat) : It :=
  ⟨fun i H => ∃ xs, SqL K H a xs ∧ xs.length = n ∧ i < n, fun i H x H' => ∃ (t : Addr) (y : V), H t = none ∧ (∀ xs, SqL K H a xs → xs[i]? = some y) ∧ x = .ref t ∧ H' = upd H t (.tup [.int i, y]), fun i H => i = n ∧ ∃ xs, SqL K H a xs ∧ xs.length = n⟩
theorem Inv.pair {X : Cx} {pins : List (Addr × Obj)} {σ : St} {H : Hp} {s : Shared} {h' : Heap} {tk : Nat} {i1 i2 T : Addr} {xs : List V} {its : List Value} (I : Inv X pins σ H s) (f1 : FpOk X pins H i1) (f2 : FpOk X pins H i2)
    (kk : ∀ b o, b ≠ i1 → b ≠ i2 → s.heap.get? b = some o → h'.get? b = some o) (hT : s.heap.objs.size ≤ T) (rv : Vals xs its) (hz : xs.length ≤ sizeLine) (ht : h'.IsTuple T its.toArray) : Inv X pins σ (upd H T (.tup xs)) { s with heap := h', toks := tk } := by
  have hf : H T = none := I.hok.fresh hT
  have I1 : Inv X pins σ H { s with heap := h', toks := tk } := I.turned2 kk f1 f2
  have hokN : HOk X.prog X.w (upd H T (.tup xs)) h' := fun b o e => by
    by_cases hb : b = T
    · subst hb
      rw [upd_same] at e
      cases e
      exact ⟨hz, its, rv, ht⟩
    · rw [upd_ne hb] at e
      refine (I1.hok b o e).stay (fun c v _ q => q) (fun c q => ?_) fun c zs q => ?_
      · rw [upd_ne (ne_of_none q hf)]; exact q
      · rw [upd_ne (ne_of_none q hf)]; exact q
  have u : Un (frs X.stack) [i1, i2] H (upd H T (.tup xs)) s.heap h' := {
    keep := fun b o e n _ hx => kk b o (fun z => hx (by simp [z])) (fun z => hx (by simp [z])) e
    slot := fun b o e n _ hx => ⟨o.slots, kk b o (fun z => hx (by simp [z])) (fun z => hx (by simp [z])) e⟩
    free := fun b o e n _ => by rw [upd_ne (Nat.ne_of_lt (Nat.lt_of_lt_of_le (Heap.lt_size e) hT))]; exact n
    there := fun b o e hx => ⟨o, kk b o (fun z => hx (by simp [z])) (fun z => hx (by simp [z])) e⟩
    tups := fun b zs e => by rw [upd_ne (ne_of_none e hf)]; exact e
    frzs := fun b o u e => by rw [upd_ne (ne_of_none e hf)]; exact e
    tbls := fun b ps e => ⟨#[], by rw [upd_ne (ne_of_none e hf), e]; simp⟩ }
  refine I.call (g' := s.gens) (d' := s.drawn) (t' := tk) u hokN I.bare fun b hb => ?_
  rcases List.mem_cons.mp hb with rfl | hb
  · exact ⟨f1.2.2.2.1, f1.2.1, f1.2.2.2.2.1, f1.2.2.2.2.2⟩
  · rw [List.mem_singleton.mp hb]
    exact ⟨f2.2.2.2.1, f2.2.1, f2.2.2.2.2.1, f2.2.2.2.2.2⟩
theorem turn_enum {P : Program} {w : World} {K : PySem.W.Frag} {elts : List Expr} {kt : Nat} {pt : Pos} (a en it : Addr) (n : Nat) (hne : en ≠ it) (hae : a ≠ en) (hai : a ≠ it) : Turn P w K (.Tuple elts kt pt) (Ite K a n) [en, it] en (fun i h => (∃ old, IsEnum h en it i old) ∧ h.IsListIter it a i) where
  mem := by simp
  obj := fun i h st b hb => by
    rcases List.mem_cons.mp hb with rfl | hb
    · obtain ⟨old, e⟩ := st.1
      exact ⟨_, e, fun v z => by
        have z' : Data.fields _ = Data.cell v := z
        cases z'⟩
    · rw [List.mem_singleton.mp hb]
      obtain ⟨o, e, c, d⟩ := st.2
      exact ⟨o, e, fun v z => by rw [d] at z; cases z⟩
  keep := fun i h h' st k => ⟨let ⟨old, e⟩ := st.1; ⟨old, k en (by simp) _ e⟩, st.2.at fun o e => k it (by simp) o e⟩
  item := by
    intro X hP hw hK hc i pins s σ H E I hf st hg
    subst hP hw hK
    obtain ⟨xs, hq, hl, hi⟩ := hg
    obtain ⟨its, rv, p, hz⟩ := I.list hq
    have hlen := rv.length
    have fe := hf en (by simp)
    have fi := hf it (by simp)
    have W := WalksT.enumerateD (prog := X.prog) (w := X.w) (A := X.A) (Draws.list (A := X.A.in1) (I.ok.hd hc) it a hai its.toArray) en hne (by simp [hne, Ne.symm hae]) (by simp)
    refine W.item i s _ _ (by rw [List.size_toArray]; omega) ⟨st.1, st.2, p.isList⟩ fun T vals h1 tk hP hT ht mid k1 => ?_
    obtain ⟨t, x, hx, rfl⟩ := hP
    refine ⟨_, rfl, W.go elts kt pt i T _ _ _ mid fun h2 st2 k2 => ?_⟩
    have hx' : its[i]? = some x := by simpa using hx
    have hxs : i < xs.length := by omega
    obtain ⟨u, hu, ru⟩ := rv.get (List.getElem?_eq_getElem hxs)
    rw [hx'] at hu
    cases hu
    have hTw : T ∉ [en, it] := W.apart i T _ mid
    have ht2 : h2.IsTuple T ([.int i t, x] : List Value).toArray := by
      obtain ⟨o, eo, r⟩ := ht
      exact ⟨o, k2 T o hTw eo, r⟩
    have kk : ∀ b o, b ≠ en → b ≠ it → s.heap.get? b = some o → h2.get? b = some o := fun b o h1 h3 e => k2 b o (by simp [h1, h3]) (k1 b o (by simp [h1, h3]) e)
    have I2 := I.pair (tk := tk) (T := T) (xs := [.int i, xs[i]]) fe fi kk hT (.cons ⟨t, rfl⟩ (.cons ru .nil)) (by show 2 ≤ sizeLine; decide) ht2
    refine ⟨.ref T, _, I2, rfl, ⟨T, xs[i], I.hok.fresh hT, fun ys hy => by rw [I.list_inj hy hq]; exact List.getElem?_eq_getElem hxs, rfl, rfl⟩, ⟨st2.1, st2.2.1⟩, fun b hb => ?_⟩
    have hb' : b ≠ T := fun z => hTw (z ▸ hb)
    rw [upd_ne hb']
    exact (hf b hb).1
  done := by
    intro X hP hw hK hc i pins s σ H E I hf st hg
    subst hP hw hK
    obtain ⟨rfl, xs, hq, hl⟩ := hg
    obtain ⟨its, rv, p, hz⟩ := I.list hq
    have hlen := rv.length
    have fe := hf en (by simp)
    have fi := hf it (by simp)
    have W := WalksT.enumerateD (prog := X.prog) (w := X.w) (A := X.A) (Draws.list (A := X.A.in1) (I.ok.hd hc) it a hai its.toArray) en hne (by simp [hne, Ne.symm hae]) (by simp)
    have e : i = its.toArray.size := by rw [List.size_toArray]; omega
    rw [e] at st
    exact W.done s _ _ ⟨st.1, st.2, p.isList⟩ fun h' tk kk => ⟨rfl, I.turned2 (fun b o h1 h2 e => kk b o (by simp [h1, h2]) e) fe fi⟩
  self := fun A i s Q E st h => by
    obtain ⟨old, e⟩ := st.1
    exact wpAny_pyIter_enum e h
section
variable {X : Cx}
noncomputable def iEnum (K : PySem.W.Frag) (ta : TA) : TI := fun σ H R => ta σ H fun vs H1 => ∃ a xs, vs = [.ref a] ∧ SqL K H1 a xs ∧ R (Ite K a xs.length) H1
theorem qi_enum {elts : List Expr} {kt : Nat} {pt : Pos} {e : Expr} {ta : TA} {p pos : Pos} (hg : Gl X "enumerate") (hm : X.mg "enumerate" = none) (ha : QA X [e] ta) (hs : starEach [e] X.env = [(false, eval e X.env)] := by rfl) : QI X (.Tuple elts kt pt) (.Call (.Name "enumerate" p) [e] [] pos) (iEnum X.K ta) := by
  refine ⟨fun pins s σ H R I h => ?_⟩
  refine Call_ (ld_blt I hg hm PyProof.Rows.boot_enumerate (PyProof.Rows.callWith_type1 (thn (ha.run pos pins s σ H _ I h) fun us s1 ⟨vs, H1, I1, r1, q1⟩ => ?_) hs rfl))
  obtain ⟨l, xs, e1, hq, q⟩ := q1
  subst e1
  cases r1 with
  | cons r rr =>
    cases rr
    cases r
    obtain ⟨its, rv, pl, hz⟩ := I1.list hq
    have hlt : l < s1.heap.objs.size := by obtain ⟨o, e, _⟩ := pl.isList; exact Heap.lt_size e
    refine call_enumerate_list pl.isList fun h' hen hit hsz hk => ?_
    refine wpAny_pyIter_enum hen ?_
    have fe := I1.fpOk (b := s1.heap.objs.size + 1) (Nat.le_succ _) (I1.hok.fresh (Nat.le_succ _))
    have fi := I1.fpOk (b := s1.heap.objs.size) (Nat.le_refl _) (I1.hok.fresh (Nat.le_refl _))
    refine ⟨s1.heap.objs.size + 1, [s1.heap.objs.size + 1, s1.heap.objs.size], _, _, H1, rfl, I1.kept (t' := s1.toks) hk, turn_enum l _ _ xs.length (Nat.succ_ne_self _) (Nat.ne_of_lt (Nat.lt_succ_of_lt hlt)) (Nat.ne_of_lt hlt), ⟨⟨_, hen⟩, hit⟩, fun b hb => ?_, q⟩
    rcases List.mem_cons.mp hb with rfl | hb
    · exact fe
    · rw [List.mem_singleton.mp hb]
      exact fi
theorem for_enum {K : PySem.W.Frag} {a : Addr} {xs : List V} {g : TG} {tb : TS} {D : Ends} {σ : St} {H : Hp} (Pv : Nat → St → Hp → Prop) (h0 : Pv 0 σ H) (hl : ∀ i σ H, i ≤ xs.length → Pv i σ H → SqL K H a xs)
    (hs : ∀ i x t σ H, xs[i]? = some x → H t = none → Pv i σ H → g (.ref t) σ (upd H t (.tup [.int i, x])) fun σ2 H2 => tb { D with nx := Pv (i + 1), ct := Pv (i + 1), bk := D.nx } σ2 H2) (hd : ∀ σ H, Pv xs.length σ H → D.nx σ H) :
    ∃ W : Nat → Nat → St → Hp → Prop, (∃ m, W 0 m σ H) ∧ ∀ i m σ H, W i m σ H →
      ((Ite K a xs.length).stop i H ∧ D.nx σ H) ∨ ((Ite K a xs.length).go i H ∧ ∃ N : St → Hp → Prop, (∀ σ' H', N σ' H' → ∃ m', m' < m ∧ W (i + 1) m' σ' H') ∧ ∀ x H', (Ite K a xs.length).yld i H x H' → g x σ H' fun σ2 H2 => tb { D with nx := N, ct := N, bk := D.nx } σ2 H2) := by
  refine ⟨fun i m σ H => m = xs.length - i ∧ i ≤ xs.length ∧ Pv i σ H, ⟨xs.length, by simp, Nat.zero_le _, h0⟩, ?_⟩
  rintro i m σ H ⟨rfl, hi, p⟩
  have q := hl i σ H hi p
  by_cases hlt : i < xs.length
  · refine .inr ⟨⟨xs, q, rfl, hlt⟩, Pv (i + 1), fun σ' H' p' => ⟨xs.length - (i + 1), by omega, rfl, hlt, p'⟩, fun x H' y => ?_⟩
    obtain ⟨t, y, ht, hy, rfl, rfl⟩ := y
    exact hs i y t σ _ (hy xs q) ht p
  · have e : i = xs.length := by omega
    subst e
    exact .inl ⟨⟨rfl, xs, q, rfl⟩, hd σ H p⟩
end
end L2

set_option Elab.async false
set_option linter.all false
set_option maxRecDepth 100000
set_option maxHeartbeats 4000000
namespace L2
open PySem PySem.SeqAt
open PySem.AutoSeq1 (wpAny_loadPart')
open PySem.MeetsSeq PySem.MeetsSeq2 PySem.MeetsSeq3 PySem.SeqRoads2
theorem ne_loopAt (l b : Addr) (items items2 : Array Value) (n n2 : Nat) (dd dd2 : Option Addr) (sl sl2 : Array (Option Value)) (hsz : items.size = items2.size) (e : Nat → Bool) (k : Nat) :
    ∀ i : Nat, items.size - i = k → Meets (Builtin.«list.__eq__.loop» ⟨[.ref l, .ref b, rawInt i, rawInt 3], []⟩)
      (fun A R s => s.heap.get? l = some { cls := .type "list", dict := dd, data := .seq items n, slots := sl } ∧ s.heap.get? b = some { cls := .type "list", dict := dd2, data := .seq items2 n2, slots := sl2 } ∧
        (∀ j (h1 : j < items.size) (h2 : j < items2.size), EqAt A.in1 s items[j] items2[j] (e j)) ∧
        R (.ok (.ret (.bool (!((List.range items.size).drop i).all e)))) s) := by
  induction k with
  | zero =>
    intro i hk prog w A R s h
    obtain ⟨hp, g, d, tk, os⟩ := s; obtain ⟨hl, hb, he, h⟩ := h
    wp_walk using wpAny_loadPart' hl, wpAny_loadPart' hb
    have hi1 : items[((i : Nat) : Int).toNat]? = none := by simp; omega
    have hi2 : items2[((i : Nat) : Int).toNat]? = none := by simp; omega
    have hd : (List.range items.size).drop i = [] := by simp; omega
    rw [hd] at h
    rw [hi1, hi2]
    wp_walk using wpAny_loadPart' hl, wpAny_loadPart' hb
    show R (.ok (.ret (.bool (items.size != items2.size)))) _
    rw [hsz]
    simpa using h
  | succ k ih =>
    intro i hk prog w A R s h
    obtain ⟨hp, g, d, tk, os⟩ := s; obtain ⟨hl, hb, he, h⟩ := h
    wp_walk using wpAny_loadPart' hl, wpAny_loadPart' hb
    have hlt : i < items.size := by omega
    have hlt2 : i < items2.size := by omega
    have hi1 : items[((i : Nat) : Int).toNat]? = some items[i] := by simp [hlt]
    have hi2 : items2[((i : Nat) : Int).toNat]? = some items2[i] := by simp [hlt2]
    have hd : (List.range items.size).drop i = i :: (List.range items.size).drop (i + 1) := by simp [List.drop_eq_getElem_cons, hlt]
    have hc : ((i : Int) + 1) = ((i + 1 : Nat) : Int) := by push_cast; rfl
    rw [hd, List.all_cons] at h
    rw [hi1, hi2]
    refine wpAny_bind (he i hlt hlt2 prog w _ _ ?_)
    cases hb' : e i with
    | true =>
      rw [hb'] at h
      wp_walk
      rw [hc]
      exact ⟨plainId_quiet plain_eq_loop _, codeAny_builtin entry_eq_loop (by
        rw [Around.under_plainId plain_eq_loop _]
        exact ih (i + 1) (by omega) prog w A R _ ⟨hl, hb, he, by simpa using h⟩)⟩
    | false =>
      rw [hb'] at h
      wp_walk using wpAny_loadPart' hl, wpAny_loadPart' hb
      rw [hi1, hi2]
      wp_walk
      simpa using h
theorem list_neAt (l b : Addr) (items items2 : Array Value) (n n2 : Nat) (dd dd2 : Option Addr) (sl sl2 : Array (Option Value)) (hsz : items.size = items2.size) (e : Nat → Bool) :
    Meets (Builtin.«list.__ne__» ⟨[.ref l, .ref b], []⟩)
      (fun A R s => s.heap.get? l = some { cls := .type "list", dict := dd, data := .seq items n, slots := sl } ∧ s.heap.get? b = some { cls := .type "list", dict := dd2, data := .seq items2 n2, slots := sl2 } ∧
        (∀ j (h1 : j < items.size) (h2 : j < items2.size), EqAt A.in1 s items[j] items2[j] (e j)) ∧
        R (.ok (.ret (.bool (!(List.range items.size).all e)))) s) := by
  intro prog w A R s h
  obtain ⟨hp, g, d, tk, os⟩ := s; obtain ⟨hl, hb, he, h⟩ := h
  have f3 := PySem.AutoSeq1.sub_list_list
  have hne : ¬ (items.size != items2.size) = true := by simp [hsz]
  wp_walk using wpAny_loadPart' hl, wpAny_loadPart' hb
  exact ⟨plainId_quiet plain_eq_loop _, codeAny_builtin entry_eq_loop (by
    rw [Around.under_plainId plain_eq_loop _]
    exact ne_loopAt l b items items2 n n2 dd dd2 sl sl2 hsz e _ 0 rfl prog w A R _ ⟨hl, hb, he, by simpa using h⟩)⟩
theorem tuple_neAt (l b : Addr) (items items2 : Array Value) (n n2 : Nat) (dd dd2 : Option Addr) (sl sl2 : Array (Option Value)) (e : Nat → Bool) :
    Meets (Builtin.«tuple.__ne__» ⟨[.ref l, .ref b], []⟩)
      (fun A R s => s.heap.get? l = some { cls := .type "tuple", dict := dd, data := .seq items n, slots := sl } ∧ s.heap.get? b = some { cls := .type "tuple", dict := dd2, data := .seq items2 n2, slots := sl2 } ∧
        (∀ j (h1 : j < items.size) (h2 : j < items2.size), EqAt A.in1 s items[j] items2[j] (e j)) ∧
        R (.ok (.ret (.bool (!((List.range (min items.size items2.size)).all e && items.size == items2.size))))) s) :=
  .of_wp fun prog w A R s h => by
    obtain ⟨hp, g, d, tk, os⟩ := s; obtain ⟨hl, hb, he, h⟩ := h
    have f2 := PySem.AutoSeq1.sub_tuple_tuple
    have hZ : (items.toList.zip items2.toList).length = min items.size items2.size := by simp
    wp_walk using wpAny_loadPart' hl, wpAny_loadPart' hb, wpAny_forIn_list _ (fun rest b s' => b.1 = none ∧ s' = ⟨hp, g, d, tk, os⟩ ∧ ∃ i, rest = (items.toList.zip items2.toList).drop i ∧
      R (.ok (.ret (.bool (!(((List.range (min items.size items2.size)).drop i).all e && items.size == items2.size))))) ⟨hp, g, d, tk, os⟩) _
    case turn =>
      rintro ⟨y, x⟩ rest b s' ⟨hb', rfl, i, hz, hR⟩
      have hlt : i < (items.toList.zip items2.toList).length := by
        rcases Nat.lt_or_ge i (items.toList.zip items2.toList).length with h' | h'
        · exact h'
        · rw [List.drop_of_length_le h'] at hz; cases hz
      have hm : i < min items.size items2.size := hZ ▸ hlt
      have h1 : i < items.size := Nat.lt_of_lt_of_le hm (Nat.min_le_left _ _)
      have h2 : i < items2.size := Nat.lt_of_lt_of_le hm (Nat.min_le_right _ _)
      rw [List.drop_eq_getElem_cons hlt] at hz
      injection hz with hyx hrest
      have hy : y = items[i] := by have := congrArg Prod.fst hyx; simpa using this
      have hx : x = items2[i] := by have := congrArg Prod.snd hyx; simpa using this
      subst hy hx
      have hd : (List.range (min items.size items2.size)).drop i = i :: (List.range (min items.size items2.size)).drop (i + 1) := by simp [List.drop_eq_getElem_cons, hm]
      rw [hd, List.all_cons] at hR
      refine wpAny_bind (he i h1 h2 prog w _ _ ?_)
      cases hy : e i with
      | true =>
        rw [hy] at hR
        wp_walk
        exact ⟨rfl, rfl, i + 1, hrest, by simpa using hR⟩
      | false =>
        rw [hy] at hR
        wp_walk
        exact ⟨_, rfl, by simpa using hR⟩
    case fin =>
      rintro ⟨b1, b2⟩ s' ⟨hb', rfl, i, hz, hR⟩
      simp only at hb'
      subst hb'
      have hge : min items.size items2.size ≤ i := by
        rcases Nat.lt_or_ge i (items.toList.zip items2.toList).length with h' | h'
        · rw [List.drop_eq_getElem_cons h'] at hz; cases hz
        · exact hZ ▸ h'
      rw [List.drop_of_length_le (by simpa using hge)] at hR
      wp_walk
      exact ⟨_, rfl, by simpa [Builtin.Tuple.tupleCompareSizes, bne] using hR⟩
    case h =>
      exact ⟨rfl, rfl, 0, rfl, by simpa using h⟩
section
variable {prog : Program} {w : World} {A : Around} {E : Value → Shared → Prop} {s : Shared}
theorem ne_listsAt {l b : Addr} {items items2 : Array Value} {e : Nat → Bool} {Q : Value → Shared → Prop} (hl : s.heap.IsList l items) (hb : s.heap.IsList b items2) (hsz : items.size = items2.size) (hu : A.units < cLine)
    (he : ∀ j (h1 : j < items.size) (h2 : j < items2.size), EqAt A.in1 s items[j] items2[j] (e j)) (h : Q (.bool (!(List.range items.size).all e)) s) : wpAny (model prog w) A (compareOp .NotEq (.ref l) (.ref b)) Q E s := by
  obtain ⟨⟨cls, dd, data, sl⟩, ho, hc, n, hd⟩ := id hl
  obtain ⟨⟨cls2, dd2, data2, sl2⟩, ho2, hc2, n2, hd2⟩ := id hb
  simp only at hc hd hc2 hd2
  subst hc hd hc2 hd2
  exact richCompare_meets_room (op := .NotEq) ⟨_, ho, rfl⟩ ⟨_, ho2, rfl⟩ F.slot_list_ne F.entry_list_ne (F.args_list_ne_2 _ _) (list_neAt l b items items2 n n2 dd dd2 sl sl2 hsz e)
    ⟨ho, ho2, he, show Value.bool (!(List.range items.size).all e) ≠ Value.notImplemented ∧ Q (.bool (!(List.range items.size).all e)) s from ⟨(fun x => nomatch x), h⟩⟩ hu
theorem ne_tuplesAt {l b : Addr} {items items2 : Array Value} {e : Nat → Bool} {Q : Value → Shared → Prop} (hl : s.heap.IsTuple l items) (hb : s.heap.IsTuple b items2) (hu : A.units < cLine)
    (he : ∀ j (h1 : j < items.size) (h2 : j < items2.size), EqAt A.in1 s items[j] items2[j] (e j)) (h : Q (.bool (!((List.range (min items.size items2.size)).all e && items.size == items2.size))) s) : wpAny (model prog w) A (compareOp .NotEq (.ref l) (.ref b)) Q E s := by
  obtain ⟨⟨cls, dd, data, sl⟩, ho, hc, n, hd⟩ := id hl
  obtain ⟨⟨cls2, dd2, data2, sl2⟩, ho2, hc2, n2, hd2⟩ := id hb
  simp only at hc hd hc2 hd2
  subst hc hd hc2 hd2
  exact richCompare_meets_room (op := .NotEq) ⟨_, ho, rfl⟩ ⟨_, ho2, rfl⟩ F.slot_tuple_ne F.entry_tuple_ne (F.args_tuple_ne_2 _ _) (tuple_neAt l b items items2 n n2 dd dd2 sl sl2 e)
    ⟨ho, ho2, he, show Value.bool (!((List.range (min items.size items2.size)).all e && items.size == items2.size)) ≠ Value.notImplemented ∧ Q (.bool (!((List.range (min items.size items2.size)).all e && items.size == items2.size))) s from ⟨(fun x => nomatch x), h⟩⟩ hu
end
end L2

set_option Elab.async false
set_option linter.all false
set_option maxRecDepth 100000
set_option maxHeartbeats 4000000
namespace L2
open PySem PySem.Spec PyProof.Rows
inductive Dt where
  | flat (v : V)
  | tup (ds : List Dt)
  | lst (ds : List Dt)
inductive IsD (K : PySem.W.Frag) (H : Hp) : Nat → V → Dt → Prop where
  | flat {n : Nat} {v : V} (h : flatV v = true) : IsD K H n v (.flat v)
  | tup {n : Nat} {a : Addr} {vs : List V} {ds : List Dt} (q : SqT K H a vs) (l : vs.length = ds.length) (h : ∀ (j : Nat) (v : V) (d : Dt), vs[j]? = some v → ds[j]? = some d → IsD K H n v d) : IsD K H (n + 1) (.ref a) (.tup ds)
  | lst {n : Nat} {a : Addr} {vs : List V} {ds : List Dt} (q : SqL K H a vs) (l : vs.length = ds.length) (h : ∀ (j : Nat) (v : V) (d : Dt), vs[j]? = some v → ds[j]? = some d → IsD K H n v d) : IsD K H (n + 1) (.ref a) (.lst ds)
theorem IsD.same {K : PySem.W.Frag} {H H' : Hp} {n : Nat} {v : V} {d : Dt} (h : IsD K H n v d) (e : Same H H') : IsD K H' n v d := by
  induction h with
  | flat h => exact .flat h
  | tup q l _ ih => exact .tup (e.tup q) l ih
  | lst q l _ ih => exact .lst (e.seq q) l ih
theorem IsD.up {K : PySem.W.Frag} {H : Hp} {n m : Nat} {v : V} {d : Dt} (h : IsD K H n v d) (hm : n ≤ m) : IsD K H m v d := by
  induction h generalizing m with
  | flat h => exact .flat h
  | tup q l _ ih =>
    obtain ⟨k, rfl⟩ : ∃ k, m = k + 1 := ⟨m - 1, by omega⟩
    exact .tup q l fun j v d e1 e2 => ih j v d e1 e2 (by omega)
  | lst q l _ ih =>
    obtain ⟨k, rfl⟩ : ∃ k, m = k + 1 := ⟨m - 1, by omega⟩
    exact .lst q l fun j v d e1 e2 => ih j v d e1 e2 (by omega)
theorem eqV_self {v : V} (h : flatV v = true) : eqV v v = true := by
  cases v with
  | non => rfl
  | bl b => simp [eqV]
  | int i => simp [eqV]
  | str x => simp [eqV]
  | byt _ => cases h
  | flt _ => cases h
  | ref _ => cases h
  | ty _ => cases h
section
variable {X : Cx} {pins : List (Addr × Obj)} {σ : St} {H : Hp} {s : Shared}
theorem eqAt_same (I : Inv X pins σ H s) : ∀ {n : Nat} {x y : V} {d : Dt}, IsD X.K H n x d → IsD X.K H n y d → ∀ {A : Around} {u v : Value}, RelV x u → RelV y v → A.units + n < cLine → SeqAt.EqAt A s u v true := by
  intro n
  induction n with
  | zero =>
    intro x y d hx hy A u v rx ry hu
    cases hx with
    | flat fx =>
      cases hy with
      | flat fy =>
        have := eqAt_V (A := A) (s := s) rx ry fx fy
        rw [eqV_self fx] at this
        exact this
  | succ n ih =>
    intro x y d hx hy A u v rx ry hu
    cases hx with
    | flat fx =>
      cases hy with
      | flat fy =>
        have := eqAt_V (A := A) (s := s) rx ry fx fy
        rw [eqV_self fx] at this
        exact this
    | @tup _ a vs ds q l h =>
      cases hy with
      | @tup _ b ws _ q' l' h' =>
        cases rx
        cases ry
        by_cases hab : a = b
        · subst hab
          exact SeqAt.EqAt.same _
        obtain ⟨its, r1, p1, _⟩ := I.tuple q
        obtain ⟨its2, r2, p2, _⟩ := I.tuple q'
        have l1 := r1.length
        have l2 := r2.length
        have := SeqAt.RcAt.tuples (A := A) (e := fun _ => true) (show s.heap.IsTuple a its.toArray from p1) (show s.heap.IsTuple b its2.toArray from p2) (by omega) fun j h1 h2 => by
          have h1' : j < vs.length := by simp only [List.size_toArray] at h1; omega
          have h2' : j < ws.length := by simp only [List.size_toArray] at h2; omega
          obtain ⟨u1, g1, k1⟩ := r1.get (List.getElem?_eq_getElem h1')
          obtain ⟨u2, g2, k2⟩ := r2.get (List.getElem?_eq_getElem h2')
          have e1 : its.toArray[j] = u1 := by
            have : its[j]? = some its[j] := by simp
            rw [this] at g1
            simpa using g1
          have e2 : its2.toArray[j] = u2 := by
            have : its2[j]? = some its2[j] := by simp
            rw [this] at g2
            simpa using g2
          rw [e1, e2]
          have hd : j < ds.length := by omega
          exact ih (h j _ _ (List.getElem?_eq_getElem h1') (List.getElem?_eq_getElem hd)) (h' j _ _ (List.getElem?_eq_getElem h2') (List.getElem?_eq_getElem hd)) k1 k2 (by show A.units + 1 + n < cLine; omega)
        have e : ((List.range (min its.toArray.size its2.toArray.size)).all (fun _ => true) && its.toArray.size == its2.toArray.size) = true := by
          have : its.toArray.size = its2.toArray.size := by simp only [List.size_toArray]; omega
          rw [this]
          simp
        rw [e] at this
        exact SeqAt.EqAt.of_refs hab this
    | @lst _ a vs ds q l h =>
      cases hy with
      | @lst _ b ws _ q' l' h' =>
        cases rx
        cases ry
        by_cases hab : a = b
        · subst hab
          exact SeqAt.EqAt.same _
        obtain ⟨its, r1, p1, _⟩ := I.list q
        obtain ⟨its2, r2, p2, _⟩ := I.list q'
        have l1 := r1.length
        have l2 := r2.length
        have := SeqAt.RcAt.lists (A := A) (e := fun _ => true) p1.isList p2.isList (by simp only [List.size_toArray]; omega) (by omega) fun j h1 h2 => by
          have h1' : j < vs.length := by simp only [List.size_toArray] at h1; omega
          have h2' : j < ws.length := by simp only [List.size_toArray] at h2; omega
          obtain ⟨u1, g1, k1⟩ := r1.get (List.getElem?_eq_getElem h1')
          obtain ⟨u2, g2, k2⟩ := r2.get (List.getElem?_eq_getElem h2')
          have e1 : its.toArray[j] = u1 := by
            have : its[j]? = some its[j] := by simp
            rw [this] at g1
            simpa using g1
          have e2 : its2.toArray[j] = u2 := by
            have : its2[j]? = some its2[j] := by simp
            rw [this] at g2
            simpa using g2
          rw [e1, e2]
          have hd : j < ds.length := by omega
          exact ih (h j _ _ (List.getElem?_eq_getElem h1') (List.getElem?_eq_getElem hd)) (h' j _ _ (List.getElem?_eq_getElem h2') (List.getElem?_eq_getElem hd)) k1 k2 (by show A.units + 1 + n < cLine; omega)
        have e : (List.range its.toArray.size).all (fun _ => true) = true := by simp
        rw [e] at this
        exact SeqAt.EqAt.of_refs hab this
theorem itemsAt (I : Inv X pins σ H s) {n : Nat} {A : Around} {vs ws : List V} {its its2 : List Value} {ds : List Dt} (r1 : Vals vs its) (r2 : Vals ws its2) (l : vs.length = ds.length) (l' : ws.length = ds.length)
    (h : ∀ (j : Nat) (v : V) (d : Dt), vs[j]? = some v → ds[j]? = some d → IsD X.K H n v d) (h' : ∀ (j : Nat) (v : V) (d : Dt), ws[j]? = some v → ds[j]? = some d → IsD X.K H n v d) (hu : A.units + n < cLine) :
    ∀ j (h1 : j < its.toArray.size) (h2 : j < its2.toArray.size), SeqAt.EqAt A s its.toArray[j] its2.toArray[j] ((fun _ => true) j) := fun j h1 h2 => by
  have l1 := r1.length
  have l2 := r2.length
  have h1' : j < vs.length := by simp only [List.size_toArray] at h1; omega
  have h2' : j < ws.length := by simp only [List.size_toArray] at h2; omega
  obtain ⟨u1, g1, k1⟩ := r1.get (List.getElem?_eq_getElem h1')
  obtain ⟨u2, g2, k2⟩ := r2.get (List.getElem?_eq_getElem h2')
  have e1 : its.toArray[j] = u1 := by
    have : its[j]? = some its[j] := by simp
    rw [this] at g1
    simpa using g1
  have e2 : its2.toArray[j] = u2 := by
    have : its2[j]? = some its2[j] := by simp
    rw [this] at g2
    simpa using g2
  rw [e1, e2]
  have hd : j < ds.length := by omega
  exact eqAt_same I (h j _ _ (List.getElem?_eq_getElem h1') (List.getElem?_eq_getElem hd)) (h' j _ _ (List.getElem?_eq_getElem h2') (List.getElem?_eq_getElem hd)) k1 k2 hu
end
section
variable {X : Cx}
noncomputable def rEqD (K : PySem.W.Frag) (b : Bool) : R2 := fun x y H Q => ∃ (a c : Addr) (n : Nat) (d : Dt), x = .ref a ∧ y = .ref c ∧ n ≤ 190 ∧ IsD K H n x d ∧ IsD K H n y d ∧ Q (.bl b) H
theorem op_eqD (hu : X.A.units + 200 < cLine) : OpR X (compareOp .Eq) (rEqD X.K true) := by
  intro pins s σ H x y v u Q I rx ry h
  obtain ⟨a, c, n, d, rfl, rfl, hn, hx, hy, q⟩ := h
  cases rx
  cases ry
  cases hx with
  | flat fx => cases fx
  | @tup n _ vs ds qx l hd =>
    cases hy with
    | @tup _ _ ws _ qy l' hd' =>
      obtain ⟨its, r1, p1, _⟩ := I.tuple qx
      obtain ⟨its2, r2, p2, _⟩ := I.tuple qy
      have l1 := r1.length
      have l2 := r2.length
      refine SeqAt.eq_tupleAt (e := fun _ => true) (show s.heap.IsTuple a its.toArray from p1) (show s.heap.IsTuple c its2.toArray from p2) (by omega) (itemsAt I r1 r2 l l' hd hd' (by show X.A.units + 1 + n < cLine; omega)) ?_
      have e : ((List.range (min its.toArray.size its2.toArray.size)).all (fun _ => true) && its.toArray.size == its2.toArray.size) = true := by
        have : its.toArray.size = its2.toArray.size := by simp only [List.size_toArray]; omega
        rw [this]
        simp
      rw [e]
      exact ⟨.bl true, H, I, rfl, q⟩
  | @lst n _ vs ds qx l hd =>
    cases hy with
    | @lst _ _ ws _ qy l' hd' =>
      obtain ⟨its, r1, p1, _⟩ := I.list qx
      obtain ⟨its2, r2, p2, _⟩ := I.list qy
      have l1 := r1.length
      have l2 := r2.length
      refine SeqAt.eq_listAt (e := fun _ => true) p1.isList p2.isList (by simp only [List.size_toArray]; omega) (by omega) (itemsAt I r1 r2 l l' hd hd' (by show X.A.units + 1 + n < cLine; omega)) ?_
      have e : (List.range its.toArray.size).all (fun _ => true) = true := by simp
      rw [e]
      exact ⟨.bl true, H, I, rfl, q⟩
theorem op_neD (hu : X.A.units + 200 < cLine) : OpR X (compareOp .NotEq) (rEqD X.K false) := by
  intro pins s σ H x y v u Q I rx ry h
  obtain ⟨a, c, n, d, rfl, rfl, hn, hx, hy, q⟩ := h
  cases rx
  cases ry
  cases hx with
  | flat fx => cases fx
  | @tup n _ vs ds qx l hd =>
    cases hy with
    | @tup _ _ ws _ qy l' hd' =>
      obtain ⟨its, r1, p1, _⟩ := I.tuple qx
      obtain ⟨its2, r2, p2, _⟩ := I.tuple qy
      have l1 := r1.length
      have l2 := r2.length
      refine ne_tuplesAt (e := fun _ => true) (show s.heap.IsTuple a its.toArray from p1) (show s.heap.IsTuple c its2.toArray from p2) (by omega) (itemsAt I r1 r2 l l' hd hd' (by show X.A.units + 1 + n < cLine; omega)) ?_
      have e : (!((List.range (min its.toArray.size its2.toArray.size)).all (fun _ => true) && its.toArray.size == its2.toArray.size)) = false := by
        have : its.toArray.size = its2.toArray.size := by simp only [List.size_toArray]; omega
        rw [this]
        simp
      rw [e]
      exact ⟨.bl false, H, I, rfl, q⟩
  | @lst n _ vs ds qx l hd =>
    cases hy with
    | @lst _ _ ws _ qy l' hd' =>
      obtain ⟨its, r1, p1, _⟩ := I.list qx
      obtain ⟨its2, r2, p2, _⟩ := I.list qy
      have l1 := r1.length
      have l2 := r2.length
      refine ne_listsAt (e := fun _ => true) p1.isList p2.isList (by simp only [List.size_toArray]; omega) (by omega) (itemsAt I r1 r2 l l' hd hd' (by show X.A.units + 1 + n < cLine; omega)) ?_
      have e : (!(List.range its.toArray.size).all (fun _ => true)) = false := by simp
      rw [e]
      exact ⟨.bl false, H, I, rfl, q⟩
noncomputable def rEqA (K : PySem.W.Frag) : R2 := fun x y H Q => rEq x y H Q ∨ rEqD K true x y H Q
noncomputable def rNeA (K : PySem.W.Frag) : R2 := fun x y H Q => rNe x y H Q ∨ rEqD K false x y H Q
theorem op_eqA (hu : X.A.units + 200 < cLine) : OpR X (compareOp .Eq) (rEqA X.K) := op_eq.or (op_eqD hu)
theorem op_neA (hu : X.A.units + 200 < cLine) : OpR X (compareOp .NotEq) (rNeA X.K) := op_ne.or (op_neD hu)
theorem s_eq {K : PySem.W.Frag} {x y : V} {H : Hp} {Q : VK} (hs : scal x y = true) (h : Q (.bl (decide (x = y))) H) : rEqA K x y H Q := .inl ⟨hs, h⟩
theorem s_ne {K : PySem.W.Frag} {x y : V} {H : Hp} {Q : VK} (hs : scal x y = true) (h : Q (.bl (!decide (x = y))) H) : rNeA K x y H Q := .inl ⟨hs, h⟩
theorem s_eqD {K : PySem.W.Frag} {a c : Addr} {H : Hp} {Q : VK} {n : Nat} {d : Dt} (hn : n ≤ 190) (hx : IsD K H n (.ref a) d) (hy : IsD K H n (.ref c) d) (h : Q (.bl true) H) : rEqA K (.ref a) (.ref c) H Q := .inr ⟨a, c, n, d, rfl, rfl, hn, hx, hy, h⟩
theorem s_neD {K : PySem.W.Frag} {a c : Addr} {H : Hp} {Q : VK} {n : Nat} {d : Dt} (hn : n ≤ 190) (hx : IsD K H n (.ref a) d) (hy : IsD K H n (.ref c) d) (h : Q (.bl false) H) : rNeA K (.ref a) (.ref c) H Q := .inr ⟨a, c, n, d, rfl, rfl, hn, hx, hy, h⟩
theorem Room.u200 {k : Nat} {A : Around} (r : Room k A) : A.units + 200 < cLine := by have := r.un; omega
end
end L2

set_option Elab.async false
set_option linter.all false
set_option maxRecDepth 100000
set_option maxHeartbeats 4000000
namespace L2
open PySem PySem.Spec PyProof.Rows
section
variable {t u : TS} {c d : TT} {te ta tb tc : TE} {g : TG} {gs : TGs} {ts : TA} {D : Ends} {σ : St} {H : Hp} {Q : VK} {QB : Bool → Hp → Prop} {QA' : List V → Hp → Prop}
theorem s_seq (h : t { D with nx := u D } σ H) : tSeq t u D σ H := h
theorem s_asg (h : te σ H fun x H1 => g x σ H1 D.nx) : tAsg te g D σ H := h
theorem s_ret (h : te σ H D.rt) : tRet te D σ H := h
theorem s_drop (h : te σ H fun _ H1 => D.nx σ H1) : tDrop te D σ H := h
theorem s_next (h : D.nx σ H) : tNext D σ H := h
theorem s_ifS (h : c σ H fun b H1 => if b = true then t D σ H1 else u D σ H1) : tIfS c t u D σ H := h
theorem s_var {i : Nat} {v : V} (e : σ[i]? = some (some v)) (h : Q v H) : tVar i σ H Q := ⟨v, e, h⟩
theorem s_c {v : V} (h : Q v H) : tC v σ H Q := h
theorem s_op {r : R2} (h : ta σ H fun x H1 => tb σ H1 fun y H2 => r x y H2 Q) : tOp r ta tb σ H Q := h
theorem s_un {r : V → Hp → VK → Prop} (h : ta σ H fun x H1 => r x H1 Q) : tUn r ta σ H Q := h
theorem s_test (h : te σ H fun x H' => ∃ k, x = .bl k ∧ QB k H') : tTest te σ H QB := h
theorem s_tB (h : te σ H fun x H' => ∃ k, x = .bl k ∧ QB k H') : tB te σ H QB := h
theorem s_ex {b : Bool} {P : Bool → Prop} (h : P b) : ∃ k, V.bl b = V.bl k ∧ P k := ⟨b, rfl, h⟩
theorem s_exi {i : Int} {P : Int → Prop} (h : P i) : ∃ k, V.int i = V.int k ∧ P k := ⟨i, rfl, h⟩
theorem s_not (h : c σ H fun b H1 => QB (!b) H1) : tNot c σ H QB := h
theorem s_and (h : c σ H fun b H1 => if b = true then d σ H1 QB else QB false H1) : tAnd c d σ H QB := h
theorem s_or (h : c σ H fun b H1 => if b = true then QB true H1 else d σ H1 QB) : tOr c d σ H QB := h
theorem s_andV (h : ta σ H fun x H1 => ∃ k, x = .bl k ∧ if k = true then tb σ H1 Q else Q (.bl false) H1) : tAndV ta tb σ H Q := h
theorem s_orV (h : ta σ H fun x H1 => ∃ k, x = .bl k ∧ if k = true then Q (.bl true) H1 else tb σ H1 Q) : tOrV ta tb σ H Q := h
theorem s_notV (h : ta σ H fun x H1 => ∃ k, x = .bl k ∧ Q (.bl (!k)) H1) : tNotV ta σ H Q := h
theorem s_nil (h : QA' [] H) : tNil σ H QA' := h
theorem s_cons (h : te σ H fun x H1 => ts σ H1 fun xs H2 => QA' (x :: xs) H2) : tCons te ts σ H QA' := h
theorem s_vals {xs : List V} (h : QA' xs H) : tVals xs σ H QA' := h
theorem s_tup (h : ts σ H fun xs H1 => xs.length ≤ sizeLine ∧ ∀ p, H1 p = none → Q (.ref p) (upd H1 p (.tup xs))) : tTup ts σ H Q := h
theorem s_lst (h : ts σ H fun xs H1 => xs.length ≤ sizeLine ∧ ∀ p, H1 p = none → Q (.ref p) (upd H1 p (.lst xs))) : tLst ts σ H Q := h
theorem s_call {sp : Sp} {dvs : List V} {E : XK} (h : ts σ H fun vs H1 => sp (vs ++ dvs) H1 Q E) : tCall sp dvs E ts σ H Q := h
theorem s_cb {r : List V → Hp → VK → Prop} (h : ts σ H fun vs H1 => r vs H1 Q) : tCB r ts σ H Q := h
theorem s_bm {K : PySem.W.Frag} {T : String} {r : V → List V → Hp → VK → Prop} (h : te σ H fun x H1 => tyV K T x H1 ∧ ts σ H1 fun xs H2 => r x xs H2 Q) : tBM K T r te ts σ H Q := h
theorem s_bm0 {K : PySem.W.Frag} {T : String} {r : V → List V → Hp → VK → Prop} (h : te σ H fun x H1 => tyV K T x H1 ∧ r x [] H1 Q) : tBM0 K T r te σ H Q := h
theorem s_sl {r : V → Option Int → Option Int → Hp → VK → Prop} {tl th : TO} (h : te σ H fun x H1 => tl σ H1 fun l H2 => th σ H2 fun u H3 => r x l u H3 Q) : tSl r te tl th σ H Q := h
theorem s_po {QO' : Option Int → Hp → Prop} (h : te σ H fun x H1 => ∃ i, x = .int i ∧ QO' (some i) H1) : tPart te σ H QO' := h
theorem s_po0 {QO' : Option Int → Hp → Prop} (h : QO' none H) : tNoPart σ H QO' := h
theorem s_gname {i : Nat} {v : V} {QS' : St → Hp → Prop} (h : QS' (σ.set i (some v)) H) : gName i v σ H QS' := h
theorem s_gtup {K : PySem.W.Frag} {n : Nat} {a : Addr} {xs : List V} {QS' : St → Hp → Prop} (q : SqT K H a xs) (l : xs.length = n) (h : gs xs σ H QS') : gTup K n gs (.ref a) σ H QS' := ⟨a, xs, rfl, q, l, h⟩
theorem s_gcons {v : V} {r : List V} {QS' : St → Hp → Prop} (h : g v σ H fun σ' H' => gs r σ' H' QS') : gCons g gs (v :: r) σ H QS' := ⟨v, r, rfl, h⟩
theorem s_gnil {QS' : St → Hp → Prop} (h : QS' σ H) : gNil [] σ H QS' := ⟨rfl, h⟩
theorem s_gsub {to ti : TE} {tt : TSet} {v : V} {QS' : St → Hp → Prop} (h : to σ H fun o H1 => ti σ H1 fun i H2 => tt o i v H2 fun H3 => QS' σ H3) : gSub to ti tt v σ H QS' := h
theorem s_isN (h : ta σ H fun x H1 => Q (.bl (decide (x = .non))) H1) : tIsN ta σ H Q := h
theorem s_notN (h : ta σ H fun x H1 => Q (.bl (!decide (x = .non))) H1) : tNotN ta σ H Q := h
theorem s_int_b {k : Bool} (h : Q (.int (if k = true then 1 else 0)) H) : (∃ i, ([V.bl k] : List V) = [.int i] ∧ Q (.int i) H) ∨ ∃ k', ([V.bl k] : List V) = [.bl k'] ∧ Q (.int (if k' = true then 1 else 0)) H := .inr ⟨k, rfl, h⟩
end
section
variable {wi : TI} {σ0 : St → St} {g : TG} {tt : TT} {te : TE} {ta : TA} {tb : TS} {D : Ends} {σ : St} {H : Hp} {Q : VK} {R : It → Hp → Prop} {K : PySem.W.Frag}
theorem s_comp (h : wi σ H fun J H1 => ∀ L, H1 L = none → CompW J g tt te (σ0 σ) H1 L Q) : tComp wi σ0 g tt te σ H Q := h
theorem s_for (h : wi σ H fun J H1 => ∃ W : Nat → Nat → St → Hp → Prop, (∃ m, W 0 m σ H1) ∧ ∀ i m σ H, W i m σ H →
  (J.stop i H ∧ D.nx σ H) ∨ (J.go i H ∧ ∃ N : St → Hp → Prop, (∀ σ' H', N σ' H' → ∃ m', m' < m ∧ W (i + 1) m' σ' H') ∧ ∀ x H', J.yld i H x H' → g x σ H' fun σ2 H2 => tb { D with nx := N, ct := N, bk := D.nx } σ2 H2)) : tFor wi g tb D σ H := h
theorem s_rng1 (h : ta σ H fun vs H1 => ∃ j : Int, vs = [.int j] ∧ -(2 ^ 62) ≤ j ∧ j < 2 ^ 62 ∧ R (Itr 0 j.toNat) H1) : iRng1 ta σ H R := h
theorem s_rng3 (h : ta σ H fun vs H1 => ∃ i j : Int, vs = [.int i, .int j, .int (-1)] ∧ (-(2 ^ 62) ≤ i ∧ i < 2 ^ 62 ∧ -(2 ^ 62) ≤ j ∧ j < 2 ^ 62) ∧ R (Itd i (i - j).toNat) H1) : iRng3 ta σ H R := h
theorem s_exr {i : Int} {P : Int → Prop} (h : P i) : ∃ j, ([V.int i] : List V) = [.int j] ∧ P j := ⟨i, rfl, h⟩
theorem s_exr3 {i j k : Int} {P : Int → Int → Prop} (hk : k = -1) (h : P i j) : ∃ a b, ([V.int i, V.int j, V.int k] : List V) = [.int a, .int b, .int (-1)] ∧ P a b := ⟨i, j, by rw [hk], h⟩
theorem s_iany (h : te σ H fun x H1 => (∃ a, x = .ref a ∧ (∃ xs, SqL K H1 a xs) ∧ R (Itl K a) H1) ∨ (∃ a, x = .ref a ∧ (∃ xs, SqT K H1 a xs) ∧ R (Itt K a) H1) ∨ ∃ z, x = .str z ∧ R (Its z) H1) : iAny K te σ H R := h
theorem s_irev (h : ta σ H fun vs H1 => ∃ a xs, vs = [.ref a] ∧ SqL K H1 a xs ∧ R (Itv K a xs.length) H1) : iRev K ta σ H R := h
theorem s_ienum (h : ta σ H fun vs H1 => ∃ a xs, vs = [.ref a] ∧ SqL K H1 a xs ∧ R (Ite K a xs.length) H1) : iEnum K ta σ H R := h
theorem s_listen (h : ta σ H fun vs H1 => ∃ a xs, vs = [.ref a] ∧ SqT K H1 a xs ∧ ∀ (S : Addr) (ys : List V) (H2 : Hp), H1 S = none → Same H1 H2 → ys.length = xs.length → Pairs H2 xs ys → H2 S = some (.lst ys) → Q (.ref S) H2) : tListEn K ta σ H Q := h
theorem s_yes {QB : Bool → Hp → Prop} (h : QB true H) : tYes σ H QB := h
theorem s_turn {L : Addr} {Nx : List V → St → Hp → Prop} {x : V} (h : g x σ H fun σ2 H3 => tt σ2 H3 fun b H4 => if b = true then te σ2 H4 fun y H5 => ∃ ys, H5 L = some (.lst ys) ∧ ys.length < sizeLine ∧ (∃ zs, upd H5 L (.lst (ys ++ [y])) L = some (.lst zs) ∧ Nx zs σ2 (upd H5 L (.lst (ys ++ [y])))) else ∃ zs, H4 L = some (.lst zs) ∧ Nx zs σ2 H4) : CompT g tt te L Nx x σ H := h
theorem s_app {l : Addr} {xs : List V} {y : V} (e : H l = some (.lst xs)) (z : xs.length < sizeLine) (h : Q .non (upd H l (.lst (xs ++ [y])))) : rAppend (.ref l) [y] H Q := ⟨l, xs, y, rfl, rfl, e, z, h⟩
theorem s_pop {l : Addr} {xs : List V} {y : V} (e : H l = some (.lst (xs ++ [y]))) (h : Q y (upd H l (.lst xs))) : rPop (.ref l) [] H Q := ⟨l, xs ++ [y], y, rfl, rfl, e, by simp, by simpa using h⟩
theorem s_join {sep : Str} {p : Addr} {ys : List Str} (hq : SqL K H p (ys.map V.str)) (hz : (ys.map (·.length)).sum + ys.length * sep.length ≤ 16777216) (h : Q (.str (Txt.join sep ys)) H) : rJoin K (.str sep) [.ref p] H Q := ⟨sep, p, ys, rfl, rfl, hq, hz, h⟩
theorem s_setL {p : Addr} {xs : List V} {k : Int} {j : Nat} {v : V} {QH : Hp → Prop} (e : H p = some (.lst xs)) (hj : ixN xs.length k = some j) (h : QH (upd H p (.lst (xs.set j v)))) : rSetL (.ref p) (.int k) v H QH := ⟨p, xs, k, j, rfl, rfl, e, hj, h⟩
end
end L2

set_option Elab.async false
set_option linter.all false
set_option maxRecDepth 100000
set_option maxHeartbeats 4000000
namespace L2
open PySem PySem.Spec PyProof.Rows
section
variable {X : Cx} (K : PySem.W.Frag)
theorem k_add (hK : X.K = K := by rfl) : OpR X (binaryOp .Add) (rAddA K) := by subst hK; exact op_addA
theorem k_eq (hu : X.A.units + 200 < cLine) (hK : X.K = K := by rfl) : OpR X (compareOp .Eq) (rEqA K) := by subst hK; exact op_eqA hu
theorem k_ne (hu : X.A.units + 200 < cLine) (hK : X.K = K := by rfl) : OpR X (compareOp .NotEq) (rNeA K) := by subst hK; exact op_neA hu
theorem k_in (hK : X.K = K := by rfl) : OpR X (compareOp .In) (rInA K false) := by subst hK; exact op_inA
theorem k_notin (hK : X.K = K := by rfl) : OpR X (compareOp .NotIn) (rInA K true) := by subst hK; exact op_notinA
theorem k_ix (hK : X.K = K := by rfl) : IxR X (rIx K) := by subst hK; exact ix_seq
theorem k_sl (hK : X.K = K := by rfl) : SlR X (rSlA K) := by subst hK; exact sl_any
theorem k_len (hK : X.K = K := by rfl) : CallR X (.builtin "len") (rLen K) := by subst hK; exact call_lenA
theorem k_join (hK : X.K = K := by rfl) : MtR X "str.join" (rJoin K) := by subst hK; exact mt_join
inductive TyQ (K : PySem.W.Frag) (H : Hp) : V → Value → Prop where
  | ty {x : V} {t : Value} (h : TyOf K H x t) : TyQ K H x t
  | tup {a : Addr} {xs : List V} (q : SqT K H a xs) : TyQ K H (.ref a) (.type "tuple")
  | lst {a : Addr} {xs : List V} (q : SqL K H a xs) : TyQ K H (.ref a) (.type "list")
noncomputable def rIsi (K : PySem.W.Frag) (T : String) : List V → Hp → VK → Prop := fun xs H Q => ∃ x t b, xs = [x, .ty T] ∧ TyQ K H x t ∧ PySem.W.kitOne K t (.type T) = some b ∧ Q (.bl b) H
theorem call_isiQ {T : String} : CallR X (.builtin "isinstance") (rIsi X.K T) := by
  intro pins s σ H xs us Q I r h
  obtain ⟨x, t, b, rfl, ty, e, q⟩ := h
  obtain ⟨u, v, rfl, ru, rv⟩ := r.two
  obtain rfl : v = Value.type T := rv
  cases ty with
  | ty ty => exact isinst_ok I ru ty e fun tk => ⟨.bl b, H, I.tok tk, rfl, q⟩
  | tup hq =>
    cases ru
    obtain ⟨its, _, p, _⟩ := I.tuple hq
    obtain ⟨o, h1, h2, _⟩ := p
    exact PySem.W.kia_one PySem.W.kitx_tuple I.kIn ⟨o, h1, h2⟩ e (fun z => nomatch z) fun tk => ⟨.bl b, H, I.tok tk, rfl, q⟩
  | lst hq =>
    cases ru
    obtain ⟨its, _, p, _⟩ := I.list hq
    obtain ⟨o, n, h1, h2, _⟩ := p
    exact PySem.W.kia_one PySem.W.kitx_list I.kIn ⟨o, h1, h2⟩ e (fun z => nomatch z) fun tk => ⟨.bl b, H, I.tok tk, rfl, q⟩
theorem k_isi (T : String) (hK : X.K = K := by rfl) : CallR X (.builtin "isinstance") (rIsi K T) := by subst hK; exact call_isiQ
noncomputable def rAll (K : PySem.W.Frag) : List V → Hp → VK → Prop := fun xs H Q => ∃ (p : Addr) (bs : List Bool), xs = [.ref p] ∧ SqL K H p (bs.map V.bl) ∧ Q (.bl (bs.all id)) H
theorem k_all (hc : X.calm = true) (hK : X.K = K := by rfl) : CallR X (.builtin "all") (rAll K) := by subst hK; exact call_all hc
noncomputable def rListOf (K : PySem.W.Frag) : List V → Hp → VK → Prop := fun xs H Q => ∃ p ys, xs = [.ref p] ∧ (SqL K H p ys ∨ SqT K H p ys) ∧ ∀ l, H l = none → Q (.ref l) (upd H l (.lst ys))
theorem k_list (hK : X.K = K := by rfl) : CallR X (.type "list") (rListOf K) := by subst hK; exact call_list_of
noncomputable def rTupOf (K : PySem.W.Frag) : List V → Hp → VK → Prop := fun xs H Q => ∃ p ys, xs = [.ref p] ∧ ((SqL K H p ys ∧ ∀ l, H l = none → Q (.ref l) (upd H l (.tup ys))) ∨ (SqT K H p ys ∧ Q (.ref p) H))
theorem k_tuple (hK : X.K = K := by rfl) : CallR X (.type "tuple") (rTupOf K) := by subst hK; exact call_tuple_of
noncomputable def rInt : List V → Hp → VK → Prop := fun xs H Q => (∃ i, xs = [.int i] ∧ Q (.int i) H) ∨ ∃ k, xs = [.bl k] ∧ Q (.int (if k then 1 else 0)) H
theorem k_int : CallR X (.type "int") rInt := call_int1
theorem s_intb {k : Bool} {H : Hp} {Q : VK} (h : Q (.int (if k = true then 1 else 0)) H) : rInt [.bl k] H Q := .inr ⟨k, rfl, h⟩
theorem qi_anyK {tg l : Expr} {tl : TE} (hl : QE X l tl) (hK : X.K = K := by rfl) : QI X tg l (iAny K tl) := by subst hK; exact qi_any hl
theorem qi_revK {tg a : Expr} {ta : TA} {p pos : Pos} (hg : Gl X "reversed") (hm : X.mg "reversed" = none) (ha : QA X [a] ta) (hK : X.K = K := by rfl) (hs : starEach [a] X.env = [(false, eval a X.env)] := by rfl) : QI X tg (.Call (.Name "reversed" p) [a] [] pos) (iRev K ta) := by subst hK; exact qi_rev hg hm ha hs
theorem qi_enumK {elts : List Expr} {kt : Nat} {pt : Pos} {e : Expr} {ta : TA} {p pos : Pos} (hg : Gl X "enumerate") (hm : X.mg "enumerate" = none) (ha : QA X [e] ta) (hK : X.K = K := by rfl) (hs : starEach [e] X.env = [(false, eval e X.env)] := by rfl) : QI X (.Tuple elts kt pt) (.Call (.Name "enumerate" p) [e] [] pos) (iEnum K ta) := by subst hK; exact qi_enum hg hm ha hs
theorem qg_tupK {es : List Expr} {k : Nat} {pos : Pos} {t : TGs} {n : Nat} (hc : X.calm = true) (h : QGs X es t) (hK : X.K = K := by rfl) (hn : (assignEach es X.env).length = n := by rfl) (hst : (assignEach es X.env).findIdx? (·.1) = none := by rfl) : QG X (.Tuple es k pos) (gTup K n t) := by subst hK; exact qg_tup hc h hn hst
noncomputable def tTruth (K : PySem.W.Frag) (ta : TE) : TT := fun σ H Q => ta σ H fun x H' => ∃ k, TruV K x H' k ∧ Q k H'
theorem qt_truthK {a : Expr} {ta : TE} (ha : QE X a ta) (he : ∀ whole, isTrue a X.env whole = (do let v ← whole; standAt a.pos; holding [v] (truthy v))) (hK : X.K = K := by rfl) : QT X a (tTruth K ta) := by subst hK; exact ⟨pt_truth ha.run he⟩
theorem qe_bmK {o e : Expr} {es : List Expr} {to : TE} {t : TA} {name : Str} {apos cpos : Pos} {T id : String} {r : V → List V → Hp → VK → Prop} (pa : PlainAttrs T) (slot : Slot T name id) (hty : typeOf (.builtin id) = pure (.type "method_descriptor")) (hm : MtR X id r) (ho : QE X o to) (ha : QA X (e :: es) t) (hK : X.K = K := by rfl)
    (hbase : attributeBase o name X.env (eval o X.env) = eval o X.env := by rfl) (hfew : ((backTo cpos (starEach (e :: es) X.env)).all (fun x => !x.1) && (backToKw cpos (keywordEach [] X.env)).all (fun x => x.1.isSome)
      && decide ((e :: es).length + ([] : List Keyword).length + (if ([] : List Keyword).isEmpty then 0 else 1) < 30)) = true := by rfl) (hline : (apos.endLine == cpos.line) = true := by rfl) (hs : starEach (e :: es) X.env = (false, eval e X.env) :: starEach es X.env := by rfl) (hplain : (backTo cpos (starEach es X.env)).any (·.1) = false := by rfl) : QE X (.Call (.Attribute o name apos) (e :: es) [] cpos) (tBM K T r to t) := by subst hK; exact qe_bm pa slot hty hm ho ha hbase hfew hline hs hplain
theorem qe_bm0K {o : Expr} {to : TE} {name : Str} {apos cpos : Pos} {T id : String} {r : V → List V → Hp → VK → Prop} (pa : PlainAttrs T) (slot : Slot T name id) (hty : typeOf (.builtin id) = pure (.type "method_descriptor")) (hm : MtR X id r) (ho : QE X o to) (hK : X.K = K := by rfl) (hbase : attributeBase o name X.env (eval o X.env) = eval o X.env := by rfl) (hline : (apos.endLine == cpos.line) = true := by rfl) : QE X (.Call (.Attribute o name apos) [] [] cpos) (tBM0 K T r to) := by subst hK; exact qe_bm0 pa slot hty hm ho hbase hline
end
section
variable {K : PySem.W.Frag} {σ : St} {H : Hp} {Q : VK} {QB : Bool → Hp → Prop} {ta : TE}
theorem s_truth (h : ta σ H fun x H' => ∃ k, TruV K x H' k ∧ QB k H') : tTruth K ta σ H QB := h
theorem s_tru_lst {a : Addr} {xs : List V} {P : Bool → Prop} (q : SqL K H a xs) (h : P (!xs.isEmpty)) : ∃ k, TruV K (.ref a) H k ∧ P k := ⟨_, .inl ⟨xs, q, rfl⟩, h⟩
theorem s_isiT {T : String} {a : Addr} {xs : List V} {b : Bool} (q : SqT K H a xs) (e : PySem.W.kitOne K (.type "tuple") (.type T) = some b) (h : Q (.bl b) H) : rIsi K T [.ref a, .ty T] H Q := ⟨_, _, b, rfl, .tup q, e, h⟩
theorem s_tupL {p : Addr} {ys : List V} (q : SqL K H p ys) (h : ∀ l, H l = none → Q (.ref l) (upd H l (.tup ys))) : rTupOf K [.ref p] H Q := ⟨p, ys, rfl, .inl ⟨q, h⟩⟩
theorem s_tyL {a : Addr} {xs : List V} {P : Prop} (q : SqL K H a xs) (h : P) : tyV K "list" (.ref a) H ∧ P := ⟨.inl ⟨rfl, _, q⟩, h⟩
end
theorem s_nt {A B : Prop} (h : B) : if (!true) = true then A else B := by simpa using h
theorem s_nf {A B : Prop} (h : A) : if (!false) = true then A else B := by simpa using h
end L2

set_option Elab.async false
set_option linter.all false
set_option maxRecDepth 100000
set_option maxHeartbeats 4000000
namespace L2
open PySem
inductive Tr where
  | mk (wd : Str) (note : Dt) (ps : List Tr)
noncomputable def Tr.wd : Tr → Str
  | .mk w _ _ => w
noncomputable def Tr.ps : Tr → List Tr
  | .mk _ _ ps => ps
mutual
noncomputable def Tr.size : Tr → Nat
  | .mk _ _ ps => 1 + sizes ps
noncomputable def sizes : List Tr → Nat
  | [] => 0
  | t :: r => t.size + sizes r
end
theorem Tr.size_eq (t : Tr) : t.size = 1 + sizes t.ps := by
  cases t with
  | mk w n ps => rw [Tr.size]; rfl
theorem sizes_append (a b : List Tr) : sizes (a ++ b) = sizes a + sizes b := by
  induction a with
  | nil => simp [sizes]
  | cons t r ih => rw [List.cons_append, sizes, sizes, ih]; omega
theorem sizes_get {ts : List Tr} {j : Nat} {t : Tr} (h : ts[j]? = some t) : t.size ≤ sizes ts := by
  induction ts generalizing j with
  | nil => simp at h
  | cons x r ih =>
    rw [sizes]
    cases j with
    | zero => simp at h; subst h; omega
    | succ j => have := ih (j := j) (by simpa using h); omega
theorem sizes_len (ts : List Tr) : ts.length ≤ sizes ts := by
  induction ts with
  | nil => simp [sizes]
  | cons t r ih =>
    have := t.size_eq
    rw [sizes, List.length_cons]
    omega
noncomputable def SameT (H H' : Hp) : Prop := ∀ b, (∀ xs, H b = some (.tup xs) → H' b = some (.tup xs)) ∧ ∀ o u, H b = some (.frz o u) → H' b = some (.frz o u)
theorem Same.t {H H' : Hp} (e : Same H H') : SameT H H' := fun b => ⟨fun xs h => e b _ h, fun o u h => e b _ h⟩
theorem SameT.refl (H : Hp) : SameT H H := fun _ => ⟨fun _ h => h, fun _ _ h => h⟩
theorem SameT.trans {H H1 H2 : Hp} (a : SameT H H1) (b : SameT H1 H2) : SameT H H2 := fun c => ⟨fun xs h => (b c).1 xs ((a c).1 xs h), fun o u h => (b c).2 o u ((a c).2 o u h)⟩
theorem SameT.set {H : Hp} {S : Addr} {zs : List V} {o : HO} (h : H S = some (.lst zs)) : SameT H (upd H S o) := fun b =>
  ⟨fun xs e => by rw [upd_ne (ne_of e h (by intro z; cases z))]; exact e, fun o' u e => by rw [upd_ne (ne_of e h (by intro z; cases z))]; exact e⟩
theorem SameT.new {H : Hp} {S : Addr} {o : HO} (h : H S = none) : SameT H (upd H S o) := (Same.upd h).t
theorem SameT.tup {K : PySem.W.Frag} {H H' : Hp} {a : Addr} {xs : List V} (e : SameT H H') (h : SqT K H a xs) : SqT K H' a xs := by
  rcases h with (h | ⟨o, h⟩) | h
  · exact .inl (.inl ((e a).1 _ h))
  · exact .inl (.inr ⟨o, (e a).2 _ _ h⟩)
  · exact .inr h
noncomputable def IsN (K : PySem.W.Frag) (H : Hp) (v : V) (n : Dt) : Prop := (flatV v = true ∧ n = .flat v) ∨ ∃ (a : Addr) (vs : List V), v = .ref a ∧ SqT K H a vs ∧ vs.all flatV = true ∧ n = .tup (vs.map .flat)
theorem IsN.same {K : PySem.W.Frag} {H H' : Hp} {v : V} {n : Dt} (h : IsN K H v n) (e : SameT H H') : IsN K H' v n := by
  rcases h with h | ⟨a, vs, h1, h2, h3⟩
  · exact .inl h
  · exact .inr ⟨a, vs, h1, e.tup h2, h3⟩
theorem IsN.d {K : PySem.W.Frag} {H : Hp} {v : V} {n : Dt} (h : IsN K H v n) : IsD K H 1 v n := by
  rcases h with ⟨h, rfl⟩ | ⟨a, vs, rfl, h2, h3, rfl⟩
  · exact .flat h
  · refine .tup h2 (by simp) fun j v d e1 e2 => ?_
    rw [List.getElem?_map, e1] at e2
    cases e2
    exact .flat (List.all_eq_true.mp h3 v (List.mem_of_getElem? e1))
inductive TrAt (K : PySem.W.Frag) (H : Hp) : V → Tr → Prop where
  | mk {a p : Addr} {wd : Str} {nv : V} {n : Dt} {vs : List V} {ts : List Tr} (q : SqT K H a [.str wd, nv, .ref p]) (hn : IsN K H nv n) (qp : SqT K H p vs) (l : vs.length = ts.length)
      (h : ∀ (j : Nat) (v : V) (t : Tr), vs[j]? = some v → ts[j]? = some t → TrAt K H v t) : TrAt K H (.ref a) (.mk wd n ts)
theorem TrAt.sameT {K : PySem.W.Frag} {H H' : Hp} {v : V} {t : Tr} (h : TrAt K H v t) (e : SameT H H') : TrAt K H' v t := by
  induction h with
  | mk q hn qp l _ ih => exact .mk (e.tup q) (hn.same e) (e.tup qp) l ih
theorem TrAt.same {K : PySem.W.Frag} {H H' : Hp} {v : V} {t : Tr} (h : TrAt K H v t) (e : Same H H') : TrAt K H' v t := h.sameT e.t
noncomputable def Al {α : Type} (R : V → α → Prop) (vs : List V) (xs : List α) : Prop := vs.length = xs.length ∧ ∀ (j : Nat) (v : V) (x : α), vs[j]? = some v → xs[j]? = some x → R v x
section
variable {α : Type} {R R' : V → α → Prop} {vs : List V} {xs : List α} {v : V} {x : α}
theorem Al.mono (h : Al R vs xs) (f : ∀ v x, R v x → R' v x) : Al R' vs xs := ⟨h.1, fun j v x a b => f v x (h.2 j v x a b)⟩
theorem Al.nil : Al R [] [] := ⟨rfl, fun j v x a _ => by simp at a⟩
theorem Al.snoc (h : Al R vs xs) (a : R v x) : Al R (vs ++ [v]) (xs ++ [x]) := by
  refine ⟨by simp [h.1], fun j y z e1 e2 => ?_⟩
  by_cases hj : j < vs.length
  · rw [List.getElem?_append_left hj] at e1
    rw [List.getElem?_append_left (by have := h.1; omega)] at e2
    exact h.2 j y z e1 e2
  · have hl := (List.getElem?_eq_some_iff.mp e1).1
    rw [List.length_append, List.length_singleton] at hl
    have hj' : j = vs.length := by omega
    subst hj'
    rw [List.getElem?_append_right (Nat.le_refl _), Nat.sub_self] at e1
    rw [h.1, List.getElem?_append_right (Nat.le_refl _), Nat.sub_self] at e2
    have e1 : v = y := by simpa using e1
    have e2 : x = z := by simpa using e2
    rw [← e1, ← e2]
    exact a
theorem Al.split (h : Al R (vs ++ [v]) xs) : ∃ ys x, xs = ys ++ [x] ∧ Al R vs ys ∧ R v x := by
  have hl : xs.length = vs.length + 1 := by have := h.1; simp at this; omega
  have hne : xs ≠ [] := fun z => by rw [z] at hl; simp at hl
  refine ⟨xs.dropLast, xs.getLast hne, (List.dropLast_concat_getLast hne).symm, ⟨by simp [hl], fun j y z e1 e2 => ?_⟩, ?_⟩
  · have hj := (List.getElem?_eq_some_iff.mp e1).1
    refine h.2 j y z (by rw [List.getElem?_append_left hj]; exact e1) ?_
    rw [List.getElem?_dropLast] at e2
    split at e2
    · exact e2
    · cases e2
  · refine h.2 vs.length v _ (by simp) ?_
    rw [List.getLast_eq_getElem, List.getElem?_eq_getElem (by omega)]
    congr 1
    simp [hl]
theorem Al.last (h : Al R vs xs) (hn : vs ≠ []) : ∃ vs' v xs' x, vs = vs' ++ [v] ∧ xs = xs' ++ [x] ∧ Al R vs' xs' ∧ R v x := by
  have e := (List.dropLast_concat_getLast hn).symm
  rw [e] at h
  obtain ⟨ys, x, e2, a, r⟩ := h.split
  exact ⟨_, _, ys, x, e, e2, a, r⟩
theorem Al.get {j : Nat} (h : Al R vs xs) (e : vs[j]? = some v) : ∃ x, xs[j]? = some x ∧ R v x := by
  have hj := (List.getElem?_eq_some_iff.mp e).1
  have hx : j < xs.length := by have := h.1; omega
  exact ⟨xs[j], List.getElem?_eq_getElem hx, h.2 j v _ e (List.getElem?_eq_getElem hx)⟩
end
noncomputable def gapT : Tr := .mk "gap" (.flat .non) []
theorem TrAt.gap {K : PySem.W.Frag} {H : Hp} {a p : Addr} (q : SqT K H a [.str "gap", .non, .ref p]) (qp : SqT K H p []) : TrAt K H (.ref a) gapT := .mk q (.inl ⟨rfl, rfl⟩) qp rfl fun j v t e _ => by simp at e
theorem gapT_size : gapT.size = 1 := by unfold gapT; rw [Tr.size, sizes]
mutual
noncomputable def walk : List Nat → Tr → List (List Nat × Tr)
  | pl, .mk w n ps => (pl, .mk w n ps) :: walks pl 0 ps
noncomputable def walks : List Nat → Nat → List Tr → List (List Nat × Tr)
  | _, _, [] => []
  | pl, i, t :: r => walk (pl ++ [i]) t ++ walks pl (i + 1) r
end
theorem walk_eq (pl : List Nat) (t : Tr) : walk pl t = (pl, t) :: walks pl 0 t.ps := by
  cases t with
  | mk w n ps => rw [walk]; rfl
mutual
theorem walk_len : ∀ (pl : List Nat) (t : Tr), (walk pl t).length = t.size
  | pl, .mk w n ps => by rw [walk, Tr.size, List.length_cons, walks_len pl 0 ps]; omega
theorem walks_len : ∀ (pl : List Nat) (i : Nat) (ts : List Tr), (walks pl i ts).length = sizes ts
  | _, _, [] => by rw [walks, sizes]; rfl
  | pl, i, t :: r => by rw [walks, sizes, List.length_append, walk_len, walks_len]
end
mutual
theorem walk_depth : ∀ (pl : List Nat) (t : Tr) (x : List Nat × Tr), x ∈ walk pl t → x.1.length + 1 ≤ pl.length + t.size
  | pl, .mk w n ps, x, h => by
    rw [walk] at h
    rw [Tr.size]
    rcases List.mem_cons.mp h with h | h
    · subst h; show pl.length + 1 ≤ _; omega
    · have := walks_depth pl 0 ps x h; omega
theorem walks_depth : ∀ (pl : List Nat) (i : Nat) (ts : List Tr) (x : List Nat × Tr), x ∈ walks pl i ts → x.1.length ≤ pl.length + sizes ts
  | _, _, [], x, h => by rw [walks] at h; cases h
  | pl, i, t :: r, x, h => by
    rw [walks] at h
    rw [sizes]
    rcases List.mem_append.mp h with h | h
    · have := walk_depth (pl ++ [i]) t x h
      rw [List.length_append, List.length_singleton] at this
      omega
    · have := walks_depth pl (i + 1) r x h; omega
end
noncomputable def plV (pl : List Nat) : List V := pl.map fun i => V.int ((i : Nat) : Int)
noncomputable def RowAt (K : PySem.W.Frag) (H : Hp) (v : V) (x : List Nat × Tr) : Prop := ∃ (a p : Addr) (u : V), v = .ref a ∧ SqT K H a [.ref p, u] ∧ SqT K H p (plV x.1) ∧ TrAt K H u x.2
theorem RowAt.same {K : PySem.W.Frag} {H H' : Hp} (e : SameT H H') (v : V) (x : List Nat × Tr) (h : RowAt K H v x) : RowAt K H' v x := by
  obtain ⟨a, p, u, r, q, qp, t⟩ := h
  exact ⟨a, p, u, r, e.tup q, e.tup qp, t.sameT e⟩
noncomputable def kids : List Nat → Nat → List Tr → List (List Nat × Tr)
  | _, _, [] => []
  | pl, i, t :: r => (pl ++ [i], t) :: kids pl (i + 1) r
theorem kids_len (pl : List Nat) : ∀ (i : Nat) (ts : List Tr), (kids pl i ts).length = ts.length
  | _, [] => rfl
  | i, t :: r => by rw [kids, List.length_cons, List.length_cons, kids_len pl (i + 1) r]
theorem kids_get (pl : List Nat) : ∀ (i j : Nat) (ts : List Tr), (kids pl i ts)[j]? = (ts[j]?).map fun t => (pl ++ [i + j], t)
  | _, _, [] => by simp [kids]
  | i, 0, t :: r => by simp [kids]
  | i, j + 1, t :: r => by
    rw [kids, List.getElem?_cons_succ, List.getElem?_cons_succ, kids_get pl (i + 1) j r]
    congr 1
    funext t
    rw [show i + 1 + j = i + (j + 1) by omega]
theorem kids_walks (pl : List Nat) : ∀ (i : Nat) (ts : List Tr), (kids pl i ts).flatMap (fun x => walk x.1 x.2) = walks pl i ts
  | _, [] => by simp [kids, walks]
  | i, t :: r => by rw [kids, List.flatMap_cons, walks, kids_walks pl (i + 1) r]
noncomputable def todo (st : List (List Nat × Tr)) : List (List Nat × Tr) := st.reverse.flatMap fun x => walk x.1 x.2
theorem todo_nil : todo [] = [] := rfl
theorem todo_pop (st : List (List Nat × Tr)) (x : List Nat × Tr) : todo (st ++ [x]) = x :: todo (st ++ (kids x.1 0 x.2.ps).reverse) := by
  unfold todo
  rw [List.reverse_append, List.reverse_append, List.reverse_reverse, List.flatMap_append, List.flatMap_append, kids_walks]
  rw [List.reverse_singleton, List.flatMap_singleton, walk_eq]
  rfl
noncomputable def load (st : List (List Nat × Tr)) : Nat := (todo st).length
theorem load_pop (st : List (List Nat × Tr)) (x : List Nat × Tr) : load (st ++ (kids x.1 0 x.2.ps).reverse) < load (st ++ [x]) := by
  unfold load
  rw [todo_pop]
  exact Nat.lt_succ_self _
theorem load_len (st : List (List Nat × Tr)) : st.length ≤ load st := by
  unfold load todo
  have : ∀ l : List (List Nat × Tr), l.length ≤ (l.flatMap fun x => walk x.1 x.2).length := fun l => by
    induction l with
    | nil => simp
    | cons x r ih =>
      rw [List.flatMap_cons, List.length_append, walk_len, List.length_cons]
      have := x.2.size_eq
      omega
  have := this st.reverse
  rw [List.length_reverse] at this
  exact this
theorem drop_step {α : Type} {l : List α} {n i : Nat} {x : α} (hl : l.length = n) (hi : i < n) (hx : l[n - 1 - i]? = some x) : (l.drop (n - (i + 1))).reverse = (l.drop (n - i)).reverse ++ [x] := by
  have hk : n - 1 - i < l.length := by omega
  have e : l.drop (n - (i + 1)) = x :: l.drop (n - i) := by
    have h1 : n - (i + 1) = n - 1 - i := by omega
    rw [h1, List.drop_eq_getElem_cons hk, show n - 1 - i + 1 = n - i by omega]
    rw [List.getElem?_eq_getElem hk] at hx
    rw [Option.some.inj hx]
  rw [e, List.reverse_cons]
mutual
theorem walk_at_pl : ∀ (pl : List Nat) (t : Tr), walk pl t = (walk [] t).map fun x => (pl ++ x.1, x.2)
  | pl, .mk w n ps => by
    have e := walks_at_pl pl [] 0 ps
    rw [List.append_nil] at e
    rw [walk, walk, List.map_cons, e]
    simp
theorem walks_at_pl : ∀ (pl q : List Nat) (i : Nat) (ts : List Tr), walks (pl ++ q) i ts = (walks q i ts).map fun x => (pl ++ x.1, x.2)
  | _, _, _, [] => by rw [walks, walks]; rfl
  | pl, q, i, t :: r => by
    rw [walks, walks, List.map_append, ← walks_at_pl pl q (i + 1) r, walk_at_pl (pl ++ q ++ [i]) t, walk_at_pl (q ++ [i]) t]
    simp
end
theorem Al.append {α : Type} {R : V → α → Prop} {vs ws : List V} {xs ys : List α} (h : Al R vs xs) (h' : Al R ws ys) : Al R (vs ++ ws) (xs ++ ys) := by
  refine ⟨by simp [h.1, h'.1], fun j v x e1 e2 => ?_⟩
  by_cases hj : j < vs.length
  · rw [List.getElem?_append_left hj] at e1
    rw [List.getElem?_append_left (by have := h.1; omega)] at e2
    exact h.2 j v x e1 e2
  · rw [List.getElem?_append_right (by omega)] at e1
    rw [List.getElem?_append_right (by have := h.1; omega), ← h.1] at e2
    exact h'.2 _ v x e1 e2
end L2

set_option Elab.async false
set_option linter.all false
set_option maxRecDepth 100000
set_option maxHeartbeats 4000000
namespace L2
open PySem PySem.Spec PyProof.Rows
section
open PySem.AutoSeq1
theorem meets_extend_tup (l : Addr) (items : Array Value) (n : Nat) (b : Addr) (items2 : Array Value) (n2 : Nat) (od : Option Addr) (sl : Array (Option Value)) (hs0 : ¬(!items.isEmpty && Builtin.List.listTooLong (items.size + items2.size)) = true) (hs1 : items.size ≤ sizeLine) (hs2 : items.size + items2.size ≤ sizeLine + 1) :
    Meets (Builtin.«list.extend» ⟨[.ref l, .ref b], []⟩) (fun _ R s => s.heap.get? l = some { cls := .type "list", dict := none, data := .seq items n, slots := #[] } ∧ s.heap.get? b = some { cls := .type "tuple", dict := od, data := .seq items2 n2, slots := sl } ∧ R (.ok (.ret Value.none)) { s with heap := s.heap.update l (Obj.mapSeq fun x => x ++ items2), toks := s.toks }) :=
  .of_wp fun prog w A R s h => by
    obtain ⟨hp, g, d, tk, os⟩ := s; obtain ⟨hl, hb, h⟩ := h; have f1 := AutoSeq1.idx_int; have f2 := AutoSeq1.sub_tuple_tuple; have f3 := AutoSeq1.sub_list_list; have f4 := AutoSeq1.sub_tuple_list; have f5 := AutoSeq1.sub_list_tuple;
    have hz' : (items ++ items2).size ≤ sizeLine + 1 := by rw [Array.size_append]; exact hs2
    wp_walk using (wpAny_updateSeq hl rfl (hz := hs1) (_hz' := hz')), AutoSeq1.wpAny_loadPart' hl, AutoSeq1.wpAny_loadPart' hb; exact ⟨_, rfl, h⟩
end
noncomputable def rExtT (K : PySem.W.Frag) : V → List V → Hp → VK → Prop := fun x vs H Q => ∃ l b xs zs, x = .ref l ∧ vs = [.ref b] ∧ H l = some (.lst xs) ∧ SqT K H b zs ∧ xs.length + zs.length ≤ sizeLine ∧ Q .non (upd H l (.lst (xs ++ zs)))
section
variable {X : Cx}
theorem mt_extT : MtM X "list.extend" (rExtT X.K) := by
  intro pins s σ H x vs v us Q I rx rv h
  obtain ⟨l, b, xs, zs, rfl, rfl, hH, hB, hz, q⟩ := h
  cases rx
  obtain ⟨u, rfl, ru⟩ := rv.one
  cases ru
  obtain ⟨z, its, n, r, hl, e⟩ := I.lstM hH
  obtain ⟨its2, r2, ⟨o2, e2, hc2, n2, hd2⟩, hz2⟩ := I.tuple hB
  obtain ⟨oc, od, odata, sl⟩ := o2
  simp only at hc2 hd2
  subst hc2 hd2
  have hl2 := r2.length
  have hsz : its.toArray.size + its2.toArray.size ≤ sizeLine := by rw [List.size_toArray, List.size_toArray]; omega
  have hlong : ¬ (!its.toArray.isEmpty && Builtin.List.listTooLong (its.toArray.size + its2.toArray.size)) = true := by
    rw [notLongL hsz, Bool.and_false]
    exact Bool.false_ne_true
  refine call_meets F.slot_list_extend ⟨_, e, rfl⟩ F.entry_list_extend (F.args_list_extend_2 _ _)
    (meets_extend_tup l its.toArray n b its2.toArray n2 od sl hlong (by rw [List.size_toArray]; omega) (by omega)) ⟨e, e2, ?_⟩
  refine ⟨.non, _, I.lset (its' := its ++ its2) hH e (by simp) (r.append r2) ?_, rfl, q⟩
  rw [List.length_append]
  omega
noncomputable def lookD (kvs : List (Str × V)) (k : Str) : Option V := (kvs.find? fun kv => kv.1 = k).map (·.2)
inductive VPs : List (Str × V) → List (Str × Value) → Prop
  | nil : VPs [] []
  | cons {k : Str} {x : V} {v : Value} {r : List (Str × V)} {q : List (Str × Value)} : RelV x v → VPs r q → VPs ((k, x) :: r) ((k, v) :: q)
theorem VPs.look {kvs : List (Str × V)} {vs : List (Str × Value)} (h : VPs kvs vs) (k : Str) : (valueAt vs k).isSome = (lookD kvs k).isSome ∧ ∀ x, lookD kvs k = some x → ∃ v, valueAt vs k = some v ∧ RelV x v := by
  induction h with
  | nil => exact ⟨rfl, fun x e => nomatch e⟩
  | @cons k' x v r q rx _ ih =>
    unfold valueAt lookD at ih ⊢
    by_cases z : k' = k
    · simp only [List.find?_cons, z, decide_true, Option.map_some, Option.isSome_some]
      exact ⟨trivial, fun y e => ⟨v, rfl, by cases e; exact rx⟩⟩
    · simp only [List.find?_cons, z, decide_false]
      exact ih
noncomputable def DkK (P : Program) (w : World) (K : PySem.W.Frag) (a : Addr) (kvs : List (Str × V)) : Prop :=
  ∃ (o : Obj) (vs : List (Str × Value)), K.lookup a = some o ∧ o.IsDictOf (strKind P w) vs ∧ (a == sysModules) = false ∧ VPs kvs vs
noncomputable def rInD (P : Program) (w : World) (K : PySem.W.Frag) : R2 := fun x y H Q => ∃ s a kvs, x = .str s ∧ y = .ref a ∧ DkK P w K a kvs ∧ Q (.bl (lookD kvs s).isSome) H
theorem op_inD : OpR X (compareOp .In) (rInD X.prog X.w X.K) := by
  intro pins s σ H x y v u Q I rx ry h
  obtain ⟨z, a, kvs, rfl, rfl, ⟨o, vs, hk, hd, lo, vp⟩, q⟩ := h
  obtain ⟨t, rfl⟩ := rx
  cases ry
  have D : s.heap.DictOf (strKind X.prog X.w) a vs := Heap.dictOf_iff.mpr ⟨o, I.kIn a o hk, hd⟩
  exact wpAny_in_of (knd := strKind X.prog X.w) (k := z) (strKind_is _ _ _ _) lo D.mapOf (fin_bl (I.tok _) q (vp.look z).1.symm)
noncomputable def rIxD (P : Program) (w : World) (K : PySem.W.Frag) : R2 := fun x y H Q => ∃ a kvs s v, x = .ref a ∧ y = .str s ∧ DkK P w K a kvs ∧ lookD kvs s = some v ∧ Q v H
theorem ix_D : IxR X (rIxD X.prog X.w X.K) := by
  intro value slice pins s σ H x y v u Q I rx ry h hs
  obtain ⟨a, kvs, z, v', rfl, rfl, ⟨o, vs, hk, hd, lo, vp⟩, hv, q⟩ := h
  cases rx
  obtain ⟨t, rfl⟩ := ry
  have D : s.heap.DictOf (strKind X.prog X.w) a vs := Heap.dictOf_iff.mpr ⟨o, I.kIn a o hk, hd⟩
  obtain ⟨u', e, r⟩ := (vp.look z).2 _ hv
  exact tail_any D.typeIs slot_dict_getitem.lookup (wpAny_getItem_of (knd := strKind X.prog X.w) (k := z) (strKind_is _ _ _ _) D.mapOf e ⟨v', H, I.tok _, r, q⟩) hs
noncomputable def rIsB : R2 := fun x y H Q => ∃ b, y = .bl b ∧ Q (.bl (decide (x = .bl b))) H
theorem op_isB : OpR X (compareOp .Is) rIsB := by
  intro pins s σ H x y v u Q I rx ry h
  obtain ⟨b, rfl, q⟩ := h
  cases ry
  refine wpAny_is_plain ?_ (fin_bl I q ?_)
  · cases x <;> first | (cases rx; rfl) | (obtain ⟨t, rfl⟩ := rx; rfl)
  · cases x <;> first
      | (cases rx; rfl)
      | (obtain ⟨t, rfl⟩ := rx; rfl)
      | (rename_i c; cases rx; cases c <;> cases b <;> rfl)
end
section
variable {X : Cx} (P : Program) (w : World) (K : PySem.W.Frag)
theorem k_inD (hP : X.prog = P := by rfl) (hw : X.w = w := by rfl) (hK : X.K = K := by rfl) : OpR X (compareOp .In) (rInD P w K) := by subst hP hw hK; exact op_inD
theorem k_ixD (hP : X.prog = P := by rfl) (hw : X.w = w := by rfl) (hK : X.K = K := by rfl) : IxR X (rIxD P w K) := by subst hP hw hK; exact ix_D
theorem k_extT (hK : X.K = K := by rfl) : MtM X "list.extend" (rExtT K) := by subst hK; exact mt_extT
end
theorem s_chain {r r' : R2} {ta tb tc : TE} {σ : St} {H : Hp} {Q : VK} (h : ta σ H fun x H1 => tb σ H1 fun y H2 => r x y H2 fun z H3 => ∃ k, z = .bl k ∧ (if k = true then tc σ H3 fun w' H4 => r' y w' H4 Q else Q (.bl false) H3)) : tChain r r' ta tb tc σ H Q := h
inductive Ents (p : Params) : List DictEntry → List (Str × V) → Prop
  | nil : Ents p [] []
  | cons {k : Str} {t : Tok} {x : V} {v : Value} {r : List DictEntry} {q : List (Str × V)} : RelV x v → Ents p r q → Ents p (⟨PyData.keyHash p k, .str k t, v⟩ :: r) ((k, x) :: q)
theorem Ents.pairs {P : Program} {w : World} {es : List DictEntry} {kvs : List (Str × V)} (h : Ents w.params es kvs) : ∃ vs, VPs kvs vs ∧ PySem.Pairs (PySem.strKind P w) es vs ∧ vs.map (·.1) = kvs.map (·.1) ∧ ∀ e ∈ es, ∃ k, (PySem.strKind P w).is k e.key = true ∧ e.hash = (PySem.strKind P w).hash k := by
  induction h with
  | nil => exact ⟨[], .nil, .nil, rfl, fun e he => nomatch he⟩
  | @cons k t x v r q rx _ ih =>
    obtain ⟨vs, a, b, c, d⟩ := ih
    refine ⟨(k, v) :: vs, .cons rx a, .cons (strKind_is _ _ _ _) rfl b, by simp [c], fun e he => ?_⟩
    rcases List.mem_cons.mp he with rfl | he
    · exact ⟨k, strKind_is _ _ _ _, rfl⟩
    · exact d e he
theorem dk_mk {P : Program} {w : World} {K : PySem.W.Frag} {a : Addr} {es : Array DictEntry} {n : Nat} {kvs : List (Str × V)} (l : K.lookup a = some ⟨.type "dict", none, .dict es n, #[]⟩) (hs : (a == sysModules) = false)
    (e : Ents w.params es.toList kvs) (nd : (kvs.map (·.1)).Nodup) : DkK P w K a kvs := by
  obtain ⟨vs, a1, a2, a3, a4⟩ := e.pairs (P := P)
  exact ⟨_, vs, l, ⟨es, n, ⟨rfl, rfl, rfl⟩, rfl, fun e he => a4 e (by simpa using he), a2, by rw [a3]; exact nd⟩, hs, a1⟩
end L2

set_option Elab.async false
set_option linter.all false
set_option maxRecDepth 100000
set_option maxHeartbeats 4000000
namespace L2
open PySem PySem.Spec PyProof.Rows
end L2

set_option Elab.async false
set_option linter.all false
set_option maxRecDepth 100000
set_option maxHeartbeats 4000000
namespace L2
open PySem PySem.Spec PyProof.Rows
structure Src0 (X : Cx) (pins : List (Addr × Obj)) (σ : St) (it : Addr) (n : Nat) (H0 : Hp) (J : Nat → List V → Hp → Heap → Prop) : Prop where
  ty : ∀ i ys H h, J i ys H h → ∃ o, h.get? it = some o ∧ o.cls = .type "list_reverseiterator"
  self : ∀ (A : Around) (s : Shared) (ys : List V) (H : Hp) (Q : Value → Shared → Prop) (E : Value → Shared → Prop), J 0 ys H s.heap → Q (.ref it) s → wpAny (model X.prog X.w) A (pyIter (.ref it)) Q E s
  keep : ∀ i ys H h h' S zs zs', H0 S = none → H S = some (.lst zs) → J i ys H h → (∀ b o, b ≠ S → h.get? b = some o → h'.get? b = some o) → (∃ o, h'.get? S = some o) → J i ys (upd H S (.lst zs')) h'
  fresh : ∀ i ys H h, J i ys H h → H it = none
  item : ∀ (A : Around) (i : Nat) (s : Shared) (H : Hp) (ys : List V) (E : Value → Shared → Prop), A.handled = none → i < n → Inv X pins σ H s → J i ys H s.heap →
    wpAny (model X.prog X.w) A (pyNext (.ref it)) (fun r s' => ∃ u x H', r = some u ∧ RelV x u ∧ Inv X pins σ H' s' ∧ J (i + 1) (ys ++ [x]) H' s'.heap ∧ ∀ S zs, H S = some (.lst zs) → H' S = some (.lst zs)) E s
  done : ∀ (A : Around) (s : Shared) (H : Hp) (ys : List V) (E : Value → Shared → Prop), A.handled = none → Inv X pins σ H s → J n ys H s.heap →
    wpAny (model X.prog X.w) A (pyNext (.ref it)) (fun r s' => r = none ∧ Inv X pins σ H s') E s
section
variable {X : Cx} {pins : List (Addr × Obj)} {σ : St} {it : Addr} {n : Nat} {H0 : Hp} {J : Nat → List V → Hp → Heap → Prop}
end

section
variable {X : Cx}
noncomputable def tListRev (K : PySem.W.Frag) (ta : TA) : TE := fun σ H Q => ta σ H fun vs H1 => ∃ a xs, vs = [.ref a] ∧ SqL K H1 a xs ∧
  ∀ (S : Addr) (H2 : Hp), H1 S = none → Same H1 H2 → H2 S = some (.lst xs.reverse) → Q (.ref S) H2
theorem s_listrev {K : PySem.W.Frag} {ta : TA} {σ : St} {H : Hp} {Q : VK} (h : ta σ H fun vs H1 => ∃ a xs, vs = [.ref a] ∧ SqL K H1 a xs ∧ ∀ (S : Addr) (H2 : Hp), H1 S = none → Same H1 H2 → H2 S = some (.lst xs.reverse) → Q (.ref S) H2) : tListRev K ta σ H Q := h
end
end L2

set_option Elab.async false
set_option linter.all false
set_option maxRecDepth 100000
set_option maxHeartbeats 4000000
namespace L2
open PySem PySem.Spec PyProof.Rows
structure ZA (z TI TO i1 i2 : Addr) (fp1 fp2 : List Addr) : Prop where
  TIz : TI ≠ z
  TOz : TO ≠ z
  TITO : TI ≠ TO
  z1 : z ∉ fp1
  z2 : z ∉ fp2
  TI1 : TI ≠ i1
  TI2 : TI ≠ i2
  TO1 : TO ∉ fp1
  TO2 : TO ∉ fp2
  m1 : i1 ∈ fp1
  m2 : i2 ∈ fp2
  n1 : i1 ∉ fp2
  n2 : i2 ∉ fp1
theorem ZA.i1z {z TI TO i1 i2 : Addr} {fp1 fp2 : List Addr} (D : ZA z TI TO i1 i2 fp1 fp2) : i1 ≠ z := fun e => D.z1 (e ▸ D.m1)
theorem ZA.i2z {z TI TO i1 i2 : Addr} {fp1 fp2 : List Addr} (D : ZA z TI TO i1 i2 fp1 fp2) : i2 ≠ z := fun e => D.z2 (e ▸ D.m2)
section
variable {prog : Program} {w : World} {A : Around} {E : Value → Shared → Prop} {s : Shared} {z TI TO i1 i2 : Addr} {fp1 fp2 : List Addr} {n1 n2 i : Nat} {P1 P2 : Nat → Value → Prop} {St1 St2 : Nat → Heap → Prop} {a b : Value}
end
section
variable {prog : Program} {w : World} {A : Around} {E : Value → Shared → Prop} {s : Shared}
end
section
variable {X : Cx} {pins : List (Addr × Obj)} {σ : St} {H : Hp} {s : Shared} {h' : Heap}
end
noncomputable def Itz (K : PySem.W.Frag) (a b : Addr) : It :=
  ⟨fun i H => ∃ xs ys, SqT K H a xs ∧ SqT K H b ys ∧ i < xs.length ∧ i < ys.length,
   fun i H x H' => ∃ (t : Addr) (y z : V), H t = none ∧ (∀ xs, SqT K H a xs → xs[i]? = some y) ∧ (∀ ys, SqT K H b ys → ys[i]? = some z) ∧ x = .ref t ∧ H' = upd H t (.tup [y, z]),
   fun i H => ∃ xs ys, SqT K H a xs ∧ SqT K H b ys ∧ i = min xs.length ys.length⟩
structure ZB (z TI TO i1 i2 a b : Addr) : Prop where
  TIz : TI ≠ z
  TOz : TO ≠ z
  TITO : TI ≠ TO
  i1z : i1 ≠ z
  i2z : i2 ≠ z
  TI1 : TI ≠ i1
  TI2 : TI ≠ i2
  TO1 : TO ≠ i1
  TO2 : TO ≠ i2
  i12 : i1 ≠ i2
  az : a ≠ z
  aTO : a ≠ TO
  a1 : a ≠ i1
  a2 : a ≠ i2
  bz : b ≠ z
  bTO : b ≠ TO
  b1 : b ≠ i1
  b2 : b ≠ i2
theorem ZB.za {z TI TO i1 i2 a b : Addr} (D : ZB z TI TO i1 i2 a b) : ZA z TI TO i1 i2 [i1, a] [i2, b] where
  TIz := D.TIz
  TOz := D.TOz
  TITO := D.TITO
  z1 := by simp [D.i1z.symm, D.az.symm]
  z2 := by simp [D.i2z.symm, D.bz.symm]
  TI1 := D.TI1
  TI2 := D.TI2
  TO1 := by simp [D.TO1, D.aTO.symm]
  TO2 := by simp [D.TO2, D.bTO.symm]
  m1 := by simp
  m2 := by simp
  n1 := by simp [D.i12, D.b1.symm]
  n2 := by simp [D.i12.symm, D.a2.symm]
section
variable {X : Cx}
noncomputable def iZip (K : PySem.W.Frag) (ta : TA) : TI := fun σ H R => ta σ H fun vs H1 => ∃ a b xs ys, vs = [.ref a, .ref b] ∧ SqT K H1 a xs ∧ SqT K H1 b ys ∧ R (Itz K a b) H1
theorem s_izip {K : PySem.W.Frag} {ta : TA} {σ : St} {H : Hp} {R : It → Hp → Prop} (h : ta σ H fun vs H1 => ∃ a b xs ys, vs = [.ref a, .ref b] ∧ SqT K H1 a xs ∧ SqT K H1 b ys ∧ R (Itz K a b) H1) : iZip K ta σ H R := h
end
end L2

set_option Elab.async false
set_option linter.all false
set_option maxRecDepth 100000
set_option maxHeartbeats 4000000
namespace L2
open PySem PySem.Spec PyProof.Rows
theorem tuple_whole {prog : Program} {w : World} {A : Around} {E : Value → Shared → Prop} {s : Shared} {t sl : Addr} {items : Array Value} {vl vu : Value} {lo hi : Option Int} {Q : Value → Shared → Prop} (ht : IsTup s.heap t items) (hs : s.heap.IsSliceOf sl vl vu .none) (pl : IsPart vl lo) (pu : IsPart vu hi)
    (hw : HT.sIx items.size 0 lo = 0 ∧ HT.sIx items.size items.size hi = items.size) (h : Q (.ref t) s) : wpAny (model prog w) A (getItem (.ref t) (.ref sl)) Q E s := by
  obtain ⟨os, hos, hcs, hds⟩ := id hs
  have hTs : s.TypeIs (.ref sl) "slice" := ⟨os, hos, hcs⟩
  unfold getItem
  try with_reducible refine wpAny_holding ?_
  first | refine wpAny_bind (wpAny_pure ?_) | skip
  refine wpAny_bind (wpAny_sequenceKey ht.typeIs (by decide) ?_)
  refine wpAny_bind (wpAny_callSpecial?_slot (name := Str.ofString "__getitem__") ht.typeIs PyProof.Rows.slot_tuple_getitem
    (wpAny_call_entry PyProof.Rows.slot_tuple_getitem ht.typeIs PyProof.Rows.entry_tuple_getitem ?_ (PyProof.Rows.args_tuple_getitem _ _)))
  show wpAny _ _ (Builtin.Tuple.tupleItemsOf (.ref t) >>= _) _ _ s
  refine wpAny_bind (PyProof.Rows.tupleItemsOf_ ht ?_)
  refine wpAny_bind (wpAny_typeOf hTs ?_)
  rw [if_pos (by decide)]
  refine wpAny_bind (HT.sliceApplied_gen hs pl pu ?_)
  have hyes : (((HT.sIx items.size 0 lo : Nat) : Int) == 0 && (1 : Int) == 1 && (HT.sIx items.size items.size hi - HT.sIx items.size 0 lo) == items.size) = true := by
    rw [hw.1, hw.2]
    simp
  show wpAny _ _ (if (((HT.sIx items.size 0 lo : Nat) : Int) == 0 && (1 : Int) == 1 && (HT.sIx items.size items.size hi - HT.sIx items.size 0 lo) == items.size) = true then _ else _) _ _ s
  rw [if_pos hyes]
  refine wpAny_bind (m := Builtin.Tuple.tupleIsExact (.ref t)) ?_
  unfold Builtin.Tuple.tupleIsExact
  refine wpAny_bind (wpAny_typeOf ht.typeIs (wpAny_pure ?_))
  rw [if_pos (by decide)]
  refine wpAny_bind (wpAny_rule ?_)
  exact wpAny_pure ⟨_, rfl, wpAny_pure h⟩
noncomputable def rSlU (K : PySem.W.Frag) : V → Option Int → Option Int → Hp → VK → Prop := fun x lo hi H Q => ∃ a xs, x = .ref a ∧ SqT K H a xs ∧ ∀ r H', Same H H' → SqT K H' r (cutV xs lo hi) → Q (.ref r) H'
theorem sl_tupA {X : Cx} : SlR X (rSlU X.K) := by
  intro pins s σ H x v vl vu lo hi sl Q I rx hs pl pu h
  obtain ⟨a, xs, rfl, hx, q⟩ := h
  by_cases hw : HT.sIx xs.length 0 lo = 0 ∧ HT.sIx xs.length xs.length hi = xs.length
  · cases rx
    obtain ⟨its, r, ht, hz⟩ := I.tuple hx
    have hlen : its.toArray.size = xs.length := by rw [List.size_toArray]; exact r.length.symm
    refine ⟨"tuple", _, PyProof.Rows.slot_tuple_getitem.lookup, ht.typeIs, ?_⟩
    refine tuple_whole ht hs pl pu (by rw [hlen]; exact hw) ⟨.ref a, H, I, rfl, q a H (Same.refl H) ?_⟩
    have e : cutV xs lo hi = xs := by unfold cutV; rw [hw.1, hw.2]; simp
    rw [e]
    exact hx
  · exact sl_tup pins s σ H _ v vl vu lo hi sl Q I rx hs pl pu ⟨a, xs, rfl, hx, hw, fun p hp => q p _ (Same.upd hp) (.of upd_same)⟩
noncomputable def rSlB (K : PySem.W.Frag) : V → Option Int → Option Int → Hp → VK → Prop := fun x lo hi H Q => rSlL K x lo hi H Q ∨ rSlS x lo hi H Q ∨ rSlU K x lo hi H Q
theorem k_slB {X : Cx} (K : PySem.W.Frag) (hK : X.K = K := by rfl) : SlR X (rSlB K) := by subst hK; exact sl_list.or (sl_str.or sl_tupA)
theorem s_slb_tup {K : PySem.W.Frag} {a : Addr} {xs : List V} {lo hi : Option Int} {H : Hp} {Q : VK} (ha : SqT K H a xs) (h : ∀ r H', Same H H' → SqT K H' r (cutV xs lo hi) → Q (.ref r) H') : rSlB K (.ref a) lo hi H Q := .inr (.inr ⟨a, xs, rfl, ha, h⟩)
theorem s_aug {i : Nat} {te : TE} {ti : TIp} {D : Ends} {σ : St} {H : Hp} {x : V} (e : σ[i]? = some (some x)) (h : te σ H fun y H1 => ti x y H1 fun z H2 => D.nx (σ.set i (some z)) H2) : tAug i te ti D σ H := ⟨x, e, h⟩
theorem s_ipI {g : Int → Int → Int} {i j : Int} {H : Hp} {Q : VK} (h : Q (.int (g i j)) H) : ipI g (.int i) (.int j) H Q := ⟨i, j, rfl, rfl, h⟩
theorem cutV_to (xs : List V) (k : Nat) : cutV xs none (some (k : Int)) = xs.take k := by
  unfold cutV
  rw [HT.sIx_none, HT.sIx_nat, Nat.sub_zero, List.drop_zero]
  by_cases h : k ≤ xs.length
  · rw [Nat.min_eq_left h]
  · rw [Nat.min_eq_right (by omega), List.take_of_length_le (Nat.le_refl _), List.take_of_length_le (by omega)]
theorem cutV_from (xs : List V) (k : Nat) : cutV xs (some (k : Int)) none = xs.drop k := by
  unfold cutV
  rw [HT.sIx_none, HT.sIx_nat]
  by_cases h : k ≤ xs.length
  · rw [Nat.min_eq_left h, List.take_of_length_le (by simp)]
  · rw [Nat.min_eq_right (by omega), List.drop_of_length_le (Nat.le_refl _), List.drop_of_length_le (by omega)]
    simp
theorem cutV_fromto (xs : List V) (j k : Nat) : cutV xs (some (j : Int)) (some (k : Int)) = (xs.drop j).take (k - j) := by
  unfold cutV
  rw [HT.sIx_nat, HT.sIx_nat]
  by_cases hj : j ≤ xs.length
  · rw [Nat.min_eq_left hj]
    by_cases hk : k ≤ xs.length
    · rw [Nat.min_eq_left hk]
    · rw [Nat.min_eq_right (by omega), List.take_of_length_le (by simp), List.take_of_length_le (by simp; omega)]
  · rw [Nat.min_eq_right (Nat.le_of_lt (Nat.lt_of_not_le hj)), List.drop_of_length_le (Nat.le_refl _), List.drop_of_length_le (by omega)]
    simp
end L2

set_option Elab.async false
set_option linter.all false
set_option maxRecDepth 100000
set_option maxHeartbeats 4000000
namespace L2
open PySem PySem.Spec PyProof.Rows
structure Mvd (fs xs : List Addr) (h h' : Heap) : Prop where
  keep : ∀ b o, b ∉ xs → b ∉ fs → h.get? b = some o → h'.get? b = some o
  slot : ∀ b o, b ∉ xs → h.get? b = some o → ∃ sl, h'.get? b = some { o with slots := sl }
theorem Mvd.trans {fs xs : List Addr} {h h1 h2 : Heap} (a : Mvd fs xs h h1) (b : Mvd fs xs h1 h2) : Mvd fs xs h h2 :=
  ⟨fun c o n1 n2 e => b.keep c o n1 n2 (a.keep c o n1 n2 e), fun c o n e => by
    obtain ⟨sl, e1⟩ := a.slot c o n e
    obtain ⟨sl', e2⟩ := b.slot c _ n e1
    exact ⟨sl', e2⟩⟩
theorem Mvd.mono {fs xs ys : List Addr} {h h1 : Heap} (a : Mvd fs xs h h1) (s : ∀ b ∈ xs, b ∈ ys) : Mvd fs ys h h1 :=
  ⟨fun c o n1 n2 e => a.keep c o (fun z => n1 (s c z)) n2 e, fun c o n e => a.slot c o (fun z => n (s c z)) e⟩
theorem Mvd.upd {fs : List Addr} {h : Heap} {a : Addr} (f : Obj → Obj) : Mvd fs [a] h (h.update a f) :=
  ⟨fun c o n _ e => by rw [Heap.get?_update_other _ _ (fun z => n (by simp [z]))]; exact e, fun c o n e => ⟨o.slots, by rw [Heap.get?_update_other _ _ (fun z => n (by simp [z]))]; exact e⟩⟩
theorem Mvd.push {fs xs : List Addr} {h : Heap} (o : Obj) : Mvd fs xs h (h.push o) := ⟨fun _ _ _ _ e => Heap.get?_push_of_some _ e, fun _ o _ e => ⟨o.slots, Heap.get?_push_of_some _ e⟩⟩
theorem Mvd.fun {fs xs : List Addr} {h h1 base : Heap} {l : List Env} (a : Mvd fs xs h h1) (hl : h.FunFrames base l) (nx : ∀ b ∈ xs, ∃ o vs, h.get? b = some o ∧ o.data = .fields vs) : h1.FunFrames base l :=
  hl.of_keeps fun b o e hd => by
    obtain ⟨sl, e1⟩ := a.slot b o (fun z => by
      obtain ⟨o', vs, e', d'⟩ := nx b z
      rw [e] at e'
      cases e'
      exact hd vs d') e
    exact ⟨_, e1, rfl⟩
noncomputable def LiesF (h : Heap) (e T : Addr) (cls : Value) (od : Option Addr) (fl : Value) : Prop :=
  ∃ oe vs oT ts, h.get? e = some oe ∧ oe.cls = cls ∧ oe.dict = od ∧ oe.data = .fields vs ∧ vs[1]? = some (.ref T) ∧ T ≠ e ∧ h.get? T = some oT ∧ oT.data = .fields ts ∧ ts[3]? = some fl
noncomputable abbrev Lies (h : Heap) (e T : Addr) (cls : Value) (od : Option Addr) : Prop := LiesF h e T cls od .none
theorem LiesF.keeps {h h' : Heap} {e T : Addr} {cls fl : Value} {od : Option Addr} (x : LiesF h e T cls od fl) (k1 : ∀ o, h.get? e = some o → h'.get? e = some o) (k2 : ∀ o, h.get? T = some o → h'.get? T = some o) : LiesF h' e T cls od fl := by
  obtain ⟨oe, vs, oT, ts, a1, a2, a3, a4, a5, a6, a7, a8, a9⟩ := x
  exact ⟨oe, vs, oT, ts, k1 _ a1, a2, a3, a4, a5, a6, k2 _ a7, a8, a9⟩
noncomputable def Made (h : Heap) (e : Addr) (cls : Value) (od : Option Addr) : Prop := ∃ oe vs, h.get? e = some oe ∧ oe.cls = cls ∧ oe.dict = od ∧ oe.data = .fields vs ∧ vs[1]? = some .none
section
variable {M : Model} {A : Around} {E : Value → Shared → Prop} {s : Shared}
theorem entry_at {base : Heap} {env : Env} {outer : List Env} {L e : Addr} {oe : Obj} {vs : Array Value} {head : Value} {hadNext : Bool} {Q : Unit → Shared → Prop}
    (hfr : A.frames = some (env :: outer)) (hl : s.heap.FunFrames base (env :: outer)) (hf : env.frame = some L) (he : s.heap.get? e = some oe) (hd : oe.data = .fields vs) (hsz : 1 < vs.size)
    (h : ∀ h' T, s.heap.objs.size ≤ T → LiesF h' e T oe.cls oe.dict (rawInt L) → Mvd (frs (env :: outer)) [e] s.heap h' → Q () { s with heap := h' }) :
    wpAny M A (do let a ← frameOf env; let pl ← entryPlaceOf L hadNext; let b ← EntryCells.newEntry head a .none (rawInt L) .none pl; setField (.ref e) 1 b) Q E s := by
  have hene : e ∉ frs (env :: outer) := fun hm => by
    obtain ⟨_, o, ho, hnf⟩ := hl.mem hm
    rw [he] at ho
    cases ho
    exact hnf vs hd
  refine wpAny_bind (wpAny_frameOf_fun hfr hl hf fun h₁ s1 => ?_)
  refine wpAny_bind (wpAny_entryPlaceOf fun pl hpl => ?_)
  unfold EntryCells.newEntry newFields
  refine wpAny_bind (wpAny_newObj_type ?_ (hpl.sizeOk5 _ _ _ _ _))
  have e1 : h₁.get? e = some oe := (s1.2.1 e hene).trans he
  generalize hoT : ({ cls := .type "traceback", dict := none, data := .fields ([head, .ref L, .none, rawInt L, .none] ++ (if pl.isEmpty then List.replicate 6 Value.none else pl)).toArray } : Obj) = oT
  have e2 : (h₁.push oT).get? e = some oe := Heap.get?_push_of_some _ e1
  refine wpAny_setField e2 hd hsz (h _ h₁.objs.size (by rw [s1.1]; exact Nat.le_refl _) ?_ ?_)
  · have nT : h₁.objs.size ≠ e := Nat.ne_of_gt (Heap.lt_size e1)
    have d3 := Obj.data_mapFields hd (·.setIfInBounds 1 (Value.ref h₁.objs.size))
    have e3 := Heap.get?_update_self (Obj.mapFields (·.setIfInBounds 1 (Value.ref h₁.objs.size))) e2 (Obj.isFreed_of_fields d3)
    have fT : oT.isFreed = false := by rw [← hoT]; rfl
    have e4 := (Heap.get?_update_other (h₁.push oT) (Obj.mapFields (·.setIfInBounds 1 (Value.ref h₁.objs.size))) (Ne.symm nT)).trans (Heap.get?_push_size h₁ fT)
    refine ⟨_, _, _, _, e3, Obj.cls_mapFields _ _, ?_, d3, by simp [hsz], nT, e4, by rw [← hoT], ?_⟩
    · obtain ⟨c0, d0, t0, s0⟩ := oe
      cases t0 <;> rfl
    · first | (simp; done) | (rcases hpl with rfl | ⟨_, _, _, _, _, _, _, rfl⟩ <;> simp)
  · have m1 : Mvd (frs (env :: outer)) [e] s.heap h₁ := ⟨fun b o _ n e => (s1.2.1 b n).trans e, fun b o _ e => s1.2.2 b o e⟩
    exact (m1.trans (Mvd.push oT)).trans (Mvd.upd _)
theorem flight_none {e T : Addr} {cls fl : Value} {od : Option Addr} {fs : List Addr} {Q : Unit → Shared → Prop} (x : LiesF s.heap e T cls od fl) (h : ∀ h', Lies h' e T cls od → Mvd fs [T] s.heap h' → Q () { s with heap := h' }) : wpAny M A (setFlight (.ref e) none) Q E s := by
  obtain ⟨oe, vs, oT, ts, a1, a2, a3, a4, a5, a6, a7, a8, a9⟩ := x
  have hz : 3 < ts.size := (Array.getElem?_eq_some_iff.mp a9).1
  unfold setFlight
  refine wpAny_bind (wpAny_field a1 a4 a5 ?_)
  rw [if_pos (show (Value.ref T != Value.none) = true from by simp)]
  refine wpAny_setField a7 a8 hz (h _ ?_ (Mvd.upd _))
  have d := Obj.data_mapFields a8 (·.setIfInBounds 3 ((none : Option Addr).elim Value.none fun f => rawInt f))
  exact ⟨oe, vs, _, _, by rw [Heap.get?_update_other _ _ a6]; exact a1, a2, a3, a4, a5, a6, Heap.get?_update_self _ a7 (Obj.isFreed_of_fields d), d, by simp [hz]⟩
theorem note_first {base : Heap} {env : Env} {outer : List Env} {L e : Addr} {cls : Value} {od : Option Addr} {Q : Unit → Shared → Prop}
    (hfr : A.frames = some (env :: outer)) (hl : s.heap.FunFrames base (env :: outer)) (hf : env.frame = some L) (x : Made s.heap e cls od)
    (h : ∀ h' T, s.heap.objs.size ≤ T → LiesF h' e T cls od (rawInt L) → Mvd (frs (env :: outer)) [e] s.heap h' → Q () { s with heap := h' }) : wpAny M A (noteFrame (.ref e) env) Q E s := by
  obtain ⟨oe, vs, he, rfl, rfl, hd, h1⟩ := x
  unfold noteFrame
  simp only [hf]
  refine wpAny_bind (wpAny_field he hd h1 ?_)
  rw [if_neg (by decide)]
  exact entry_at hfr hl hf he hd (Array.getElem?_eq_some_iff.mp h1).1 h
theorem note_next {base : Heap} {env : Env} {outer : List Env} {L e T : Addr} {cls : Value} {od : Option Addr} {Q : Unit → Shared → Prop}
    (hfr : A.frames = some (env :: outer)) (hl : s.heap.FunFrames base (env :: outer)) (hf : env.frame = some L) (x : Lies s.heap e T cls od)
    (h : ∀ h' T', s.heap.objs.size ≤ T' → LiesF h' e T' cls od (rawInt L) → Mvd (frs (env :: outer)) [e, T] s.heap h' → Q () { s with heap := h' }) : wpAny M A (noteFrame (.ref e) env) Q E s := by
  obtain ⟨oe, vs, oT, ts, he, rfl, rfl, hd, h1, nT, hT, dT, h3⟩ := x
  unfold noteFrame
  simp only [hf]
  refine wpAny_bind (wpAny_field he hd h1 ?_)
  rw [if_pos (show (Value.ref T != Value.none) = true from by simp)]
  refine wpAny_bind (wpAny_field hT dT h3 ?_)
  rw [if_neg (show ¬ ((Value.none == rawInt L) = true) from by simp [rawInt])]
  refine wpAny_bind (wpAny_setField hT dT (Array.getElem?_eq_some_iff.mp h3).1 ?_)
  have m1 : Mvd (frs (env :: outer)) [T] s.heap (s.heap.update T (Obj.mapFields (·.setIfInBounds 3 Value.none))) := Mvd.upd _
  have he' : (s.heap.update T (Obj.mapFields (·.setIfInBounds 3 Value.none))).get? e = some oe := (Heap.get?_update_other _ _ nT).trans he
  refine entry_at hfr (m1.fun hl fun b hb => by rw [List.mem_singleton.mp hb]; exact ⟨oT, ts, hT, dT⟩) hf he' hd (Array.getElem?_eq_some_iff.mp h1).1 fun h' T' hz x m => ?_
  refine h h' T' ?_ x ((m1.mono (by simp)).trans (m.mono (by simp)))
  have : (s.heap.update T (Obj.mapFields (·.setIfInBounds 3 Value.none))).objs.size = s.heap.objs.size := Heap.size_after_update ..
  have hz : (s.heap.update T (Obj.mapFields (·.setIfInBounds 3 Value.none))).objs.size ≤ T' := hz
  omega
theorem leave_first {base : Heap} {env : Env} {outer : List Env} {L e : Addr} {cls : Value} {od : Option Addr} {Q : Unit → Shared → Prop}
    (hfr : A.frames = some (env :: outer)) (hl : s.heap.FunFrames base (env :: outer)) (hf : env.frame = some L) (x : Made s.heap e cls od)
    (h : ∀ h' T, s.heap.objs.size ≤ T → Lies h' e T cls od → Mvd (frs (env :: outer)) [e, T] s.heap h' → Q () { s with heap := h' }) : wpAny M A (leaving env (.ref e)) Q E s := by
  unfold leaving
  refine wpAny_bind (note_first hfr hl hf x fun h1 T hz y m => ?_)
  refine flight_none (fs := frs (env :: outer)) y fun h2 y2 m2 => h h2 T hz y2 ((m.mono (by simp)).trans (m2.mono (by simp)))
theorem leave_next {base : Heap} {env : Env} {outer : List Env} {L e T : Addr} {cls : Value} {od : Option Addr} {Q : Unit → Shared → Prop}
    (hfr : A.frames = some (env :: outer)) (hl : s.heap.FunFrames base (env :: outer)) (hf : env.frame = some L) (x : Lies s.heap e T cls od)
    (h : ∀ h' T', s.heap.objs.size ≤ T' → Lies h' e T' cls od → Mvd (frs (env :: outer)) [e, T, T'] s.heap h' → Q () { s with heap := h' }) : wpAny M A (leaving env (.ref e)) Q E s := by
  unfold leaving
  refine wpAny_bind (note_next hfr hl hf x fun h1 T' hz y m => ?_)
  refine flight_none (fs := frs (env :: outer)) y fun h2 y2 m2 => h h2 T' hz y2 ((m.mono (by simp)).trans (m2.mono (by simp)))
end
end L2

set_option Elab.async false
set_option linter.all false
set_option maxRecDepth 100000
set_option maxHeartbeats 4000000
namespace L2
open PySem PySem.Spec PyProof.Rows
noncomputable def ZpLate (h : Heap) (z TI TO i1 i2 : Addr) : Prop := ∃ (a : Addr) (oa : Obj) (f1 : Value), h.get? z = some { cls := .type "zip", dict := none, data := .fields #[rawInt a, f1, .bool false, .ref TI, .ref TO], slots := #[] } ∧ h.get? a = some oa ∧ a ≠ z ∧ a ≠ i1 ∧ a ≠ i2
section
variable {prog : Program} {w : World} {A : Around} {E : Value → Shared → Prop} {s : Shared} {z TI TO i1 i2 : Addr} {fp1 fp2 : List Addr} {n1 n2 i : Nat} {P1 P2 : Nat → Value → Prop} {St1 St2 : Nat → Heap → Prop} {a b : Value}
noncomputable def ZpSt (h : Heap) (z TI TO i1 i2 : Addr) (i : Nat) : Prop := (i = 0 ∧ IsZip h z TI TO .none ∧ ∃ u v, IsPair h TO u v) ∨ (0 < i ∧ ZpLate h z TI TO i1 i2)
theorem ZpSt.obj {h : Heap} {z TI TO i1 i2 : Addr} {i : Nat} (x : ZpSt h z TI TO i1 i2 i) : ∃ vs, h.get? z = some { cls := .type "zip", dict := none, data := .fields vs, slots := #[] } := by
  rcases x with ⟨_, x, _⟩ | ⟨_, _, _, _, x, _⟩
  · exact ⟨_, x⟩
  · exact ⟨_, x⟩
end
noncomputable abbrev lit (l : Addr) : Obj := { cls := .type "list_iterator", data := .fields #[.ref l, .int 0 0] }
noncomputable def ZPairs (H : Hp) (xs ys zs : List V) : Prop := ∀ (j : Nat) (z : V), zs[j]? = some z → ∃ (t : Addr) (x y : V), z = V.ref t ∧ xs[j]? = some x ∧ ys[j]? = some y ∧ H t = some (.tup [x, y])
section
variable {X : Cx}
noncomputable def tListZp (K : PySem.W.Frag) (ta : TA) : TE := fun σ H Q => ta σ H fun vs H1 => ∃ a b xs ys, vs = [.ref a, .ref b] ∧ SqT K H1 a xs ∧ SqL K H1 b ys ∧
  ∀ (S : Addr) (zs : List V) (H2 : Hp), H1 S = none → Same H1 H2 → zs.length = min xs.length ys.length → ZPairs H2 xs ys zs → H2 S = some (.lst zs) → Q (.ref S) H2
theorem s_listzp {K : PySem.W.Frag} {ta : TA} {σ : St} {H : Hp} {Q : VK} (h : ta σ H fun vs H1 => ∃ a b xs ys, vs = [.ref a, .ref b] ∧ SqT K H1 a xs ∧ SqL K H1 b ys ∧
  ∀ (S : Addr) (zs : List V) (H2 : Hp), H1 S = none → Same H1 H2 → zs.length = min xs.length ys.length → ZPairs H2 xs ys zs → H2 S = some (.lst zs) → Q (.ref S) H2) : tListZp K ta σ H Q := h
end
end L2

set_option Elab.async false
set_option linter.all false
set_option maxRecDepth 100000
set_option maxHeartbeats 4000000
namespace L2
open PySem PySem.Spec PyProof.Rows
section
variable {X : Cx}
noncomputable def rNeI (K : PySem.W.Frag) : R2 := fun x y H Q => ∃ (a c : Addr) (xs ys : List Int), x = .ref a ∧ y = .ref c ∧ SqT K H a (xs.map V.int) ∧ SqT K H c (ys.map V.int) ∧ Q (.bl (!decide (xs = ys))) H
noncomputable def rNeB (K : PySem.W.Frag) : R2 := fun x y H Q => rNeA K x y H Q ∨ rNeI K x y H Q
theorem s_neb {K : PySem.W.Frag} {x y : V} {H : Hp} {Q : VK} (hs : scal x y = true) (h : Q (.bl (!decide (x = y))) H) : rNeB K x y H Q := .inl (.inl ⟨hs, h⟩)
end
end L2

set_option Elab.async false
set_option linter.all false
set_option maxRecDepth 100000
set_option maxHeartbeats 4000000
namespace L2
open PySem PySem.Spec PyProof.Rows
noncomputable def IteT (K : PySem.W.Frag) (a : Addr) (n : Nat) : It :=
  ⟨fun i H => ∃ xs, SqT K H a xs ∧ xs.length = n ∧ i < n, fun i H x H' => ∃ (t : Addr) (y : V), H t = none ∧ (∀ xs, SqT K H a xs → xs[i]? = some y) ∧ x = .ref t ∧ H' = upd H t (.tup [.int i, y]), fun i H => i = n ∧ ∃ xs, SqT K H a xs ∧ xs.length = n⟩
section
variable {X : Cx}
noncomputable def iEnumT (K : PySem.W.Frag) (ta : TA) : TI := fun σ H R => ta σ H fun vs H1 => ∃ a xs, vs = [.ref a] ∧ SqT K H1 a xs ∧ R (IteT K a xs.length) H1
end
section
variable {X : Cx}
theorem s_ienumT {K : PySem.W.Frag} {ta : TA} {σ : St} {H : Hp} {R : It → Hp → Prop} (h : ta σ H fun vs H1 => ∃ a xs, vs = [.ref a] ∧ SqT K H1 a xs ∧ R (IteT K a xs.length) H1) : iEnumT K ta σ H R := h
end
end L2

set_option Elab.async false
set_option linter.all false
set_option maxRecDepth 100000
set_option maxHeartbeats 4000000
namespace L2
open PySem PySem.Spec PyProof.Rows
noncomputable def CXR (P : Program) (w : World) : CXT := fun outer H s E ev s' => ∃ (e T : Addr) (cls : Value) (od : Option Addr) (H' : Hp), ev = .ref e ∧ s'.os = s.os ∧ AllBare s'.gens ∧ Un (frs outer) [] H H' s.heap s'.heap ∧ HOk P w H' s'.heap ∧
  s.heap.get? e = none ∧ s.heap.get? T = none ∧ H' e = none ∧ H' T = none ∧ Lies s'.heap e T cls od ∧ E cls od H'
theorem FunFrames.slots {h h' base : Heap} : ∀ {l : List Env}, h.FunFrames base l → (∀ b ∈ frs l, ∀ o, h.get? b = some o → ∃ sl, h'.get? b = some { o with slots := sl }) → h'.FunFrames base l
  | [], _, _ => trivial
  | env :: rest, hl, k => by
    obtain ⟨hk, ⟨L, o, hf, hn, ho, hd⟩, hr⟩ := hl
    have hm : L ∈ frs (env :: rest) := by unfold frs; rw [List.filterMap_cons, hf]; exact List.mem_cons_self
    obtain ⟨sl, e⟩ := k L hm o ho
    refine ⟨hk, ⟨L, _, hf, hn, e, hd⟩, FunFrames.slots hr fun b hb => k b ?_⟩
    unfold frs
    rw [List.filterMap_cons, hf]
    exact List.mem_cons_of_mem _ hb
section
variable {X : Cx} {pins : List (Addr × Obj)} {σ : St} {H : Hp} {s : Shared}
theorem Inv.old (I : Inv X pins σ H s) (hex : X.ex = []) {b : Addr} (h : s.heap.get? b = none) : X.s₀.heap.get? b = none := by
  cases q : X.s₀.heap.get? b with
  | none => rfl
  | some o =>
    obtain ⟨o', e⟩ := I.base.there b o q (by rw [hex]; simp)
    rw [h] at e
    cases e
theorem Inv.mvd (I : Inv X pins σ H s) {h' : Heap} {xs : List Addr} (m : Mvd (frs X.stack) xs s.heap h') (hx : ∀ b ∈ xs, X.s₀.heap.get? b = none ∧ H b = none) (hex : X.ex = []) : Un X.fs [] X.H₀ H X.s₀.heap h' ∧ HOk X.prog X.w H h' := by
  have low : ∀ b o, X.s₀.heap.get? b = some o → b ∉ xs := fun b o e hb => by rw [(hx b hb).1] at e; cases e
  have neL : ∀ b o, X.s₀.heap.get? b = some o → b ≠ X.env.locals := fun b o e => Nat.ne_of_lt (Nat.lt_of_lt_of_le (Heap.lt_size e) I.ok.above)
  have nst : ∀ b o, X.s₀.heap.get? b = some o → b ∉ X.fs → b ∉ frs X.stack := fun b o e hf hs => by
    rcases I.ok.stk with z | ⟨z, z2⟩
    · rw [z] at hs; exact hf hs
    · rw [z] at hs
      unfold frs at hs
      rw [List.filterMap_cons, z2] at hs
      rcases List.mem_cons.mp hs with q | q
      · exact neL b o e q
      · exact hf q
  have B := I.base
  rw [hex] at B
  refine ⟨⟨fun b o e n hf _ => ?_, fun b o e n hf _ => ?_, fun b o e n _ => B.free b o e n (by simp), fun b o e _ => ?_, B.tups, B.frzs, B.tbls⟩, fun b u e => ?_⟩
  · exact m.keep b o (low b o e) (nst b o e hf) (B.keep b o e n hf (by simp))
  · obtain ⟨sl, e1⟩ := B.slot b o e n hf (by simp)
    obtain ⟨sl', e2⟩ := m.slot b _ (low b o e) e1
    exact ⟨sl', e2⟩
  · obtain ⟨o', e1⟩ := B.there b o e (by simp)
    obtain ⟨sl, e2⟩ := m.slot b o' (low b o e) e1
    exact ⟨_, e2⟩
  · have tr : ∀ c v, H c = some v → c ∉ xs ∧ c ∉ frs X.stack := fun c v q => ⟨(fun z => by rw [(hx c z).2] at q; cases q), (fun z => by rw [I.stkFree c z] at q; cases q)⟩
    refine (I.hok b u e).stay (fun c v hc q => m.keep c v ?_ ?_ q) (fun _ q => q) fun _ _ q => q
    · rcases hc with z | z
      · rw [z]; exact (tr b u e).1
      · exact (tr c _ z).1
    · rcases hc with z | z
      · rw [z]; exact (tr b u e).2
      · exact (tr c _ z).2
end
section
variable {P : Program} {w : World} {K : PySem.W.Frag} {mg : Str → Option Value} {base : Heap} {N : List Str} {qual : Str} {scope : Scope} {f : Addr} {cd : Value} {A : Around} {outer : List Env} {s0 : Shared} {H0 : Hp} {E : XK}
theorem passes_cx {E' : XK} (h : ∀ cls od H', E' cls od H' → E cls od H') : Passes (CXR P w) (cxOf (CXR P w) P w K mg base N qual scope f cd A outer s0 H0 E) E' := by
  intro pins σ H s ev s' I c
  obtain ⟨e, T, cls, od, H', rfl, h1, h2, h3, h4, h5, h6, h7, h8, h9, h10⟩ := c
  have J : Inv (cxOf (CXR P w) P w K mg base N qual scope f cd A outer s0 H0 E) pins σ H' s' := I.call' (ch := []) h1 h3 h4 h2 (fun b z => absurd z (by simp))
  refine leave_next (base := base) (outer := outer) (L := s0.heap.objs.size) J.ok.frames J.stack rfl h9 fun h' T' hT' y m => ?_
  obtain ⟨u, ok⟩ := J.mvd (h' := h') m (fun b hb => by
    simp only [List.mem_cons, List.not_mem_nil, or_false] at hb
    rcases hb with rfl | rfl | rfl
    · exact ⟨I.old rfl h5, h7⟩
    · exact ⟨I.old rfl h6, h8⟩
    · exact ⟨J.old rfl (Heap.get?_none_of_le hT'), J.hok.fresh hT'⟩) rfl
  exact ⟨e, T', cls, od, H', rfl, J.os, J.bare, u, ok, I.old rfl h5, J.old rfl (Heap.get?_none_of_le hT'), h7, J.hok.fresh hT', y, h _ _ _ h10⟩
theorem raises_cx {pins : List (Addr × Obj)} {σ : St} {H : Hp} {s : Shared} {e : Addr} {cls : Value} {od : Option Addr} (I : Inv (cxOf (CXR P w) P w K mg base N qual scope f cd A outer s0 H0 E) pins σ H s) (x : Made s.heap e cls od) (he : s0.heap.get? e = none) (hn : H e = none) (h : E cls od H) :
    (cxOf (CXR P w) P w K mg base N qual scope f cd A outer s0 H0 E).xe (.ref e) s := by
  refine leave_first (base := base) (outer := outer) (L := s0.heap.objs.size) I.ok.frames I.stack rfl x fun h' T hT y m => ?_
  obtain ⟨u, ok⟩ := I.mvd (h' := h') m (fun b hb => by
    simp only [List.mem_cons, List.not_mem_nil, or_false] at hb
    rcases hb with rfl | rfl
    · exact ⟨he, hn⟩
    · exact ⟨I.old rfl (Heap.get?_none_of_le hT), I.hok.fresh hT⟩) rfl
  exact ⟨e, T, cls, od, H, rfl, I.os, I.bare, u, ok, he, I.old rfl (Heap.get?_none_of_le hT), hn, I.hok.fresh hT, y, h⟩
end
end L2

set_option Elab.async false
set_option linter.all false
set_option maxRecDepth 100000
set_option maxHeartbeats 4000000
namespace L2
open PySem PySem.Spec PyProof.Rows
section
variable {P : Program} {w : World} {K : PySem.W.Frag} {mg : Str → Option Value} {base : Heap}
theorem Fun.okx {x qual : Str} {st : Stmt} {f : Addr} {fd : FuncData} {N ps : List Str} {k : Nat} {sp : Sp} (F : Fun K x qual st f fd) (S : FnScope N ps (defScope st)) (len : ∀ vs H Q E, sp vs H Q E → vs.length = ps.length)
    (hbody : ∀ (cdv : Value) (A : Around) (outer : List Env) (s : Shared) (H : Hp) (vs : List V) (Q : VK) (E : XK), Room k (A.deeper (envOfC qual (defScope st) s.heap.objs.size f cdv)) → sp vs H Q E →
      ∃ t, QSs (cxOf (CXR P w) P w K mg base N qual (defScope st) f cdv A outer s H E) (defBody st) t ∧ t { nx := fun _ H' => Q .non H', rt := Q } (start N vs) H) : FnOk P w K mg base (CXR P w) (k + 1) f fd ps sp := by
  obtain ⟨oc, od, kV, doc, pm, an, cdv, ct, osl, rfl, lk, hcd⟩ := F.ex
  refine fn_of lk hcd S len fun A outer s H vs Q E hr hsp => ?_
  obtain ⟨t, h, q⟩ := hbody cdv A outer s H vs Q E hr hsp
  exact ⟨t, h.run, q⟩
structure CalleeX (P : Program) (w : World) (K : PySem.W.Frag) (mg : Str → Option Value) (base : Heap) (k : Nat) (x : Str) (ps : List Str) (sp : Sp) : Prop where
  ex : ∃ (f : Addr) (fd : FuncData), FnOk P w K mg base (CXR P w) k f fd ps sp ∧ mg x = some (.ref f) ∧ PySem.W.keepIn K (.ref f) = true ∧ Binds K fd ps []
theorem calleex_of {k : Nat} {x : Str} {ps : List Str} {sp : Sp} {f : Addr} {fd : FuncData} (F : FnOk P w K mg base (CXR P w) k f fd ps sp) (m : mg x = some (.ref f)) (kp : PySem.W.keepIn K (.ref f) = true) (b : Binds K fd ps []) : CalleeX P w K mg base k x ps sp := ⟨f, fd, F, m, kp, b⟩
end
section
variable {X : Cx} {k : Nat} {x : Str} {ps : List Str} {sp : Sp} {p pos np cpos : Pos} {e : Expr} {es : List Expr} {t : TA} {E : XK}
theorem qe_fnx (C : CalleeX X.prog X.w X.K X.mg X.base k x ps sp) (hr : Room k X.A) (hx : Passes (CXR X.prog X.w) X E) (ha : QA X (e :: es) t) (hg : Gl X x := by rfl) (hdb : (x == ("__debug__" : Str)) = false := by decide)
    (he : starEach (e :: es) X.env = (false, eval e X.env) :: starEach es X.env := by rfl) (hpl : (backTo pos (starEach es X.env)).any (·.1) = false := by rfl) : QE X (.Call (.Name x p) (e :: es) [] pos) (tCall sp [] E t) := by
  obtain ⟨f, fd, F, hm, hk, hb⟩ := C.ex
  exact ⟨pe_call F hr hg hm hk hb .nil hx ha.run hdb he hpl⟩
noncomputable abbrev VE : List Value := [.type "ValueError", .type "Exception", .type "BaseException", .type "object"]
noncomputable def Raises (X : Cx) (E : XK) : Prop := ∀ (pins : List (Addr × Obj)) (σ : St) (H : Hp) (s : Shared) (a : Addr) (cls : Value) (od : Option Addr), Inv X pins σ H s → Made s.heap a cls od → X.s₀.heap.get? a = none → H a = none → E cls od H → X.xe (.ref a) s
theorem exc_in {K : PySem.W.Frag} {h0 : Heap} {C : Addr} (kin0 : K.In h0) (q : PySem.W.excIn K C VE "ValueError.__new__" = true) :
    ∃ bm N nm q bs hdct sn sub ab col dd k0 k1 k2 k3 k5 mN, mN "__init__" = none ∧ ∀ h : Heap, K.In h → h.get? C = some (excClassObj nm q C N bs bm hdct sn sub ab col dd k0 k1 k2 k3 k5 "ValueError.__new__") ∧ h.Ns N mN ∧ OwnTail h VE bm := by
  unfold PySem.W.excIn at q
  split at q
  · rename_i dd cd sl ho
    split at q
    · rename_i C' bm k0 k1 k2 k3 n k5 hm hs
      simp only [Bool.and_eq_true, beq_iff_eq, Bool.not_eq_true'] at q
      obtain ⟨⟨⟨⟨⟨rfl, rfl⟩, hdel⟩, ht⟩, hok⟩, hni⟩ := q
      obtain ⟨nm, bs, mro, ns, qn, hd, sn, sub, ab, col, del⟩ := cd
      dsimp only at hm hdel hok hni
      subst hm hdel
      have hsl : sl = #[k0, k1, k2, k3, some (.builtin "ValueError.__new__"), k5] := by
        obtain ⟨l⟩ := sl
        simp only at hs
        rw [hs]
      subst hsl
      have n0 : h0.Ns ns (h0.nsMap ns) := .of_isNs (PySem.W.isNs_of_in kin0 hok)
      refine ⟨bm, ns, nm, qn, bs, hd, sn, sub, ab, col, dd, k0, k1, k2, k3, k5, h0.nsMap ns, PySem.W.nsMap_none_of_in kin0 hok hni, fun h kin => ⟨kin _ _ ho, ?_, PySem.W.tail_of_in kin ht⟩⟩
      obtain ⟨o, es, ep, e, r⟩ := n0
      refine ⟨o, es, ep, ?_, r⟩
      unfold PySem.W.nsOkIn at hok
      split at hok
      · rename_i hl
        have := kin0 _ _ hl
        rw [e] at this
        cases this
        exact kin _ _ hl
      · cases hok
    · cases q
  · cases q
theorem ObjOk.there {P : Program} {w : World} {H : Hp} {h : Heap} {a : Addr} {o : HO} (x : ObjOk P w H h a o) : ∃ u, h.get? a = some u := by
  induction o with
  | lst xs => obtain ⟨_, _, _, _, e⟩ := x; exact ⟨_, e⟩
  | tup xs => obtain ⟨_, _, _, o, e, _⟩ := x; exact ⟨_, e⟩
  | dK kvs => obtain ⟨_, _, vs, _, d⟩ := x; obtain ⟨o, e, _⟩ := Heap.dictOf_iff.mp d; exact ⟨_, e⟩
  | dT kvs => obtain ⟨_, _, _, _, o, _, _, e, _⟩ := x; exact ⟨_, e⟩
  | set S n => obtain ⟨o, _, _, _, e, _⟩ := x; exact ⟨_, e⟩
  | ins C dx fs => obtain ⟨_, _, _, e, _⟩ := x; exact ⟨_, e⟩
  | own y => exact x
  | xd fs => obtain ⟨_, ⟨o, _, _, e, _⟩, _⟩ := x; exact ⟨_, e⟩
  | met f y => exact ⟨_, x⟩
  | rng lo hi => obtain ⟨_, _, _, e⟩ := x; exact ⟨_, e⟩
  | frz o u _ => exact ⟨_, x.1⟩
  | tbl ps => exact ⟨_, x⟩
  | ext φ => exact x.2.1
theorem HOk.no {P : Program} {w : World} {H : Hp} {h : Heap} (x : HOk P w H h) {a : Addr} (e : h.get? a = none) : H a = none := by
  cases q : H a with
  | none => rfl
  | some u =>
    have z := (x a u q).there
    rw [e] at z
    obtain ⟨o, z⟩ := z
    cases z
theorem qs_raise {C : Addr} {a : Expr} (hc : X.calm = true) (hC : PySem.W.excIn X.K C VE "ValueError.__new__" = true) (G : X.mg x = some (.ref C)) (ha : QA X [a] t) (hx : Raises X E) (hex : X.ex = []) (hg : Gl X x := by rfl) (hdb : (x == ("__debug__" : Str)) = false := by decide)
    (he : starEach [a] X.env = [(false, eval a X.env)] := by rfl) : QS X (.Raise (some (.Call (.Name x np) [a] [] cpos)) none pos) (fun D σ H => t σ H fun vs H1 => vs.length ≤ sizeLine ∧ E (.ref C) none H1) := by
  refine ⟨fun pins s σ H D I h => ?_⟩
  obtain ⟨bm, N, nm, q, bs, hdct, sn, sub, ab, col, dd, k0, k1, k2, k3, k5, mN, cni, cl⟩ := exc_in I.kIn hC
  obtain ⟨cC, cN, cT⟩ := cl _ I.kIn
  refine wpAny_Raise_call_subU (C := C) (nm := nm) (q := q) (N := N) (bs := bs) (bm := bm) (hdct := hdct) (sn := sn) (sub := sub) (ab := ab) (col := col) (dd := dd) (k0 := k0) (k1 := k1) (k2 := k2) (k3 := k3) (k5 := k5)
    PySem.F.excBase_ValueError (by decide) PySem.F.excBase_ValueError (mN := mN) (cT.hasType PySem.F.excBase_ValueError.hasBase) (I.ok.hd hc) (by rw [he]; rfl) cni (ld_glob I hg G ⟨rfl, ?_⟩ hdb)
  rw [he]
  have ar := ha.run cpos pins s σ H _ I h
  rw [he] at ar
  refine Calls.evalArgs_plain (wpAny_mono ar (fun us s2 h2 => ?_) fun _ _ y => y)
  obtain ⟨vs, H1, I1, r1, z, q1⟩ := h2
  obtain ⟨cC', cN', cT'⟩ := cl _ I1.kIn
  refine ⟨rfl, by rw [← r1.length]; exact z, cC', cN', cT', fun h' a' hm => ?_⟩
  obtain ⟨t', e1, _, _⟩ := hm.there
  have I2 : Inv X pins σ H1 { s2 with heap := h' } := I1.kept (t' := s2.toks) hm.keeps
  exact hx pins σ H1 _ a' (.ref C) none I2 ⟨_, _, e1, rfl, rfl, rfl, rfl⟩ (I1.old hex hm.new) (I1.hok.no hm.new) q1
end
end L2

set_option Elab.async false
set_option linter.all false
set_option maxRecDepth 100000
set_option maxHeartbeats 4000000
namespace L2
open PySem PySem.Spec PyProof.Rows
noncomputable def exk (a : Addr) (cls : Value) (od : Option Addr) : HO := .ext fun h => ∃ o vs, h.get? a = some o ∧ o.cls = cls ∧ o.dict = od ∧ o.data = .fields vs
theorem exk_ok {P : Program} {w : World} {H : Hp} {h : Heap} {a T : Addr} {cls : Value} {od : Option Addr} (x : Lies h a T cls od) : ObjOk P w H h a (exk a cls od) := by
  obtain ⟨oe, vs, oT, ts, a1, a2, a3, a4, a5, a6, a7, a8, a9⟩ := x
  refine ⟨⟨oe, vs, a1, a2, a3, a4⟩, ⟨oe, a1⟩, fun h1 h2 q k => ?_⟩
  obtain ⟨o, vs, q1, q2⟩ := q
  exact ⟨o, vs, k o q1, q2⟩
theorem Un.land {fs xs : List Addr} {H H' : Hp} {h h1 h2 : Heap} {e : Addr} {o : HO} (u : Un fs [] H H' h h1) (m : Mvd fs xs h1 h2) (hx : ∀ b ∈ xs, h.get? b = none) (he : h.get? e = none) (hn : H' e = none) : Un fs [] H (upd H' e o) h h2 := by
  have low : ∀ b ob, h.get? b = some ob → b ∉ xs := fun b ob q z => by rw [hx b z] at q; cases q
  have ne : ∀ b ob, h.get? b = some ob → b ≠ e := fun b ob q z => by rw [z, he] at q; cases q
  have ne' : ∀ b ob, H' b = some ob → b ≠ e := fun b ob q z => by rw [z, hn] at q; cases q
  refine ⟨fun b ob q n hf _ => m.keep b ob (low b ob q) hf (u.keep b ob q n hf (by simp)), fun b ob q n hf _ => ?_, fun b ob q n _ => ?_, fun b ob q _ => ?_, fun b ys q => ?_, fun b ob v q => ?_, fun b ps q => ?_⟩
  · obtain ⟨sl, e1⟩ := u.slot b ob q n hf (by simp)
    obtain ⟨sl', e2⟩ := m.slot b _ (low b ob q) e1
    exact ⟨sl', e2⟩
  · rw [upd_ne (ne b ob q)]; exact u.free b ob q n (by simp)
  · obtain ⟨o', e1⟩ := u.there b ob q (by simp)
    obtain ⟨sl, e2⟩ := m.slot b o' (low b ob q) e1
    exact ⟨_, e2⟩
  · have z := u.tups b ys q
    rw [upd_ne (ne' b _ z)]; exact z
  · have z := u.frzs b ob v q
    rw [upd_ne (ne' b _ z)]; exact z
  · obtain ⟨more, z⟩ := u.tbls b ps q
    exact ⟨more, by rw [upd_ne (ne' b _ z)]; exact z⟩
theorem HOk.land {P : Program} {w : World} {fs xs : List Addr} {H : Hp} {h1 h2 : Heap} {e : Addr} {o : HO} (x : HOk P w H h1) (m : Mvd fs xs h1 h2) (hx : ∀ b ∈ xs, H b = none) (hf : ∀ b ∈ fs, H b = none) (hn : H e = none) (new : ObjOk P w (upd H e o) h2 e o) : HOk P w (upd H e o) h2 := by
  intro b u q
  by_cases hb : b = e
  · subst hb
    rw [upd_same] at q
    cases q
    exact new
  · rw [upd_ne hb] at q
    have tr : ∀ c v, H c = some v → c ∉ xs ∧ c ∉ fs := fun c v q => ⟨(fun z => by rw [hx c z] at q; cases q), (fun z => by rw [hf c z] at q; cases q)⟩
    have ne' : ∀ b ob, H b = some ob → b ≠ e := fun b ob q z => by rw [z, hn] at q; cases q
    refine (x b u q).stay (fun c v hc z => ?_) (fun c z => by rw [upd_ne (ne' c _ z)]; exact z) fun c ys z => by rw [upd_ne (ne' c _ z)]; exact z
    rcases hc with r | r
    · rw [r] at z ⊢
      exact m.keep b v (tr b u q).1 (tr b u q).2 z
    · exact m.keep c v (tr c _ r).1 (tr c _ r).2 z
noncomputable abbrev TX := St → Hp → VK → XK → Prop
noncomputable abbrev TXS := Ends → (St → XK) → St → Hp → Prop
noncomputable def XP (X : Cx) (pins : List (Addr × Obj)) (σ : St) (E : XK) (ev : Value) (s' : Shared) : Prop := ∃ H0 s0, Inv X pins σ H0 s0 ∧ CXR X.prog X.w X.stack H0 s0 E ev s'
structure QX (X : Cx) (e : Expr) (t : TX) : Prop where
  run : ∀ (pins : List (Addr × Obj)) (s : Shared) (σ : St) (H : Hp) (Q : VK) (E : XK), Inv X pins σ H s → t σ H Q E → wpAny (model X.prog X.w) X.A (eval e X.env) (EP X pins σ Q) (XP X pins σ E) s
structure QXS (X : Cx) (sts : List Stmt) (t : TXS) : Prop where
  run : ∀ (pins : List (Addr × Obj)) (s : Shared) (σ : St) (H : Hp) (D : Ends) (E : St → XK), Inv X pins σ H s → t D E σ H → wpAny (model X.prog X.w) X.A (execs sts X.env) (SP X pins D) (fun ev s' => ∃ σ', XP X pins σ' (E σ') ev s') s
noncomputable abbrev Cx.to (X : Cx) (A : Around) (c : Bool) (XE : Value → Shared → Prop) : Cx := { X with A := A, calm := c, xe := XE }
section
variable {X : Cx} {pins : List (Addr × Obj)} {σ : St} {H : Hp} {s : Shared}
theorem Inv.to (I : Inv X pins σ H s) {A : Around} {c : Bool} {XE : Value → Shared → Prop} (hA : A.frames = X.A.frames) (hc : c = true → A.handled = none) : Inv (X.to A c XE) pins σ H s :=
  ⟨⟨I.ok.mod, I.ok.kind, I.ok.glob, I.ok.blt, I.ok.above, I.ok.inj, I.ok.has, I.ok.cab, hc, hA.trans I.ok.frames, I.ok.stk, I.ok.exf, I.ok.bs, I.ok.bsz, I.ok.noex, I.ok.exfs, I.ok.funs, I.ok.frf⟩, I.os, I.bare, I.base, I.loc, I.cell, I.free, I.freeC, I.pin, I.hok, I.len⟩
theorem Inv.back {A : Around} {c : Bool} {XE : Value → Shared → Prop} (I : Inv (X.to A c XE) pins σ H s) (ok : X.Ok) : Inv X pins σ H s :=
  ⟨ok, I.os, I.bare, I.base, I.loc, I.cell, I.free, I.freeC, I.pin, I.hok, I.len⟩
end
section
variable {X : Cx} {k : Nat} {x : Str} {ps : List Str} {sp : Sp} {p pos np cpos : Pos} {e : Expr} {es : List Expr} {t : TA}
theorem qxs_set {i : Nat} {t : TX} {pos' : Pos} (hN : X.N.Nodup) (hi : X.N[i]? = some x) (hx : Loc X.env.scope x) (he : QX X e t) (hs : swapsWith e (some (.Name x pos')) pos.line X.env = pure false := by rfl) (hf : X.fn x = true ∨ X.env.scope.names.lookup x = some .local := by first | exact .inl rfl | exact .inr rfl | assumption) :
    QXS X [.Assign [.Name x pos'] e pos] (fun D E σ H => t σ H (fun v H1 => D.nx (σ.set i (some v)) H1) (E σ)) := by
  refine ⟨fun pins s σ H D E I h => ?_⟩
  refine wpAny_execs_cons (wpAny_mono (wpAny_Assign_Name (Q := SP X pins D) (thn (he.run pins s σ H _ (E σ) I h) fun v s1 ⟨y, H1, I1, r1, q1⟩ => store_ok I1 hN hi hx r1 (fun s2 I2 => ⟨_, H1, I2, q1⟩) hf) hs) (fun f s1 q => ?_) fun ev s1 q => ⟨σ, q⟩)
  cases f with
  | next => exact wpAny_execs_nil q
  | ret v => exact q
  | brk => exact q
  | cont => exact q
end
end L2

set_option Elab.async false
set_option linter.all false
set_option maxRecDepth 100000
set_option maxHeartbeats 4000000
namespace L2
open PySem PySem.Spec PyProof.Rows
structure ExcC (K : PySem.W.Frag) (C : Addr) : Prop where
  ty : PySem.W.typeIn K (.ref C) = some (.type "type")
  cl : (PySem.W.clsIn K C).isSome = true
  bs : PySem.W.subIn K (.ref C) (.type "BaseException") = some true
theorem looks_isType {K : PySem.W.Frag} {M : Model} {h : Heap} {C : Addr} (X : K.In h) (e : (PySem.W.clsIn K C).isSome = true) : PySem.W.Looks M h (isType (.ref C)) true := by
  unfold PySem.W.clsIn at e
  split at e
  · rename_i c' d' cd' sl' ho
    intro A' Q' E' s' k q
    unfold isType loadHead
    exact wpAny_bind (wpAny_loadPart (k _ _ (X _ _ ho)) (wpAny_pure q))
  · cases e
theorem exc_matches {K : PySem.W.Frag} {M : Model} {A : Around} {E : Value → Shared → Prop} {s : Shared} {Q : Bool → Shared → Prop} {e C C' : Addr} {oe : Obj} (X : K.In s.heap) (c : ExcC K C) (he : s.heap.get? e = some oe) (hcls : oe.cls = .ref C') (hs : PySem.W.subIn K (.ref C') (.ref C) = some true) (h : Q true s) :
    wpAny M A (excMatches (.ref e) (.ref C)) Q E s := by
  have L1 : PySem.W.Looks M s.heap (typeOf (.ref C)) (.type "type") := PySem.W.looks_typeIn X c.ty
  have L2 : PySem.W.Looks M s.heap (isType (.ref C)) true := looks_isType X c.cl
  have L3 := PySem.W.looks_subIn (M := M) X c.bs
  have L4 : PySem.W.Looks M s.heap (typeOf (.ref e)) (.ref C') := by
    intro A' Q' E' s' k q
    unfold typeOf
    exact wpAny_bind (wpAny_loadPart (k _ _ he) (wpAny_pure (by rw [hcls]; exact q)))
  have L5 := PySem.W.looks_subIn (M := M) X hs
  have f := tc_notTuple
  unfold excMatches
  unfold isInstance isExcClass
  repeat (first | with_reducible refine L1.here ?_ | with_reducible refine L2.here ?_ | with_reducible refine L3.here ?_ | with_reducible refine L4.here ?_ | with_reducible refine L5.here ?_ | wp_step)
  exact h
section
variable {X : Cx} {pins : List (Addr × Obj)} {σ : St} {H : Hp} {s : Shared}
theorem goes_ok {M : Model} {A : Around} {E : Value → Shared → Prop} {i : Nat} {n : Str} {hpos : Pos} {Q : Unit → Shared → Prop} (I : Inv X pins σ H s) (hN : X.N.Nodup) (hi : X.N[i]? = some n) (hk : X.env.scope.names.lookup n = some .local)
    (h : ∀ s', Inv X pins (σ.set i none) H s' → Q () s') : wpAny M A (do bindName X.env n .none; unbindBehindTheSuite X.env n hpos) Q E s := by
  obtain ⟨m, hn, hl⟩ := id I.loc
  have hcls : (X.env.scope.kind == .class || (X.env.scope.kind == .module && X.env.locals != X.env.globals)) = false := by rw [I.ok.kind]; rfl
  have cne := I.cne
  obtain ⟨oL, _, _, hoL, _⟩ := id hn
  refine wpAny_nameGoes_keeps hk hn hcls fun h' v hn' hs => ?_
  have hok : HOk X.prog X.w H h' := fun b ob e => by
    refine (I.hok b ob e).stay (fun c w' hc q => (hs.2 c ?_).trans q) (fun _ q => q) fun _ _ q => q
    rintro rfl
    rcases hc with rfl | hc
    · rw [I.free] at e; cases e
    · rw [I.free] at hc; cases hc
  refine h _ ⟨I.ok, I.os, I.bare, ⟨fun b o e n hb hx => ?_, fun b o e n hb hx => ?_, I.base.free, fun b o e hx => ?_, I.base.tups, I.base.frzs, I.base.tbls⟩, ⟨_, hn', fun j y v' e1 e2 e3 => ?_⟩, fun y c e => ?_, I.free, I.freeC, fun p hp => ?_, hok, by simpa using I.len⟩
  · exact (hs.2 b (Nat.ne_of_lt (Nat.lt_of_lt_of_le (Heap.lt_size e) I.ok.above))).trans (I.base.keep b o e n hb hx)
  · obtain ⟨sl, e1⟩ := I.base.slot b o e n hb hx
    exact ⟨sl, (hs.2 b (Nat.ne_of_lt (Nat.lt_of_lt_of_le (Heap.lt_size e) I.ok.above))).trans e1⟩
  · obtain ⟨o', e1⟩ := I.base.there b o e hx
    exact ⟨o', (hs.2 b (Nat.ne_of_lt (Nat.lt_of_lt_of_le (Heap.lt_size e) I.ok.above))).trans e1⟩
  · by_cases hj : j = i
    · subst hj
      have hiσ : j < σ.length := by rw [I.len]; exact (List.getElem?_eq_some_iff.mp hi).1
      rw [List.getElem?_set_self hiσ] at e2
      cases e2
    · rw [List.getElem?_set_ne (Ne.symm hj)] at e2
      obtain ⟨u', r', q⟩ := hl j y v' e1 e2 e3
      refine ⟨u', r', ?_⟩
      rcases q with ⟨k, e⟩ | ⟨k, c, e, z⟩
      · refine .inl ⟨k, ?_⟩
        have : y ≠ n := fun e => hj (nodup_ix hN e1 (e ▸ hi))
        simp [this, e]
      · exact .inr ⟨k, c, e, z.sameBut hs (cne y c e)⟩
  · obtain ⟨w', z⟩ := I.cell y c e
    exact ⟨w', z.sameBut hs (cne y c e)⟩
  · obtain ⟨e, n, ne, nf, d⟩ := I.pin p hp
    exact ⟨(hs.2 p.1 ne).trans e, n, ne, nf, d⟩
end
section
variable {X : Cx} {c n : Str} {np hpos pos : Pos} {body hbody : List Stmt} {b₀ : Stmt} {tb : TXS} {th : TS} {i : Nat} {C : Addr}
noncomputable def Ends.gone (D : Ends) (i : Nat) : Ends := { nx := fun σ H => D.nx (σ.set i none) H, rt := D.rt, bk := fun σ H => D.bk (σ.set i none) H, ct := fun σ H => D.ct (σ.set i none) H }
noncomputable def tTry (K : PySem.W.Frag) (C : Addr) (i : Nat) (tb : TXS) (th : TS) : TS := fun D σ H => tb D (fun σ1 cls od H2 => (∃ C', cls = .ref C' ∧ PySem.W.subIn K (.ref C') (.ref C) = some true) ∧ ∀ a, H2 a = none → th (D.gone i) (σ1.set i (some (.ref a))) (upd H2 a (exk a cls od))) σ H
theorem qs_tryM (hN : X.N.Nodup) (hi : X.N[i]? = some n) (hk : X.env.scope.names.lookup n = some .local) (hC : ExcC X.K C) (G : X.mg c = some (.ref C)) (hf : X.env.frame = some X.env.locals) (hst : X.stack = X.env :: X.outer) (hb : QXS X body tb) (hh : ∀ e XE, QSs (X.to (X.A.mark (some e)) false XE) (b₀ :: hbody) th) (hg : Gl X c := by rfl) (hdb : (c == ("__debug__" : Str)) = false := by decide) :
    QS X (.Try body [.ExceptHandler (some (.Name c np)) (some n) (b₀ :: hbody) hpos] [] [] pos) (tTry X.K C i tb th) := by
  refine ⟨fun pins s σ H D I h => ?_⟩
  refine wpAny_Try_except (wpAny_mono (hb.run pins s σ H D _ I h) (fun f s1 q => ?_) fun ev s1 q => ?_)
  · cases f with
    | next => exact wpAny_execs_nil q
    | ret v => exact q
    | brk => exact q
    | cont => exact q
  · obtain ⟨σ1, H0, s0, I0, e, T, cls, od, H', rfl, h1, h2, h3, h4, h5, h6, h7, h8, h9, ⟨C', rfl, hsub⟩, h10⟩ := q
    have J : Inv X pins σ1 H' s1 := I0.call' (ch := []) h1 h3 h4 h2 (fun b z => absurd z (by simp))
    have hfr : X.A.frames = some (X.env :: X.outer) := by rw [← hst]; exact J.ok.frames
    have hstk := J.stack
    rw [hst] at hstk
    refine note_next (base := X.base) hfr hstk hf h9 fun h' T' hT' y m => flight_none (fs := frs (X.env :: X.outer)) y fun h'' y' m' => ?_
    have M1 : Mvd (frs X.stack) [e, T, T'] s1.heap h'' := by rw [hst]; exact (m.mono (by simp)).trans (m'.mono (by simp))
    have fT' : s0.heap.get? T' = none := by
      cases q : s0.heap.get? T' with
      | none => rfl
      | some o =>
        obtain ⟨o', z⟩ := h3.there T' o q (by simp)
        exact absurd (Heap.lt_size z) (Nat.not_lt.mpr hT')
    have hT'n : H' T' = none := J.hok.fresh hT'
    have fx : ∀ b ∈ [e, T, T'], s0.heap.get? b = none ∧ H' b = none := by
      intro b hb
      simp only [List.mem_cons, List.not_mem_nil, or_false] at hb
      rcases hb with rfl | rfl | rfl
      · exact ⟨h5, h7⟩
      · exact ⟨h6, h8⟩
      · exact ⟨fT', hT'n⟩
    have land : ∀ {h3' : Heap}, Mvd (frs X.stack) [e, T, T'] s1.heap h3' → Lies h3' e T' (.ref C') od → Inv X pins σ1 (upd H' e (exk e (.ref C') od)) { s1 with heap := h3' } := fun {h3'} mm ll =>
      I0.call' (s' := { s1 with heap := h3' }) (ch := []) h1 (h3.land mm (fun b hb => (fx b hb).1) h5 h7) (h4.land mm (fun b hb => (fx b hb).2) (fun b hb => J.stkFree b hb) h7 (exk_ok ll)) h2 (fun b z => absurd z (by simp))
    have I1 := land M1 y'
    refine wpAny_handleBy_cons (codeAny_handlers_test ?_) (by intro q; cases q)
    have I1' : Inv (X.to (X.A.mark (some (.ref e))) false (notedBy (model X.prog X.w) (X.A.mark (some (.ref e))) X.env fun x s₁ => True)) pins σ1 (upd H' e (exk e (.ref C') od)) { s1 with heap := h'' } := I1.to rfl (by simp)
    refine ld_glob I1' hg G ?_ hdb
    obtain ⟨oe, vs, oT, ts, a1, a2, a3, a4, a5, a6, a7, a8, a9⟩ := id y'
    refine exc_matches I1.kIn hC a1 a2 hsub ?_
    refine codeAny_handlers_suite_as (flight_none (fs := frs X.stack) y' fun h4' y4 m4 => ?_)
    have I2 := land (M1.trans (m4.mono (by simp))) y4
    refine store_ok (v := .ref e) I2 hN hi (.inl hk) rfl (fun s3 I3 => ?_) (.inr hk)
    refine wpAny_mono ((hh (.ref e) _).run pins s3 _ _ (D.gone i) (I3.to rfl (by simp)) (h10 e h7)) (fun f s4 q => ?_) fun ev s4 q => q
    cases f with
    | next =>
      obtain ⟨σ', H4, I4, q⟩ := q
      exact goes_ok (I4.back I.ok) hN hi hk fun s5 I5 => ⟨_, H4, I5, q⟩
    | ret v =>
      obtain ⟨u, σ', H4, I4, r, q⟩ := q
      exact goes_ok (I4.back I.ok) hN hi hk fun s5 I5 => ⟨u, _, H4, I5, r, q⟩
    | brk =>
      obtain ⟨σ', H4, I4, q⟩ := q
      exact goes_ok (I4.back I.ok) hN hi hk fun s5 I5 => ⟨_, H4, I5, q⟩
    | cont =>
      obtain ⟨σ', H4, I4, q⟩ := q
      exact goes_ok (I4.back I.ok) hN hi hk fun s5 I5 => ⟨_, H4, I5, q⟩
end
end L2

set_option Elab.async false
set_option linter.all false
set_option maxRecDepth 100000
set_option maxHeartbeats 4000000
namespace L2
open PySem PySem.Spec PyProof.Rows
noncomputable def overVE : List Value → Bool
  | .ref _ :: r => overVE r
  | l => l == VE
theorem over_has : ∀ {l : List Value}, overVE l = true → l.contains (.type "object") = true ∧ l.contains (.type "BaseException") = true := by
  intro l
  induction l with
  | nil => intro e; cases e
  | cons c r ih =>
    intro e
    cases c with
    | ref a => obtain ⟨x, y⟩ := ih e; exact ⟨by rw [List.contains_cons, x, Bool.or_true], by rw [List.contains_cons, y, Bool.or_true]⟩
    | _ => rw [beq_iff_eq.mp (show (_ == _) = true from e)]; decide
structure ExC (K : PySem.W.Frag) (C : Addr) : Prop where
  ov : ((PySem.W.clsIn K C).any fun cd => overVE cd.mro) = true
  hd : PySem.W.hasDictIn K C = true
  ga : PySem.W.findIn K (.ref C) "__getattribute__" = some (some (.builtin "BaseException.__getattribute__"))
  gt : PySem.W.findIn K (.ref C) "__getattr__" = some none
  sa : PySem.W.findIn K (.ref C) "__setattr__" = some (some (.builtin "object.__setattr__"))
  dc : PySem.W.typeIn K (.ref C) = some (.type "type")
section
open PySem.W PySem.Builtin PySem.Builtin.ObjectAttr
variable {prog : Program} {w : World} {A : Around} {E : Value → Shared → Prop} {s : Shared} {K : Frag} {x C : Addr} {ox : Obj} {od : Option Obj} {name : Str} {R : Result → Shared → Prop}
end
end L2

set_option Elab.async false
set_option linter.all false
set_option maxRecDepth 100000
set_option maxHeartbeats 4000000
namespace L2
open PySem PySem.Spec PyProof.Rows
theorem exk_at {P : Program} {w : World} {H : Hp} {h : Heap} {a : Addr} {cls : Value} {od : Option Addr} (x : ObjOk P w H h a (exk a cls od)) : ∃ o vs, h.get? a = some o ∧ o.cls = cls ∧ o.dict = od ∧ o.data = .fields vs := x.1
noncomputable def del (H : Hp) (a : Addr) : Hp := fun b => if b = a then none else H b
theorem del_same {H : Hp} {a : Addr} : del H a a = none := by unfold del; rw [if_pos rfl]
theorem del_ne {H : Hp} {a b : Addr} (h : b ≠ a) : del H a b = H b := by unfold del; rw [if_neg h]
section
variable {X : Cx} {pins : List (Addr × Obj)} {σ : St} {H : Hp} {s : Shared}
theorem Inv.del {a : Addr} {φ : Heap → Prop} (I : Inv X pins σ H s) (h0 : X.s₀.heap.get? a = none) (e : H a = some (.ext φ)) : Inv X pins σ (L2.del H a) s := by
  have fr : ∀ b, H b = none → L2.del H a b = none := fun b q => by
    unfold L2.del; split
    · rfl
    · exact q
  have st : ∀ b o, H b = some o → (∀ φ, o ≠ .ext φ) → L2.del H a b = some o := fun b o q n => by
    rw [del_ne fun z => by rw [z, e] at q; cases q; exact n φ rfl]
    exact q
  refine ⟨I.ok, I.os, I.bare, ⟨I.base.keep, I.base.slot, fun b o q n hx => fr b (I.base.free b o q n hx), I.base.there, fun b xs q => st b _ (I.base.tups b xs q) (by intro φ z; cases z), fun b o u q => st b _ (I.base.frzs b o u q) (by intro φ z; cases z), fun b ps q => ?_⟩, I.loc, I.cell, fr _ I.free, fun x c q => fr _ (I.freeC x c q), fun p hp => ?_, fun b o q => ?_, I.len⟩
  · obtain ⟨more, z⟩ := I.base.tbls b ps q
    exact ⟨more, st b _ z (by intro φ z; cases z)⟩
  · obtain ⟨q1, q2, q3⟩ := I.pin p hp
    exact ⟨q1, fr _ q2, q3⟩
  · have hb : b ≠ a := fun z => by rw [z, del_same] at q; cases q
    rw [del_ne hb] at q
    exact (I.hok b o q).stay (fun _ _ _ z => z) (fun c z => st c _ z (by intro φ z; cases z)) fun c xs z => st c _ z (by intro φ z; cases z)
end
section
variable {X : Cx} {pins : List (Addr × Obj)} {σ : St} {H : Hp} {s : Shared} {a C : Addr} {f : Str} {A : Around} {E : Value → Shared → Prop}
open PySem.W PySem.Builtin PySem.Builtin.ObjectAttr
end
section
variable {X : Cx} {o e value : Expr} {f : Str} {pos pos' : Pos} {ta tv : TE}
end
section
open PySem.W
end
end L2

set_option Elab.async false
set_option linter.all false
set_option maxRecDepth 100000
set_option maxHeartbeats 4000000
namespace L2
open PySem PySem.Spec PyProof.Rows
noncomputable def excI (K : PySem.W.Frag) (C : Addr) : Bool := match K.lookup C with
  | some ⟨.type "type", _, .cls cd, sl⟩ => (match cd.mro, sl.toList with
    | .ref C' :: bm, [_, _, _, _, some (.builtin n), _] => C' == C && n == "ValueError.__new__" && !cd.hasDel && PySem.W.tailIn K VE bm
    | _, _ => false)
  | _ => false
section
variable {prog : Program} {w : World} {A : Around} {E : Value → Shared → Prop} {h : Heap} {g : Array GenState} {d : Drawn} {t : Nat} {os : OsState}
variable {nm q : Str} {C N : Addr} {bs bm bmB : List Value} {hdct : Bool} {sn : List Str} {sub : List Value} {ab : Bool} {col : Option Bool} {dd : Option Addr} {k0 k1 k2 k3 k5 : Option Value} {B Bn newId nid initId inN : String} {bmN : List Value}
end
section
variable {X : Cx} {k : Nat} {x : Str} {sp : Sp} {ps : List Str} {C f : Addr} {fd : FuncData} {np cpos pos : Pos} {a : Expr} {t : TA} {E : XK}
structure Rz (K : PySem.W.Frag) (C f : Addr) : Prop where
  ei : excI K C = true
  init : PySem.W.findIn K (.ref C) "__init__" = some (some (.ref f))
  fn : PySem.W.isFn K (.ref f) = true
  kp : PySem.W.keepIn K (.ref C) = true
  bs : PySem.W.subIn K (.ref C) (.type "BaseException") = some true
  ty : PySem.W.typeIn K (.ref C) = some (.type "type")
end
end L2

set_option Elab.async false
set_option linter.all false
namespace L2
open PySem PySem.Spec PyProof.Rows
end L2

set_option Elab.async false
set_option linter.all false
set_option maxRecDepth 100000
set_option maxHeartbeats 4000000
namespace L2
open PySem PySem.Spec PyProof.Rows
structure RoomN (k : Nat) (A : Around) : Prop where
  dp : A.depth + 3 * k + 5 < recursionLimit
  un : A.units + 16 * k + 200 < cLine
theorem Room.n {k : Nat} {A : Around} (r : Room k A) : RoomN k A := ⟨r.dp, r.un⟩
theorem RoomN.mono {j k : Nat} {A : Around} (r : RoomN k A) (h : j ≤ k) : RoomN j A := ⟨by have := r.dp; omega, by have := r.un; omega⟩
theorem RoomN.deeper {k : Nat} {A : Around} (r : RoomN (k + 1) A) (env : Env) : RoomN k (A.deeper env) :=
  ⟨by have := r.dp; show A.depth + 1 + 3 * k + 5 < _; omega, by have := r.un; show A.units + 3 + 16 * k + 200 < _; omega⟩
theorem RoomN.mark {k : Nat} {A : Around} (r : RoomN k A) (e : Value) : RoomN k (A.mark (some e)) := ⟨r.dp, r.un⟩
structure FnOkN (P : Program) (w : World) (K : PySem.W.Frag) (mg : Str → Option Value) (base : Heap) (k : Nat) (f : Addr) (fd : FuncData) (ps : List Str) (sp : Sp) : Prop where
  len : ∀ vs H Q E, sp vs H Q E → vs.length = ps.length
  run : ∀ (A : Around) (outer : List Env) (s : Shared) (H : Hp) (args : Args) (us : List Value) (vs : List V) (Q : VK) (E : XK), RoomN k A → Env0 P w K mg base A outer s H → BindsTo s fd args (ps.zip us) → Vals vs us → sp vs H Q E →
    codeAny (model P w) A (.call (.ref f) args) (CR CX0 outer P w H s Q E) s
theorem FnOkN.fn {P : Program} {w : World} {K : PySem.W.Frag} {mg : Str → Option Value} {base : Heap} {k : Nat} {f : Addr} {fd : FuncData} {ps : List Str} {sp : Sp} (F : FnOkN P w K mg base k f fd ps sp) : FnOk P w K mg base CX0 k f fd ps sp :=
  ⟨F.len, fun A outer s H args us vs Q E hr => F.run A outer s H args us vs Q E hr.n⟩
section
variable {P : Program} {w : World} {K : PySem.W.Frag} {mg : Str → Option Value} {base : Heap}
theorem fn_ofN {k : Nat} {f : Addr} {name qual : Str} {params : Arguments} {body : List Stmt} {scope : Scope} {dV kV doc pm cdv ct oc : Value} {an od : Option Addr}
    {osl : Array (Option Value)} {N ps : List Str} {sp : Sp} (lk : K.lookup f = some ⟨oc, od, .func (PySem.W.fnOf name qual params body scope dV kV doc pm an cdv ct), osl⟩) (hcd : PySem.W.codeIn K cdv qual = true) (S : FnScope N ps scope)
    (len : ∀ vs H Q E, sp vs H Q E → vs.length = ps.length)
    (hbody : ∀ (A : Around) (outer : List Env) (s : Shared) (H : Hp) (vs : List V) (Q : VK) (E : XK), RoomN k (A.deeper (envOfC qual scope s.heap.objs.size f cdv)) → sp vs H Q E →
      ∃ t, PSs ((cxOf CX0 P w K mg base N qual scope f cdv A outer s H E).to (A.deeper (envOfC qual scope s.heap.objs.size f cdv)) false (fun _ _ => False)) body t ∧ t { nx := fun _ H' => Q .non H', rt := Q } (start N vs) H) :
    FnOkN P w K mg base (k + 1) f (PySem.W.fnOf name qual params body scope dV kV doc pm an cdv ct) ps sp := by
  refine ⟨len, fun A outer s H args us vs Q E hr e0 hb r hsp => ?_⟩
  have hl := len _ _ _ _ hsp
  have KX : K.In s.heap := e0.mod.kin.keeps fun b o e => (e0.bs b o e).1
  have lim : s.heap.NoLimit := e0.mod.nolimit.keeps fun b o e => (e0.bs b o e).1
  have hkind : ∀ y ∈ ps.zip us, scope.names.lookup y.1 = some .local ∨ (scope.names.lookup y.1 = some .cell ∧ ((cellsFrom (s.heap.objs.size + 1) scope.names []).lookup y.1).isSome = true) := fun ⟨n, v⟩ hy => by
    rcases S.par n (List.of_mem_zip hy).1 with q | q
    · exact .inl q
    · exact .inr ⟨q, PySem.W.cellsFrom_some _ _ _ (.inl q)⟩
  refine codeAny_call_function (by have := hr.dp; omega) (KX _ _ lk) rfl S.co S.gen rfl (PySem.W.codeRec_of KX hcd) (hb _ _ _ _ ?_)
  refine wpAny_newFunctionEnv_cells S.kind hkind fun env he s1 x => ?_
  subst he
  refine ⟨lim.keeps x.toInCall.keep, codeAny_func ?_⟩
  obtain ⟨t, ht, hq⟩ := hbody A outer s H vs Q E (hr.deeper _) hsp
  have e0' : Env0 P w K mg base { A with handled := none } outer s H := ⟨e0.frames, e0.mod, e0.bs, e0.bsz, e0.funs, e0.frf, e0.hok, e0.bare⟩
  have I0 : Inv (cxOf CX0 P w K mg base N qual scope f cdv { A with handled := none } outer s H E) [] (start N vs) H s1 := inv_start S rfl e0' hl r x
  have I : Inv ((cxOf CX0 P w K mg base N qual scope f cdv A outer s H E).to (A.deeper (envOfC qual scope s.heap.objs.size f cdv)) false (fun _ _ => False)) [] (start N vs) H s1 := I0.to (A := A.deeper (envOfC qual scope s.heap.objs.size f cdv)) (c := false) (XE := fun _ _ => False) rfl (by simp)
  refine wpAny_mono (ht [] s1 (start N vs) H _ I hq) (fun fl s' hs => ?_) fun e s' hs => False.elim hs
  have fin : ∀ {σ' : St} {H' : Hp} {v : V} {u : Value}, Inv ((cxOf CX0 P w K mg base N qual scope f cdv A outer s H E).to (A.deeper (envOfC qual scope s.heap.objs.size f cdv)) false (fun _ _ => False)) [] σ' H' s' → RelV v u → Q v H' → CE outer P w H s Q u s' :=
    fun {σ' H' v u} J rv q => ⟨v, H', J.os, J.bare, J.base, J.hok, rv, q⟩
  cases fl with
  | ret u =>
    obtain ⟨v, σ', H', J, rv, q⟩ := hs
    exact fin J rv q
  | next =>
    obtain ⟨σ', H', J, q⟩ := hs
    exact fin (v := V.non) (u := Value.none) J rfl q
  | brk =>
    obtain ⟨_, _, _, q⟩ := hs
    exact False.elim q
  | cont =>
    obtain ⟨_, _, _, q⟩ := hs
    exact False.elim q
theorem Fun.okN {x qual : Str} {st : Stmt} {f : Addr} {fd : FuncData} {N ps : List Str} {k : Nat} {sp : Sp} (F : Fun K x qual st f fd) (S : FnScope N ps (defScope st)) (len : ∀ vs H Q E, sp vs H Q E → vs.length = ps.length)
    (hbody : ∀ (cdv : Value) (A : Around) (outer : List Env) (s : Shared) (H : Hp) (vs : List V) (Q : VK) (E : XK), RoomN k (A.deeper (envOfC qual (defScope st) s.heap.objs.size f cdv)) → sp vs H Q E →
      ∃ t, QSs ((cxOf CX0 P w K mg base N qual (defScope st) f cdv A outer s H E).to (A.deeper (envOfC qual (defScope st) s.heap.objs.size f cdv)) false (fun _ _ => False)) (defBody st) t ∧ t { nx := fun _ H' => Q .non H', rt := Q } (start N vs) H) : FnOkN P w K mg base (k + 1) f fd ps sp := by
  obtain ⟨oc, od, kV, doc, pm, an, cdv, ct, osl, rfl, lk, hcd⟩ := F.ex
  refine fn_ofN lk hcd S len fun A outer s H vs Q E hr hsp => ?_
  obtain ⟨t, h, q⟩ := hbody cdv A outer s H vs Q E hr hsp
  exact ⟨t, h.run, q⟩
structure CalleeN (P : Program) (w : World) (K : PySem.W.Frag) (mg : Str → Option Value) (base : Heap) (k : Nat) (x : Str) (ps : List Str) (sp : Sp) : Prop where
  ex : ∃ (f : Addr) (fd : FuncData), FnOkN P w K mg base k f fd ps sp ∧ mg x = some (.ref f) ∧ PySem.W.keepIn K (.ref f) = true ∧ Binds K fd ps []
theorem calleen_of {k : Nat} {x : Str} {ps : List Str} {sp : Sp} {f : Addr} {fd : FuncData} (F : FnOkN P w K mg base k f fd ps sp) (m : mg x = some (.ref f)) (kp : PySem.W.keepIn K (.ref f) = true) (b : Binds K fd ps []) : CalleeN P w K mg base k x ps sp := ⟨f, fd, F, m, kp, b⟩
end
section
variable {X : Cx} {k : Nat} {x : Str} {ps : List Str} {sp : Sp} {p pos : Pos} {e : Expr} {es : List Expr} {t : TA}
theorem qe_fnN (C : CalleeN X.prog X.w X.K X.mg X.base k x ps sp) (hr : RoomN k X.A) (ha : QA X (e :: es) t) (hg : Gl X x := by rfl) (hdb : (x == ("__debug__" : Str)) = false := by decide)
    (he : starEach (e :: es) X.env = (false, eval e X.env) :: starEach es X.env := by rfl) (hpl : (backTo pos (starEach es X.env)).any (·.1) = false := by rfl) : QE X (.Call (.Name x p) (e :: es) [] pos) (tCall sp [] E0 t) := by
  obtain ⟨f, fd, F, hm, hk, hb⟩ := C.ex
  refine ⟨fun pins s σ H Q I h => ?_⟩
  refine wpAny_Call_Name_kw (ld_glob I hg hm ?_ hdb)
  refine PySem.W.callWith_K (h₀ := X.base) I.ok.mod.kin hk (thn (ha.run pos pins s σ H _ I h) fun us s1 ⟨vs, H1, I1, r, q⟩ => ⟨I1.kIn, ?_⟩) he hpl
  have q : sp (vs ++ []) H1 Q E0 := q
  rw [List.append_nil] at q
  have hl : us.length = ps.length := by rw [← r.length]; exact F.len _ _ _ _ q
  have hb' := hb s1 us I1.kIn (by simpa using hl)
  rw [List.append_nil] at hb'
  refine wpAny_call (codeAny_mono (F.run X.A X.stack s1 H1 ⟨us, []⟩ us vs Q _ hr I1.env0 hb' r q) fun r s' hq => ?_)
  cases r with
  | error e => exact False.elim hq
  | ok fl =>
    cases fl with
    | ret u => exact I1.after hq
    | next => exact False.elim hq
    | brk => exact False.elim hq
    | cont => exact False.elim hq
end
end L2

set_option Elab.async false
set_option linter.all false
set_option maxRecDepth 100000
set_option maxHeartbeats 4000000
namespace L2
open PySem PySem.Spec PyProof.Rows
structure ExN (K : PySem.W.Frag) (D : Addr) : Prop extends ExC K D where
  ca : PySem.W.findIn K (.ref D) "__class__" = some (some (.builtin "object.__class__"))
  cg : PySem.W.specialIn K (.builtin "object.__class__") "__get__" = some (some (.builtin "getset_descriptor.__get__"))
  ct : PySem.W.takesIn K (.builtin "object.__class__") = some true
section
open PySem.W PySem.Builtin PySem.Builtin.ObjectAttr
variable {prog : Program} {w : World} {A : Around} {E : Value → Shared → Prop} {s : Shared} {K : Frag} {x D : Addr} {ox : Obj} {od : Option Obj}
theorem exc_class {Q : Option Value → Shared → Prop} (X : K.In s.heap) (I : PySem.W.InstAt s.heap x ox D od) (c : ExN K D) (h : Q (some (.ref D)) { s with toks := s.toks + 1 }) : wpAny (model prog w) A (getAttr? (.ref x) "__class__") Q E s := by
  obtain ⟨cd, hc, ho⟩ := any_some c.ov
  have ne : cd.mro.isEmpty = false := by cases q : cd.mro with | nil => rw [q] at ho; cases ho | cons _ _ => rfl
  have hf : findObj K D od "__class__" = some (.bind (.builtin "getset_descriptor.__get__") (.builtin "object.__class__")) := by
    unfold findObj
    rw [hc, Option.bind_some, c.ca, Option.bind_some]
    dsimp only
    rw [c.cg, Option.bind_some]
    dsimp only
    rw [c.ct]
    rfl
  have hm : mroIn K D (.type "object") = some true := by unfold mroIn; rw [hc, Option.bind_some, if_neg (by rw [ne]; decide), (over_has ho).1]
  obtain ⟨hp, g, d, t, os⟩ := s
  have L0 := I.type (M := model prog w)
  have L1 := looks_findIn (M := model prog w) X c.ga
  have L2 := looks_findIn (M := model prog w) X c.gt
  have L3 := looks_find (M := model prog w) X I hf
  have L4 : Looks (model prog w) hp (isInstance (.ref x) (.type "BaseException")) true := I.type.andThen (looks_mroIn X (by unfold mroIn; rw [hc, Option.bind_some, if_neg (by rw [ne]; decide), (over_has ho).2]))
  have f3 := PySem.F.attr_ValueError.ga.bind (.ref x)
  have hx2 : (Value.builtin "BaseException.__getattribute__" == Value.builtin "object.__getattribute__") = false := by decide +kernel
  have hx1 : (onTheHeap (Value.ref D) && Value.builtin "BaseException.__getattribute__" == Value.builtin "object.__getattribute__") = false := by rw [hx2]; rfl
  have hk : builtinKind "BaseException.__getattribute__" = some .slot := by decide +kernel
  have hsplit : splitId "BaseException.__getattribute__" = some ("BaseException", "__getattribute__") := by decide +kernel
  unfold getAttr? getAttrBy? getAttrBy
  refine wpAny_bind (wpAny_mkText (wpAny_bind (wpAny_attempt (wpAny_holding (wpAny_bind (L0.at (wpAny_bind (L1.at ?_))))))))
  dsimp only
  rw [hx1]
  simp only [Bool.false_eq_true, if_false]
  unfold getAttrByItsOwn hookBefore callGetattribute
  rw [if_pos (show onTheHeap (Value.ref D) = true from rfl)]
  refine wpAny_bind (L2.at ?_)
  simp only [Bool.false_and, Bool.false_eq_true, if_false]
  unfold boundAndCalled
  rw [f3]
  refine wpAny_bind (wpAny_attempt (wpAny_holding (wpAny_bind (wpAny_pure (wpAny_call (codeAny_call_builtin PySem.F.attr_ValueError.ga.plain PySem.F.entry_bexc_ga (@check_slot (model prog w) _ _ ⟨hp, g, d, t + 1, os⟩ "BaseException.__getattribute__" "BaseException" "__getattribute__" (.ref x) [.str "__class__" t] [] _ hk hsplit L4 (PySem.F.args_bexc_ga (.ref x) (.str "__class__" t)) ?_)))))))
  show wpAny _ _ (Builtin.«object.__getattribute__» ⟨[.ref x, .str "__class__" t], []⟩) _ _ _
  refine wpAny_bind (wpAny_pure (wpAny_bind (wpAny_pure (wpAny_bind (L0.at (wpAny_bind (L3.at ?_)))))))
  show wpAny _ _ (holding [.builtin "object.__class__"] (call (.builtin "getset_descriptor.__get__") [.builtin "object.__class__", .ref x, .ref D]) >>= ret) _ _ _
  refine wpAny_bind (wpAny_holding (wpAny_call (class_get (s := ⟨hp, g, d, t + 1, os⟩) (ox := ox) (od := od) X I hm (wpAny_pure ?_))))
  show wpAny _ _ (handedOut (.ref D)) _ _ _
  rw [handedOut_of rfl]
  exact wpAny_pure (wpAny_pure h)
theorem kitx_exc (c : ExN K D) : KitX K (.ref x) (.ref D) (fun h => PySem.W.InstAt h x ox D od) where
  ty := fun _ _ _ I => I.type
  it := fun _ _ X _ => by
    obtain ⟨cd, hc, _⟩ := any_some c.ov
    exact looks_isType X (by rw [hc]; rfl)
  ne := fun h tp dd its n sl X htp => by
    obtain ⟨cdD, hcD, _⟩ := any_some c.ov
    refine Bool.eq_false_iff.mpr fun q => ?_
    have e : D = tp := Value.ref.inj (beq_iff_eq.mp q)
    subst e
    unfold clsIn at hcD
    split at hcD
    · rename_i c' d' cd' sl' ho
      have z := (X _ _ ho).symm.trans htp
      cases z
    · cases hcD
  ca := fun X I k => exc_class X I c k
end
noncomputable def rIsY (K : PySem.W.Frag) : List V → Hp → VK → Prop := fun xs H Q => ∃ a C C' od b, xs = [.ref a, .ref C] ∧ H a = some (exk a (.ref C') od) ∧ (∀ d, od = some d → ∃ fs, H d = some (.xd fs)) ∧ ExN K C' ∧ PySem.W.kitOne K (.ref C') (.ref C) = some b ∧ Q (.bl b) H
noncomputable def rIsYT (K : PySem.W.Frag) (T : String) : List V → Hp → VK → Prop := fun xs H Q => ∃ a C' od b, xs = [.ref a, .ty T] ∧ H a = some (exk a (.ref C') od) ∧ (∀ d, od = some d → ∃ fs, H d = some (.xd fs)) ∧ ExN K C' ∧ PySem.W.kitOne K (.ref C') (.type T) = some b ∧ Q (.bl b) H
section
variable {X : Cx} {pins : List (Addr × Obj)} {σ : St} {H : Hp} {s : Shared} {a C' : Addr} {od : Option Addr}
theorem exk_inst (I : Inv X pins σ H s) (ea : H a = some (exk a (.ref C') od)) (hd : ∀ d, od = some d → ∃ fs, H d = some (.xd fs)) : ∃ ox oo, PySem.W.InstAt s.heap a ox C' oo := by
  obtain ⟨oe, vs, a1, a2, a3, a4⟩ := exk_at (I.hok a _ ea)
  cases od with
  | none => exact ⟨oe, none, a1, a2, by unfold PySem.W.notCls; rw [a4], by rw [a3]; trivial⟩
  | some d =>
    obtain ⟨fs, ed⟩ := hd d rfl
    obtain ⟨mA, nA, r⟩ := I.hok d _ ed
    obtain ⟨oD, hoD, hl⟩ := lookIn_ns nA
    exact ⟨oe, some oD, a1, a2, by unfold PySem.W.notCls; rw [a4], by rw [a3]; exact hoD⟩
theorem k_isY {K : PySem.W.Frag} (hK : X.K = K := by rfl) : CallR X (.builtin "isinstance") (rIsY K) := by
  subst hK
  intro pins s σ H xs us Q I r h
  obtain ⟨a, C, C', od, b, rfl, ea, hd, c, e, q⟩ := h
  obtain ⟨u, v, rfl, ru, rv⟩ := r.two
  obtain rfl : u = Value.ref a := ru
  obtain rfl : v = Value.ref C := rv
  obtain ⟨ox, oo, J⟩ := exk_inst I ea hd
  exact PySem.W.kia_one (kitx_exc (ox := ox) (od := oo) c) I.kIn J e (fun z => nomatch z) fun tk => ⟨.bl b, H, I.tok tk, rfl, q⟩
theorem k_isYT {K : PySem.W.Frag} (T : String) (hK : X.K = K := by rfl) : CallR X (.builtin "isinstance") (rIsYT K T) := by
  subst hK
  intro pins s σ H xs us Q I r h
  obtain ⟨a, C', od, b, rfl, ea, hd, c, e, q⟩ := h
  obtain ⟨u, v, rfl, ru, rv⟩ := r.two
  obtain rfl : u = Value.ref a := ru
  obtain rfl : v = Value.type T := rv
  obtain ⟨ox, oo, J⟩ := exk_inst I ea hd
  exact PySem.W.kia_one (kitx_exc (ox := ox) (od := oo) c) I.kIn J e (fun z => nomatch z) fun tk => ⟨.bl b, H, I.tok tk, rfl, q⟩
end
end L2

set_option Elab.async false
set_option linter.all false
set_option maxRecDepth 100000
set_option maxHeartbeats 4000000
namespace L2
open PySem PySem.Spec PyProof.Rows
section
variable {X : Cx}
end
end L2

set_option Elab.async false
set_option linter.all false
set_option maxRecDepth 100000
set_option maxHeartbeats 4000000
namespace L2
open PySem
inductive DOk : Dt → Prop where
  | flat (v : V) : DOk (.flat v)
  | tup {ds : List Dt} (l : ds.length ≤ 5000) (h : ∀ d ∈ ds, DOk d) : DOk (.tup ds)
  | lst {ds : List Dt} (l : ds.length ≤ 5000) (h : ∀ d ∈ ds, DOk d) : DOk (.lst ds)
noncomputable def SameA (A : Addr → Prop) (H H' : Hp) : Prop := SameT H H' ∧ ∀ b xs, ¬ A b → H b = some (.lst xs) → H' b = some (.lst xs)
theorem Same.a {A : Addr → Prop} {H H' : Hp} (e : Same H H') : SameA A H H' := ⟨e.t, fun b xs _ h => e b _ h⟩
theorem SameA.refl (A : Addr → Prop) (H : Hp) : SameA A H H := ⟨SameT.refl _, fun _ _ _ h => h⟩
theorem SameA.trans {A : Addr → Prop} {H H1 H2 : Hp} (a : SameA A H H1) (b : SameA A H1 H2) : SameA A H H2 := ⟨a.1.trans b.1, fun c xs n h => b.2 c xs n (a.2 c xs n h)⟩
theorem SameA.set {A : Addr → Prop} {H : Hp} {S : Addr} {zs : List V} {o : HO} (h : H S = some (.lst zs)) (hA : A S) : SameA A H (upd H S o) := ⟨SameT.set h, fun b xs n e => by rw [upd_ne (fun z => n (by rw [z]; exact hA))]; exact e⟩
theorem SameA.mono {A B : Addr → Prop} {H H' : Hp} (e : SameA A H H') (h : ∀ b, A b → B b) : SameA B H H' := ⟨e.1, fun b xs n => e.2 b xs fun a => n (h b a)⟩
noncomputable def ThAt (K : PySem.W.Frag) (H : Hp) (v : V) (x : Str × V) : Prop := flatV x.2 = true ∧ ∃ a, v = .ref a ∧ SqT K H a [.str x.1, x.2]
theorem ThAt.same {K : PySem.W.Frag} {H H' : Hp} (e : SameT H H') (v : V) (x : Str × V) (h : ThAt K H v x) : ThAt K H' v x := by
  obtain ⟨f, a, r, q⟩ := h
  exact ⟨f, a, r, e.tup q⟩
noncomputable def PrAt (K : PySem.W.Frag) (H : Hp) (v : V) (x : Str × Str × V) : Prop := ∃ (a : Addr) (u : V), v = .ref a ∧ SqT K H a [.str x.1, u] ∧ ThAt K H u x.2
theorem PrAt.same {K : PySem.W.Frag} {H H' : Hp} (e : SameT H H') (v : V) (x : Str × Str × V) (h : PrAt K H v x) : PrAt K H' v x := by
  obtain ⟨a, u, r, q, t⟩ := h
  exact ⟨a, u, r, e.tup q, t.same e⟩
structure Rx where
  wd : Str
  pl : List Int
  ops : List (Str × V)
  ar : List (Str × Str × V)
noncomputable def RwAt (K : PySem.W.Frag) (A : Addr → Prop) (H : Hp) (v : V) (x : Rx) : Prop := ∃ (a p o e : Addr) (ov ev : List V), v = .ref a ∧ SqT K H a [.str x.wd, .ref p, .ref o, .ref e] ∧ SqT K H p (x.pl.map V.int) ∧ H o = some (.lst ov) ∧ Al (ThAt K H) ov x.ops ∧ H e = some (.lst ev) ∧ Al (PrAt K H) ev x.ar ∧ ¬ A o ∧ ¬ A e
theorem RwAt.same {K : PySem.W.Frag} {A : Addr → Prop} {H H' : Hp} (s : SameA A H H') (v : V) (x : Rx) (h : RwAt K A H v x) : RwAt K A H' v x := by
  obtain ⟨a, p, o, e, ov, ev, h1, h2, h3, h4, h5, h6, h7, h8, h9⟩ := h
  exact ⟨a, p, o, e, ov, ev, h1, s.1.tup h2, s.1.tup h3, s.2 _ _ h8 h4, h5.mono (ThAt.same s.1), s.2 _ _ h9 h6, h7.mono (PrAt.same s.1), h8, h9⟩
theorem RwAt.mono {K : PySem.W.Frag} {A B : Addr → Prop} {H : Hp} (s : ∀ b, B b → H b ≠ none → A b) (v : V) (x : Rx) (h : RwAt K A H v x) : RwAt K B H v x := by
  obtain ⟨a, p, o, e, ov, ev, h1, h2, h3, h4, h5, h6, h7, h8, h9⟩ := h
  exact ⟨a, p, o, e, ov, ev, h1, h2, h3, h4, h5, h6, h7, fun b => h8 (s o b (by rw [h4]; simp)), fun b => h9 (s e b (by rw [h6]; simp))⟩
noncomputable def thD (x : Str × V) : Dt := .tup [.flat (.str x.1), .flat x.2]
noncomputable def prD (x : Str × Str × V) : Dt := .tup [.flat (.str x.1), thD x.2]
noncomputable def rzD (x : Rx) : Dt := .tup [.flat (.str x.wd), .tup (x.pl.map fun i => .flat (.int i)), .lst (x.ops.map thD), .lst (x.ar.map prD)]
theorem ThAt.d {K : PySem.W.Frag} {H : Hp} {v : V} {x : Str × V} (h : ThAt K H v x) : IsD K H 1 v (thD x) := by
  obtain ⟨f, a, rfl, q⟩ := h
  refine .tup q rfl fun j v d h1 h2 => ?_
  match j, h1, h2 with
  | 0, h1, h2 => cases h1; cases h2; exact .flat rfl
  | 1, h1, h2 => cases h1; cases h2; exact .flat f
theorem PrAt.d {K : PySem.W.Frag} {H : Hp} {v : V} {x : Str × Str × V} (h : PrAt K H v x) : IsD K H 2 v (prD x) := by
  obtain ⟨a, u, rfl, q, t⟩ := h
  refine .tup q rfl fun j v d h1 h2 => ?_
  match j, h1, h2 with
  | 0, h1, h2 => cases h1; cases h2; exact .flat rfl
  | 1, h1, h2 => cases h1; cases h2; exact t.d
theorem Al.lstD {K : PySem.W.Frag} {H : Hp} {α : Type} {R : V → α → Prop} {g : α → Dt} {n : Nat} {a : Addr} {vs : List V} {xs : List α} (al : Al R vs xs) (e : SqL K H a vs) (h : ∀ v x, R v x → IsD K H n v (g x)) : IsD K H (n + 1) (.ref a) (.lst (xs.map g)) := by
  refine .lst e (by rw [List.length_map]; exact al.1) fun j v d h1 h2 => ?_
  rw [List.getElem?_map] at h2
  obtain ⟨r, hr, rfl⟩ := Option.map_eq_some_iff.mp h2
  exact h v r (al.2 j v r h1 hr)
theorem intsT {K : PySem.W.Frag} {H : Hp} {n : Nat} {p : Addr} {pl : List Int} (q : SqT K H p (pl.map V.int)) : IsD K H (n + 1) (.ref p) (.tup (pl.map fun i => .flat (.int i))) := by
  refine .tup q (by simp) fun j v d h1 h2 => ?_
  rw [List.getElem?_map] at h1 h2
  obtain ⟨k, hk, rfl⟩ := Option.map_eq_some_iff.mp h1
  rw [hk] at h2
  cases h2
  exact .flat rfl
theorem RwAt.d {K : PySem.W.Frag} {A : Addr → Prop} {H : Hp} {v : V} {x : Rx} (h : RwAt K A H v x) : IsD K H 4 v (rzD x) := by
  obtain ⟨a, p, o, e, ov, ev, rfl, h2, h3, h4, h5, h6, h7, _, _⟩ := h
  refine .tup h2 rfl fun j v d f1 f2 => ?_
  match j, f1, f2 with
  | 0, h1, h2 => cases h1; cases h2; exact .flat rfl
  | 1, h1, h2 => cases h1; cases h2; exact intsT h3
  | 2, h1, h2 => cases h1; cases h2; exact (h5.lstD (g := thD) (SqL.of h4) fun _ _ t => t.d).up (by omega)
  | 3, h1, h2 => cases h1; cases h2; exact h7.lstD (g := prD) (SqL.of h6) fun _ _ t => t.d
structure Rx.Ok (x : Rx) : Prop where
  pl : x.pl.length ≤ 5000
  ops : x.ops.length ≤ 5000
  ar : x.ar.length ≤ 5000
section
variable {g : TG} {tt : TT} {te : TE} {σ0 : St} {H1 : Hp} {D : Addr} {Q : VK}
end
end L2

set_option Elab.async false
set_option linter.all false
set_option maxRecDepth 100000
set_option maxHeartbeats 4000000
namespace L2
open PySem PySem.Spec PyProof.Rows
section
variable {X : Cx}
end
end L2

set_option Elab.async false
set_option linter.all false
set_option maxRecDepth 100000
set_option maxHeartbeats 4000000
namespace L2
open PySem PySem.Spec PyProof.Rows
section
variable {prog : Program} {w : World} {A : Around} {E : Value → Shared → Prop} {s : Shared}
end
section
variable {X : Cx}
end
section
variable {g : TG} {tt : TT} {te : TE} {σ0 : St} {H1 : Hp} {D : Addr} {Q : VK}
end
end L2

set_option Elab.async false
set_option linter.all false
set_option maxRecDepth 100000
set_option maxHeartbeats 4000000
namespace L2
open PySem PySem.Spec PyProof.Rows
section
variable {X : Cx}
end
end L2

set_option Elab.async false
set_option linter.all false
set_option maxRecDepth 100000
set_option maxHeartbeats 4000000
namespace L2
open PySem PySem.Spec PyProof.Rows
section
variable {X : Cx}
end
end L2

set_option Elab.async false
set_option linter.all false
set_option maxRecDepth 100000
set_option maxHeartbeats 4000000
namespace L2
open PySem PySem.Spec PyProof.Rows
section
variable {X : Cx}
open PySem.Builtin PySem.Builtin.Str in
end
end L2

set_option Elab.async false
set_option linter.all false
set_option maxRecDepth 100000
set_option maxHeartbeats 4000000
namespace L2
open PySem PySem.Spec PyProof.Rows
section
variable {prog : Program} {w : World} {A : Around} {E : Value → Shared → Prop} {s : Shared}
end
section
variable {X : Cx}
end
section
variable {X : Cx} {k : Nat} {x : Str} {ps : List Str} {sp : Sp} {p pos : Pos}
end
end L2

set_option Elab.async false
set_option linter.all false
set_option maxRecDepth 100000
set_option maxHeartbeats 4000000
namespace L2
open PySem PySem.Spec PyProof.Rows
structure MethX (CX : CXT) (P : Program) (w : World) (K : PySem.W.Frag) (mg : Str → Option Value) (base : Heap) (k : Nat) (C : Addr) (m : Str) (ps : List Str) (sp : Sp) : Prop where
  ex : ∃ (g : Addr) (fd : FuncData), FnOk P w K mg base CX k g fd ps sp ∧ Cls K C ∧ Meth K C m g ∧ Binds K fd ps []
structure MakeX (CX : CXT) (P : Program) (w : World) (K : PySem.W.Frag) (mg : Str → Option Value) (base : Heap) (k : Nat) (x : Str) (C : Addr) (ps : List Str) (sp : Sp) : Prop where
  ex : ∃ (f : Addr) (fd : FuncData), FnOk P w K mg base CX k f fd ps sp ∧ Mk K C f ∧ mg x = some (.ref C) ∧ Binds K fd ps []
structure Make0 (K : PySem.W.Frag) (mg : Str → Option Value) (x : Str) (C : Addr) : Prop where
  makes : PySem.W.makesIn K C = true
  init : PySem.W.findIn K (.ref C) "__init__" = some (some (.builtin "object.__init__"))
  kp : PySem.W.keepIn K (.ref C) = true
  at_ : mg x = some (.ref C)
noncomputable def tMethD (CX : CXT) (P : Program) (w : World) (K : PySem.W.Frag) (mg : Str → Option Value) (base : Heap) (k : Nat) (m : Str) (ps : List Str) (E : XK) (ta : TE) (t : TA) : TE := fun σ H Q => ta σ H fun x H1 => ∃ a C dx fs sp, x = .ref a ∧ H1 a = some (.ins C dx fs) ∧ fs.lookup m = none ∧ MethX CX P w K mg base k C m ps sp ∧
  t σ H1 fun vs H2 => sp (.ref a :: vs) H2 Q E
noncomputable def tNew (C : Addr) (sp : Sp) (E : XK) (t : TA) : TE := fun σ H Q => t σ H fun vs H1 => ∀ x dx, H1 x = none → H1 dx = none → dx ≠ x → sp (.ref x :: vs) (upd (upd H1 dx (.own x)) x (.ins C dx [])) (fun v H2 => v = .non ∧ Q (.ref x) H2) E
noncomputable def tNew0 (C : Addr) : TE := fun σ H Q => ∀ x dx, H x = none → H dx = none → dx ≠ x → Q (.ref x) (upd (upd H dx (.own x)) x (.ins C dx []))
section
variable {X : Cx} {k : Nat} {x m : Str} {ps : List Str} {sp : Sp} {E : XK} {C : Addr} {p pos apos : Pos} {e o : Expr} {es : List Expr} {ta : TE} {t : TA} {CX : CXT} {P : Program} {w : World} {mg : Str → Option Value} {base : Heap}
theorem qe_methD (K : PySem.W.Frag) (CX : CXT) (ps : List Str) {pl : Sem Bool} (he : QE X o ta) (hr : Room k X.A) (hx : Passes CX X E) (ha : QA X (e :: es) t) (hP : X.prog = P := by rfl) (hw : X.w = w := by rfl) (hK : X.K = K := by rfl) (hmg : X.mg = mg := by rfl) (hbs : X.base = base := by rfl)
    (hst : starEach (e :: es) X.env = (false, eval e X.env) :: starEach es X.env := by rfl) (hpl : (backTo pos (starEach es X.env)).any (·.1) = false := by rfl)
    (ht : eval (.Call (.Attribute o m apos) (e :: es) [] pos) X.env = (do
      let ov ← eval o X.env
      standAt apos.atName
      let (f, first) ← holding [ov] (getMethod ov m pl)
      callWith pos f first (backTo pos (starEach (e :: es) X.env)) (backToKw pos (keywordEach [] X.env))) := by rfl) :
    QE X (.Call (.Attribute o m apos) (e :: es) [] pos) (tMethD CX P w K mg base k m ps E ta t) := by
  subst hP hw hK hmg hbs
  refine ⟨fun pins s σ H Q I h => ?_⟩
  refine PySem.W.methodCall_KW (pl := pl) (thn (he.run pins s σ H _ I h) fun u s1 ⟨x, H1, I1, rx, a, C, dx, fs, sp, ex, ea, l, M, q⟩ => ?_) ht
  obtain ⟨g, fd, F, c, hm, hb⟩ := M.ex
  subst ex
  obtain rfl : u = Value.ref a := rx
  refine getmeth_ok I1 ea c hm l ?_
  refine PySem.W.callWith_K (first := [.ref a]) (h₀ := X.base) I.ok.mod.kin hm.kp (thn (ha.run pos pins s1 σ H1 _ I1 q) fun us s2 ⟨vs, H2, I2, r, q2⟩ => ⟨I2.kIn, ?_⟩) hst hpl
  exact run_fn (us := .ref a :: us) (vs := .ref a :: vs) (dvs := []) F hr hb .nil hx I2 (.cons rfl r) (by rw [List.append_nil]; exact q2)
theorem qx_methD (K : PySem.W.Frag) (ps : List Str) {pl : Sem Bool} (he : ∀ XE, QE (X.to X.A X.calm XE) o ta) (hr : Room k X.A) (ha : ∀ XE, QA (X.to X.A X.calm XE) (e :: es) t) (hP : X.prog = P := by rfl) (hw : X.w = w := by rfl) (hK : X.K = K := by rfl) (hmg : X.mg = mg := by rfl) (hbs : X.base = base := by rfl)
    (hst : starEach (e :: es) X.env = (false, eval e X.env) :: starEach es X.env := by rfl) (hpl : (backTo pos (starEach es X.env)).any (·.1) = false := by rfl)
    (ht : eval (.Call (.Attribute o m apos) (e :: es) [] pos) X.env = (do
      let ov ← eval o X.env
      standAt apos.atName
      let (f, first) ← holding [ov] (getMethod ov m pl)
      callWith pos f first (backTo pos (starEach (e :: es) X.env)) (backToKw pos (keywordEach [] X.env))) := by rfl) :
    QX X (.Call (.Attribute o m apos) (e :: es) [] pos) (fun σ H Q E => tMethD (CXR P w) P w K mg base k m ps E ta t σ H Q) := by
  subst hP hw hK hmg hbs
  refine ⟨fun pins s σ H Q E I h => ?_⟩
  refine PySem.W.methodCall_KW (pl := pl) (thn ((he (XP X pins σ E)).run pins s σ H _ (I.to rfl I.ok.hd) h) fun u s1 ⟨x, H1, I1, rx, a, C, dx, fs, sp, ex, ea, l, M, q⟩ => ?_) ht
  obtain ⟨g, fd, F, c, hm, hb⟩ := M.ex
  subst ex
  obtain rfl : u = Value.ref a := rx
  refine getmeth_ok (I1.back I.ok) ea c hm l ?_
  refine PySem.W.callWith_K (first := [.ref a]) (h₀ := X.base) I.ok.mod.kin hm.kp (thn ((ha (XP X pins σ E)).run pos pins s1 σ H1 _ I1 q) fun us s2 ⟨vs, H2, I2, r, q2⟩ => ⟨(I2.back I.ok).kIn, ?_⟩) hst hpl
  have I2 := I2.back I.ok
  have r2 : Vals (.ref a :: vs) (.ref a :: us) := .cons rfl r
  have hl : (Value.ref a :: us).length = ps.length := by rw [← r2.length]; exact F.len _ _ _ _ q2
  have hb' := hb s2 (.ref a :: us) I2.kIn (by simpa using hl)
  rw [List.append_nil] at hb'
  refine wpAny_call (codeAny_mono (F.run X.A X.stack s2 H2 ⟨.ref a :: us, []⟩ (.ref a :: us) (.ref a :: vs) Q E hr I2.env0 hb' r2 q2) fun r s' hq => ?_)
  cases r with
  | error e => exact ⟨H2, s2, I2, hq⟩
  | ok fl =>
    cases fl with
    | ret u => exact I2.after hq
    | next => exact False.elim hq
    | brk => exact False.elim hq
    | cont => exact False.elim hq
theorem qe_new (M : MakeX CX X.prog X.w X.K X.mg X.base k x C ps sp) (hr : Room (k + 1) X.A) (hx : Passes CX X E) (ha : QA X (e :: es) t) (hg : Gl X x := by rfl) (hdb : (x == ("__debug__" : Str)) = false := by decide)
    (he : starEach (e :: es) X.env = (false, eval e X.env) :: starEach es X.env := by rfl) (hpl : (backTo pos (starEach es X.env)).any (·.1) = false := by rfl) : QE X (.Call (.Name x p) (e :: es) [] pos) (tNew C sp E t) := by
  obtain ⟨f, fd, F, mk, hm, hb⟩ := M.ex
  refine ⟨fun pins s σ H Q I h => ?_⟩
  refine wpAny_Call_Name_kw (ld_glob I hg hm ?_ hdb)
  refine PySem.W.callWith_K (h₀ := X.base) I.ok.mod.kin mk.kp (thn (ha.run pos pins s σ H _ I h) fun us s1 ⟨vs, H1, I1, r, q⟩ => ⟨I1.kIn, ?_⟩) he hpl
  exact run_make (dvs := []) mk F hr hb .nil hx I1 r (fun x dx h1 h2 h3 => by rw [List.append_nil]; exact q x dx h1 h2 h3)
theorem qx_new (M : MakeX (CXR X.prog X.w) X.prog X.w X.K X.mg X.base k x C ps sp) (hr : Room (k + 1) X.A) (ha : ∀ XE, QA (X.to X.A X.calm XE) (e :: es) t) (hg : Gl X x := by rfl) (hdb : (x == ("__debug__" : Str)) = false := by decide)
    (he : starEach (e :: es) X.env = (false, eval e X.env) :: starEach es X.env := by rfl) (hpl : (backTo pos (starEach es X.env)).any (·.1) = false := by rfl) : QX X (.Call (.Name x p) (e :: es) [] pos) (fun σ H Q E => tNew C sp E t σ H Q) := by
  obtain ⟨f, fd, F, mk, hm, hb⟩ := M.ex
  refine ⟨fun pins s σ H Q E I h => ?_⟩
  refine wpAny_Call_Name_kw (ld_glob I hg hm ?_ hdb)
  refine PySem.W.callWith_K (h₀ := X.base) I.ok.mod.kin mk.kp (thn ((ha (XP X pins σ E)).run pos pins s σ H _ (I.to rfl I.ok.hd) h) fun us s1 ⟨vs, H1, I1, r, q⟩ => ⟨(I1.back I.ok).kIn, ?_⟩) he hpl
  have I1 := I1.back I.ok
  have hq := q (s1.heap.objs.size + 1) s1.heap.objs.size (I1.hok.fresh (Nat.le_succ _)) (I1.hok.fresh (Nat.le_refl _)) (Nat.ne_of_lt (Nat.lt_succ_self _))
  have I2 := Inv.made (C := C) I1
  have r2 : Vals (V.ref (s1.heap.objs.size + 1) :: vs) (Value.ref (s1.heap.objs.size + 1) :: us) := .cons rfl r
  have hl : (Value.ref (s1.heap.objs.size + 1) :: us).length = ps.length := by
    have e := r2.length
    rw [F.len _ _ _ _ hq] at e
    exact e.symm
  have hb' := hb _ (Value.ref (s1.heap.objs.size + 1) :: us) I2.kIn (by simpa using hl)
  rw [List.append_nil] at hb'
  refine wpAny_call (make_map (f := f) I1.kIn mk.makes mk.init (beq_iff_eq.mp mk.fn) (codeAny_mono (F.run _ X.stack _ _ ⟨Value.ref (s1.heap.objs.size + 1) :: us, []⟩ (Value.ref (s1.heap.objs.size + 1) :: us) _ _ E (hr.make C us [])
    (I2.env0.make C us []) hb' r2 hq) fun r s' hq' => ?_))
  cases r with
  | error e => exact ⟨_, _, I2, hq'⟩
  | ok fl =>
    cases fl with
    | ret u =>
      obtain ⟨v, H', I3, rv, ev, q3⟩ := I2.after hq'
      subst ev
      exact ⟨rv, ⟨V.ref (s1.heap.objs.size + 1), H', I3, rfl, q3⟩⟩
    | next => exact False.elim hq'
    | brk => exact False.elim hq'
    | cont => exact False.elim hq'
theorem qe_new0 (M : Make0 X.K X.mg x C) (hg : Gl X x := by rfl) (hdb : (x == ("__debug__" : Str)) = false := by decide) : QE X (.Call (.Name x p) [] [] pos) (tNew0 C) := by
  refine ⟨fun pins s σ H Q I h => ?_⟩
  refine wpAny_Call_Name_kw (ld_glob I hg M.at_ ?_ hdb)
  refine PySem.W.callWith_K0 I.kIn M.kp ?_
  have hq := h (s.heap.objs.size + 1) s.heap.objs.size (I.hok.fresh (Nat.le_succ _)) (I.hok.fresh (Nat.le_refl _)) (Nat.ne_of_lt (Nat.lt_succ_self _))
  have I2 := Inv.made (C := C) I
  have Y := PySem.W.makes_of (M := model X.prog X.w) I.kIn M.makes
  refine wpAny_call (make_map0 I.kIn M.makes M.init (fun self => PySem.W.Looks.of_pure (PySem.W.oi_bind self)) ?_)
  have t1 : PySem.W.Looks (model X.prog X.w) ((s.heap.push PySem.W.emptyDict).push (PySem.W.instObj C s.heap.objs.size)) (typeOf (.ref (s.heap.objs.size + 1))) (.ref C) := (PySem.W.Looks.ld (by have := Heap.get?_push_size (s.heap.push PySem.W.emptyDict) (o := PySem.W.instObj C s.heap.objs.size) rfl; rw [Heap.size_push] at this; exact this)).andThen .now
  have t2 : PySem.W.Looks (model X.prog X.w) ((s.heap.push PySem.W.emptyDict).push (PySem.W.instObj C s.heap.objs.size)) (isInstance (.ref (s.heap.objs.size + 1)) (.type "object")) true := t1.andThen (Y.top.keeps fun b o e => Heap.get?_push_of_some _ (Heap.get?_push_of_some _ e))
  refine codeAny_call_builtin PySem.W.oi_plain PySem.W.entry_oi (@PySem.W.check_slot (model X.prog X.w) _ _ _ "object.__init__" "object" "__init__" (.ref (s.heap.objs.size + 1)) [] [] _ PySem.W.oi_kind PySem.W.oi_split t2 (PySem.W.oi_args (.ref (s.heap.objs.size + 1))) ?_)
  rw [PySem.W.oi_run]
  exact wpAny_pure (And.intro rfl ⟨V.ref (s.heap.objs.size + 1), _, I2, rfl, hq⟩)
end
end L2

set_option Elab.async false
set_option linter.all false
set_option maxRecDepth 100000
set_option maxHeartbeats 4000000
namespace L2
open PySem PySem.Spec PyProof.Rows
section
variable {X : Cx} {e o value : Expr} {f : Str} {pos pos' : Pos} {ta tv : TE} {pins : List (Addr × Obj)} {σ : St} {H : Hp} {s : Shared}
theorem qe_fldK (K : PySem.W.Frag) (he : QE X e ta) (hb : attributeBase e f X.env (eval e X.env) = eval e X.env := by rfl) (hK : X.K = K := by rfl) : QE X (.Attribute e f pos) (tFld K ta f) := by subst hK; exact qe_fld he hb
theorem qs_fldK (K : PySem.W.Frag) (ha : QE X o ta) (hv : QE X value tv) (hs : swapsWith value (some (.Attribute o f pos')) pos.line X.env = pure false := by rfl) (hK : X.K = K := by rfl) : QS X (.Assign [.Attribute o f pos'] value pos) (sFld K ta tv f) := by subst hK; exact qs_fld ha hv hs
noncomputable def rIsI (K : PySem.W.Frag) : List V → Hp → VK → Prop := fun xs H Q => ∃ x C t b, xs = [x, .ref C] ∧ TyQ K H x t ∧ PySem.W.kitOne K t (.ref C) = some b ∧ Q (.bl b) H
theorem k_isI (K : PySem.W.Frag) (hK : X.K = K := by rfl) : CallR X (.builtin "isinstance") (rIsI K) := by
  subst hK
  intro pins s σ H xs us Q I r h
  obtain ⟨x, C, t, b, rfl, ty, e, q⟩ := h
  obtain ⟨u, v, rfl, ru, rv⟩ := r.two
  obtain rfl : v = Value.ref C := rv
  cases ty with
  | ty ty => exact isinst_ok I ru ty e fun tk => ⟨.bl b, H, I.tok tk, rfl, q⟩
  | tup hq =>
    cases ru
    obtain ⟨its, _, p, _⟩ := I.tuple hq
    obtain ⟨o, h1, h2, _⟩ := p
    exact PySem.W.kia_one PySem.W.kitx_tuple I.kIn ⟨o, h1, h2⟩ e (fun z => nomatch z) fun tk => ⟨.bl b, H, I.tok tk, rfl, q⟩
  | lst hq =>
    cases ru
    obtain ⟨its, _, p, _⟩ := I.list hq
    obtain ⟨o, n, h1, h2, _⟩ := p
    exact PySem.W.kia_one PySem.W.kitx_list I.kIn ⟨o, h1, h2⟩ e (fun z => nomatch z) fun tk => ⟨.bl b, H, I.tok tk, rfl, q⟩
theorem s_isI {K : PySem.W.Frag} {x : V} {C : Addr} {t : Value} {b : Bool} {Q : VK} (ty : TyQ K H x t) (e : PySem.W.kitOne K t (.ref C) = some b) (h : Q (.bl b) H) : rIsI K [x, .ref C] H Q := ⟨x, C, t, b, rfl, ty, e, h⟩
noncomputable def tIfX (tc : TT) (t u : TXS) : TXS := fun D E σ H => tc σ H fun d H1 => if d then t D E σ H1 else u D E σ H1
theorem qxs_if {c : Expr} {a b : List Stmt} {tc : TT} {t u : TXS} (hc : ∀ XE, QT (X.to X.A X.calm XE) c tc) (ha : QXS X a t) (hb : QXS X b u) : QXS X [.If c a b pos] (tIfX tc t u) := by
  refine ⟨fun pins s σ H D E I h => ?_⟩
  refine wpAny_execs_cons (wpAny_mono (wpAny_If (Q := SP X pins D) (E := fun ev s' => ∃ σ', XP X pins σ' (E σ') ev s') (thn ((hc (fun ev s' => ∃ σ', XP X pins σ' (E σ') ev s')).run pins s σ H _ (I.to rfl I.ok.hd) h) fun d s1 ⟨H1, I1, q1⟩ => ?_)) (fun f s1 q => ?_) fun ev s1 q => q)
  · have I1 := I1.back I.ok
    cases d with
    | true => exact ha.run pins s1 σ H1 D E I1 q1
    | false => exact hb.run pins s1 σ H1 D E I1 q1
  · cases f with
    | next => exact wpAny_execs_nil q
    | ret v => exact q
    | brk => exact q
    | cont => exact q
end
end L2

set_option Elab.async false
set_option linter.all false
set_option maxRecDepth 100000
set_option maxHeartbeats 4000000
namespace L2
open PySem PySem.Spec PyProof.Rows
section
variable {X : Cx} {pins : List (Addr × Obj)} {σ : St} {H : Hp} {s : Shared}
theorem eqAt_none (I : Inv X pins σ H s) {v : V} {u : Value} (r : RelV v u) {A : Around} (hu : A.units < cLine) (h : flatV v = true ∨ ∃ (b : Addr) (xs : List V), v = .ref b ∧ SqT X.K H b xs) : ∃ b, SeqAt.EqAt A s u .none b := by
  rcases h with h | ⟨b, xs, rfl, q⟩
  · cases v with
    | non => cases (show u = Value.none from r); exact ⟨_, SeqAt.EqAt.same _⟩
    | bl x => cases (show u = Value.bool x from r); exact ⟨_, SeqAt.EqAt.bool_none x⟩
    | int i => obtain ⟨t, e⟩ := (show ∃ t, u = Value.int i t from r); cases e; exact ⟨_, SeqAt.EqAt.int_none i t⟩
    | str x => obtain ⟨t, e⟩ := (show ∃ t, u = Value.str x t from r); cases e; exact ⟨_, SeqAt.EqAt.str_none x t⟩
    | _ => cases h
  · cases (show u = Value.ref b from r)
    obtain ⟨its, _, p, _⟩ := I.tuple q
    exact ⟨_, SeqAt.EqAt.tuple_none (show s.heap.IsTuple b its.toArray from p) hu⟩
theorem eqAt_empty (I : Inv X pins σ H s) {p e : Addr} {vs : List V} (q : SqT X.K H p vs) (q' : SqT X.K H e []) {A : Around} (hu : A.units < cLine) : ∃ b, SeqAt.EqAt A s (.ref p) (.ref e) b := by
  by_cases z : p = e
  · subst z
    exact ⟨_, SeqAt.EqAt.same _⟩
  · obtain ⟨its, r1, p1, _⟩ := I.tuple q
    obtain ⟨its2, r2, p2, _⟩ := I.tuple q'
    have l2 : its2.length = 0 := r2.length.symm
    exact ⟨_, SeqAt.EqAt.of_refs z (SeqAt.RcAt.tuples (e := fun _ => true) (show s.heap.IsTuple p its.toArray from p1) (show s.heap.IsTuple e its2.toArray from p2) hu (fun j h1 h2 => by simp only [List.size_toArray] at h2; omega))⟩
noncomputable def rEqG (K : PySem.W.Frag) : R2 := fun x y H Q => ∃ (a c p e : Addr) (w1 w2 : Str) (n : V) (vs : List V), x = .ref a ∧ y = .ref c ∧ SqT K H a [.str w1, n, .ref p] ∧ (flatV n = true ∨ ∃ (b : Addr) (xs : List V), n = .ref b ∧ SqT K H b xs) ∧ SqT K H p vs ∧ SqT K H c [.str w2, .non, .ref e] ∧ SqT K H e [] ∧ w1 ≠ w2 ∧ Q (.bl false) H
theorem op_eqG (hu : X.A.units + 200 < cLine) : OpR X (compareOp .Eq) (rEqG X.K) := by
  intro pins s σ H x y v u Q I rx ry h
  obtain ⟨a, c, p, e, w1, w2, n, vs, rfl, rfl, hx, hn, hp, hy, he, hw, q⟩ := h
  cases rx
  cases ry
  obtain ⟨its, r1, p1, _⟩ := I.tuple hx
  obtain ⟨its2, r2, p2, _⟩ := I.tuple hy
  have l1 : its.length = 3 := r1.length.symm
  have l2 : its2.length = 3 := r2.length.symm
  obtain ⟨u0, g0, k0⟩ := r1.get (i := 0) (x := .str w1) rfl
  obtain ⟨u1, g1, k1⟩ := r1.get (i := 1) (x := n) rfl
  obtain ⟨u2, g2, k2⟩ := r1.get (i := 2) (x := .ref p) rfl
  obtain ⟨y0, m0, j0⟩ := r2.get (i := 0) (x := .str w2) rfl
  obtain ⟨y1, m1, j1⟩ := r2.get (i := 1) (x := .non) rfl
  obtain ⟨y2, m2, j2⟩ := r2.get (i := 2) (x := .ref e) rfl
  obtain ⟨t0, rfl⟩ := (show ∃ t, u0 = Value.str w1 t from k0)
  obtain ⟨t1, rfl⟩ := (show ∃ t, y0 = Value.str w2 t from j0)
  cases (show y1 = Value.none from j1)
  cases (show u2 = Value.ref p from k2)
  cases (show y2 = Value.ref e from j2)
  have hu1 : X.A.in1.units < cLine := by show X.A.units + 1 < cLine; omega
  obtain ⟨b1, E1⟩ := eqAt_none I k1 hu1 hn
  obtain ⟨b2, E2⟩ := eqAt_empty I hp he hu1
  refine SeqAt.eq_tupleAt (e := fun j => if j = 0 then w1 == w2 else if j = 1 then b1 else b2) (show s.heap.IsTuple a its.toArray from p1) (show s.heap.IsTuple c its2.toArray from p2) (by omega) (fun j h1 h2 => ?_) ?_
  · simp only [List.size_toArray] at h1 h2
    have f1 : its[j]? = some its[j] := List.getElem?_eq_getElem h1
    have f2 : its2[j]? = some its2[j] := List.getElem?_eq_getElem h2
    simp only [List.getElem_toArray]
    match j, h1, h2, f1, f2 with
    | 0, h1, h2, f1, f2 =>
      rw [f1] at g0; rw [f2] at m0
      rw [Option.some.inj g0, Option.some.inj m0]
      exact SeqAt.EqAt.str_str _ _ _ _
    | 1, h1, h2, f1, f2 =>
      rw [f1] at g1; rw [f2] at m1
      rw [Option.some.inj g1, Option.some.inj m1]
      exact E1
    | 2, h1, h2, f1, f2 =>
      rw [f1] at g2; rw [f2] at m2
      rw [Option.some.inj g2, Option.some.inj m2]
      exact E2
    | j + 3, h1, _, _, _ => omega
  · have hb : (w1 == w2) = false := by simpa using hw
    have e : ((List.range (min its.toArray.size its2.toArray.size)).all (fun j => if j = 0 then w1 == w2 else if j = 1 then b1 else b2) && its.toArray.size == its2.toArray.size) = false := by
      rw [List.size_toArray, List.size_toArray, l1, l2, show List.range (min 3 3) = [0, 1, 2] from rfl]
      simp [hb]
    rw [e]
    exact ⟨.bl _, H, I, rfl, q⟩
noncomputable def rEqF (K : PySem.W.Frag) : R2 := fun x y H Q => rEqA K x y H Q ∨ rEqG K x y H Q
theorem k_eqG (K : PySem.W.Frag) (hu : X.A.units + 200 < cLine) (hK : X.K = K := by rfl) : OpR X (compareOp .Eq) (rEqF K) := by subst hK; exact (op_eqA hu).or (op_eqG hu)
theorem s_eqfD {K : PySem.W.Frag} {a c : Addr} {Q : VK} {n : Nat} {d : Dt} (hn : n ≤ 190) (hx : IsD K H n (.ref a) d) (hy : IsD K H n (.ref c) d) (h : Q (.bl true) H) : rEqF K (.ref a) (.ref c) H Q := .inl (s_eqD hn hx hy h)
theorem s_eqfG {K : PySem.W.Frag} {a c p e : Addr} {w1 w2 : Str} {n : V} {vs : List V} {Q : VK} (hx : SqT K H a [.str w1, n, .ref p]) (hn : flatV n = true ∨ ∃ (b : Addr) (xs : List V), n = .ref b ∧ SqT K H b xs) (hp : SqT K H p vs) (hy : SqT K H c [.str w2, .non, .ref e]) (he : SqT K H e []) (hw : w1 ≠ w2) (h : Q (.bl false) H) : rEqF K (.ref a) (.ref c) H Q := .inr ⟨a, c, p, e, w1, w2, n, vs, rfl, rfl, hx, hn, hp, hy, he, hw, h⟩
end
end L2

set_option Elab.async false
set_option linter.all false
set_option maxRecDepth 100000
set_option maxHeartbeats 4000000
namespace K10
open PySem L2
noncomputable def LET : Str := "abcdefghijklmnopqrstuvwxyz_"
noncomputable def DIG : Str := "0123456789"
noncomputable def W9 : List Str := ["let", "in", "if", "then", "else", "fn", "rec", "yes", "no"]
noncomputable def W10 : List Str := ["let", "if", "fn", "rec", "yes", "no", "?", "+", "-", "<"]
noncomputable def S4 : List Str := ["?", "+", "-", "<"]
noncomputable def BR : Str := "()"
noncomputable def isIn (t : Str) (ws : List Str) : Bool := ws.any fun a => a == t
noncomputable def allIn (t s : Str) : Bool := t.cps.toList.all fun c => decide (c ∈ s.cps.toList)
noncomputable def hd0 (t : Str) : Bool := t.cps.toList.head? == some 48
noncomputable def okC (c : Nat) : Bool := (decide (33 ≤ c) && decide (c ≤ 126)) || c == 32 || c == 10 || c == 9
noncomputable def oddC (c : Nat) : Bool := decide (33 ≤ c) && decide (c ≤ 126) && !decide (c ∈ BR.cps.toList)
noncomputable def nameB (t : Str) : Bool := decide (1 ≤ t.length) && decide (t.length ≤ 8) && allIn t LET && !isIn t W9
noncomputable def figB (t : Str) : Bool := decide (1 ≤ t.length) && decide (t.length ≤ 18) && allIn t DIG && (t == ("0" : Str) || !hd0 t)
noncomputable def oddB (t : Str) : Bool := decide (1 ≤ t.length) && decide (t.length ≤ 60) && t.cps.toList.all oddC && !nameB t && !isIn t W10 && !figB t
structure GoodT (t : Str) : Prop where
  len : t.length ≤ 1000
  ok : ∀ c ∈ t.cps.toList, okC c = true
theorem isIn_mem {t : Str} {ws : List Str} (h : isIn t ws = true) : t ∈ ws := by
  obtain ⟨a, ha, e⟩ := List.any_eq_true.mp h
  have e : a = t := by simpa using e
  rw [← e]; exact ha
theorem not_isIn {t : Str} {ws : List Str} (h : ¬ t ∈ ws) : isIn t ws = false := by
  cases e : isIn t ws
  · rfl
  · exact absurd (isIn_mem e) h
theorem mem_isIn {t : Str} {ws : List Str} (h : t ∈ ws) : isIn t ws = true := List.any_eq_true.mpr ⟨t, h, by simp⟩
end K10

set_option Elab.async false
set_option linter.all false
set_option maxRecDepth 100000
set_option maxHeartbeats 4000000
namespace K21
open PySem L2
noncomputable def top (i : Nat) : Stmt := PySem.Challenge.pw_gapscribe_k21_fills_cuts_changes.main.body.getD i (.Pass ⟨0, 0, 0, 0⟩)
noncomputable abbrev s_is_whole : Stmt := top 12
noncomputable abbrev s_is_name : Stmt := top 13
noncomputable abbrev s_is_figures : Stmt := top 14
noncomputable abbrev s_is_odd_sign : Stmt := top 15
noncomputable abbrev s_is_odd : Stmt := top 16
noncomputable abbrev s_is_word : Stmt := top 17
noncomputable abbrev s_is_two_names : Stmt := top 18
noncomputable abbrev s_is_note : Stmt := top 19
noncomputable abbrev s_is_top_of_form : Stmt := top 20
noncomputable abbrev s_is_form : Stmt := top 21
noncomputable abbrev s_refuse_no_form : Stmt := top 23
noncomputable abbrev s_refuse_no_gap : Stmt := top 24
noncomputable abbrev s_Deed_done : Stmt := match top 25 with
  | .ClassDef _ _ _ b _ _ _ _ _ _ _ => b.getD 0 (.Pass ⟨0, 0, 0, 0⟩)
  | s => s
noncomputable abbrev s_Deed_back : Stmt := match top 25 with
  | .ClassDef _ _ _ b _ _ _ _ _ _ _ => b.getD 1 (.Pass ⟨0, 0, 0, 0⟩)
  | s => s
noncomputable abbrev s_Fill_init : Stmt := match top 26 with
  | .ClassDef _ _ _ b _ _ _ _ _ _ _ => b.getD 0 (.Pass ⟨0, 0, 0, 0⟩)
  | s => s
noncomputable abbrev s_Fill_done : Stmt := match top 26 with
  | .ClassDef _ _ _ b _ _ _ _ _ _ _ => b.getD 1 (.Pass ⟨0, 0, 0, 0⟩)
  | s => s
noncomputable abbrev s_Fill_back : Stmt := match top 26 with
  | .ClassDef _ _ _ b _ _ _ _ _ _ _ => b.getD 2 (.Pass ⟨0, 0, 0, 0⟩)
  | s => s
noncomputable abbrev s_Cut_done : Stmt := match top 27 with
  | .ClassDef _ _ _ b _ _ _ _ _ _ _ => b.getD 0 (.Pass ⟨0, 0, 0, 0⟩)
  | s => s
noncomputable abbrev s_Cut_back : Stmt := match top 27 with
  | .ClassDef _ _ _ b _ _ _ _ _ _ _ => b.getD 1 (.Pass ⟨0, 0, 0, 0⟩)
  | s => s
noncomputable abbrev s_Change_init : Stmt := match top 28 with
  | .ClassDef _ _ _ b _ _ _ _ _ _ _ => b.getD 0 (.Pass ⟨0, 0, 0, 0⟩)
  | s => s
noncomputable abbrev s_Change_done : Stmt := match top 28 with
  | .ClassDef _ _ _ b _ _ _ _ _ _ _ => b.getD 1 (.Pass ⟨0, 0, 0, 0⟩)
  | s => s
noncomputable abbrev s_Change_back : Stmt := match top 28 with
  | .ClassDef _ _ _ b _ _ _ _ _ _ _ => b.getD 2 (.Pass ⟨0, 0, 0, 0⟩)
  | s => s
noncomputable abbrev s_law_cell : Stmt := top 30
noncomputable abbrev s_law_names : Stmt := top 31
noncomputable abbrev s_law_odd : Stmt := top 32
noncomputable abbrev s_law_number : Stmt := top 33
noncomputable abbrev s_law_head : Stmt := top 34
noncomputable abbrev s_law_many : Stmt := top 35
noncomputable abbrev s_law_tree : Stmt := top 36
noncomputable abbrev s_law_walk : Stmt := top 37
noncomputable abbrev s_law_form : Stmt := top 38
noncomputable abbrev s_law_with : Stmt := top 39
noncomputable abbrev s_law_class : Stmt := top 40
noncomputable abbrev s_law_made : Stmt := top 41
noncomputable abbrev s_law_done : Stmt := top 42
noncomputable abbrev s_law_back : Stmt := top 43
noncomputable abbrev s_law_no_form : Stmt := top 44
noncomputable abbrev s_law_fits : Stmt := top 45
noncomputable abbrev s_law_no_deed : Stmt := top 46
noncomputable abbrev s_law_good : Stmt := top 47
noncomputable abbrev s_law : Stmt := top 48
structure Txt (K : PySem.W.Frag) (mg : Str → Option Value) : Prop where
  isinstance : mg "isinstance" = none
  int : mg "int" = none
  bool : mg "bool" = none
  str : mg "str" = none
  len : mg "len" = none
  all : mg "all" = none
  tuple : mg "tuple" = none
  range : mg "range" = none
  enumerate : mg "enumerate" = none
  reversed : mg "reversed" = none
  ValueError : mg "ValueError" = none
  list : mg "list" = none
end K21
namespace K21
open PySem L2 K10
structure Script (K : PySem.W.Frag) (H : Hp) (a : Addr) : Prop where
  ex : ∃ ns : List Int, SqL K H a (ns.map V.int) ∧ ns.length ≤ 63
theorem Script.same {K : PySem.W.Frag} {H H' : Hp} {a : Addr} (S : Script K H a) (h : Same H H') : Script K H' a := by
  obtain ⟨ns, q, l⟩ := S.ex
  exact ⟨ns, h.seq q, l⟩
inductive TyN (K : PySem.W.Frag) (H : Hp) : V → String → Prop where
  | non : TyN K H .non "NoneType"
  | bl (x : Bool) : TyN K H (.bl x) "bool"
  | int (i : Int) : TyN K H (.int i) "int"
  | str (x : Str) (h : x.length ≤ 1000) : TyN K H (.str x) "str"
  | tup {a : Addr} {xs : List V} (q : SqT K H a xs) : TyN K H (.ref a) "tuple"
  | lst {a : Addr} {xs : List V} (q : SqL K H a xs) : TyN K H (.ref a) "list"
  | dK {a : Addr} {kvs : List (Key × V)} (e : H a = some (.dK kvs)) : TyN K H (.ref a) "dict"
noncomputable def kitT (t T : String) : Bool := t == T || (t == "bool" && T == "int")
theorem TyN.q {K : PySem.W.Frag} {H : Hp} {v : V} {t : String} (h : TyN K H v t) : TyQ K H v (.type t) := by
  cases h with
  | non => exact .ty .non
  | bl x => exact .ty (.bl x)
  | int x => exact .ty (.int x)
  | str x => exact .ty (.str x)
  | tup q => exact .tup q
  | lst q => exact .lst q
  | dK e => exact .ty (.dK e)
theorem kit_all {K : PySem.W.Frag} {t T : String} (ht : t ∈ ["NoneType", "bool", "int", "str", "tuple", "list", "dict"]) (hT : T ∈ ["str", "int", "bool", "tuple"]) : PySem.W.kitOne K (.type t) (.type T) = some (kitT t T) := by
  have one : ∀ (t T : String), t ≠ T → (PySem.W.kitMeta T && (match fastBuiltinMro t with | some l => l.contains (.type T) == kitT t T | none => false)) = true → PySem.W.kitOne K (.type t) (.type T) = some (kitT t T) := by
    intro t T hne h
    rw [Bool.and_eq_true] at h
    obtain ⟨h1, h2⟩ := h
    split at h2
    · rename_i l hl
      exact kit_of h1 hne hl (by simpa using h2)
    · cases h2
  simp only [List.mem_cons, List.not_mem_nil, or_false] at ht hT
  rcases hT with rfl | rfl | rfl | rfl <;> rcases ht with rfl | rfl | rfl | rfl | rfl | rfl | rfl <;> first | (exact kit_same) | (exact one _ _ (by decide) (by decide +kernel))
theorem TyN.mem {K : PySem.W.Frag} {H : Hp} {v : V} {t : String} (h : TyN K H v t) : t ∈ ["NoneType", "bool", "int", "str", "tuple", "list", "dict"] := by
  cases h <;> simp
theorem s_isiN {K : PySem.W.Frag} {H : Hp} {Q : VK} {v : V} {t T : String} (h : TyN K H v t) (hT : T ∈ ["str", "int", "bool", "tuple"]) (q : Q (.bl (kitT t T)) H) : rIsi K T [v, .ty T] H Q :=
  ⟨v, .type t, _, rfl, h.q, kit_all h.mem hT, q⟩
theorem TyN.same {K : PySem.W.Frag} {H H' : Hp} {v : V} {t : String} (h : TyN K H v t) (e : Same H H') : TyN K H' v t := by
  cases h with
  | non => exact .non
  | bl x => exact .bl x
  | int x => exact .int x
  | str x h => exact .str x h
  | tup q => exact .tup (e.t.tup q)
  | lst q => exact .lst (e.seq q)
  | dK h => exact .dK (e _ _ h)
noncomputable def Has (K : PySem.W.Frag) (H : Hp) (v : V) : Prop := ∃ t, TyN K H v t
theorem Has.same {K : PySem.W.Frag} {H H' : Hp} {v : V} (h : Has K H v) (e : Same H H') : Has K H' v := by
  obtain ⟨t, h⟩ := h
  exact ⟨t, h.same e⟩
noncomputable def PARTS : List (Str × V) := [("gap", .int 0), ("odd", .int 0), ("num", .int 0), ("truth", .int 0), ("name", .int 0), ("plus", .int 2), ("minus", .int 2), ("less", .int 2), ("call", .int 2), ("if", .int 3), ("fn", .int 1), ("rec", .int 1), ("let", .int 2)]
noncomputable def PN : List (Str × Nat) := [("gap", 0), ("odd", 0), ("num", 0), ("truth", 0), ("name", 0), ("plus", 2), ("minus", 2), ("less", 2), ("call", 2), ("if", 3), ("fn", 1), ("rec", 1), ("let", 2)]
noncomputable def partsOf (wd : Str) : Option Nat := PN.lookup wd
theorem parts_eq (wd : Str) : lookD PARTS wd = (partsOf wd).map (fun n : Nat => V.int (n : Int)) := by
  have gen : ∀ ps : List (Str × Nat), lookD (ps.map fun p => (p.1, V.int (p.2 : Int))) wd = (ps.lookup wd).map (fun n : Nat => V.int (n : Int)) := by
    intro ps
    induction ps with
    | nil => rfl
    | cons p r ih =>
      unfold lookD at ih ⊢
      rw [List.map_cons, List.find?_cons, List.lookup_cons]
      by_cases z : p.1 = wd
      · have e2 : (wd == p.1) = true := by rw [z]; simp
        simp only [z, decide_true, Option.map_some]
        simp
      · have e2 : (wd == p.1) = false := by simpa using fun h => z h.symm
        simp only [z, decide_false, e2]
        exact ih
  exact gen PN
noncomputable def wholeV : V → Bool
  | .int _ => true
  | _ => false
noncomputable def nameV : V → Bool
  | .str s => nameB s
  | _ => false
noncomputable def oddV : V → Bool
  | .str s => oddB s
  | _ => false
noncomputable def wordV : V → Bool
  | .str s => (partsOf s).isSome
  | _ => false
structure Gs (P : Program) (w : World) (K : PySem.W.Frag) (mg : Str → Option Value) : Prop where
  ns : Glob mg "NAME_SIGNS" (.str LET)
  fg : Glob mg "FIGURES" (.str DIG)
  w9 : ∃ a, Glob mg "WORDS_NO_NAMES" (.ref a) ∧ ∀ H, SqT K H a (W9.map V.str)
  w10 : ∃ a, Glob mg "WORDS_NOT_ODD" (.ref a) ∧ ∀ H, SqT K H a (W10.map V.str)
  pw : ∃ a, Glob mg "PARTS_OF_WORDS" (.ref a) ∧ DkK P w K a PARTS
  gp : ∃ a e, Glob mg "GAP" (.ref a) ∧ (∀ H, SqT K H a [.str "gap", .non, .ref e]) ∧ ∀ H, SqT K H e []
end K21

set_option Elab.async false
set_option linter.all false
set_option maxRecDepth 100000
set_option maxHeartbeats 4000000
local macro_rules | `(tactic| walk_at "r1") => `(tactic| (first | (with_reducible first | refine L2.s_seq ?_ | refine L2.s_asg ?_ | refine L2.s_ret ?_ | refine L2.s_ifS ?_ | refine L2.s_test ?_ | refine L2.s_op ?_ | refine L2.s_c ?_ | refine L2.s_cons ?_ | refine L2.s_nil ?_ | refine L2.s_call ?_ | refine L2.s_cb ?_ | refine L2.s_gname ?_ | refine L2.s_ex ?_ | refine L2.s_exi ?_ | refine L2.s_drop ?_ | refine L2.s_next ?_ | refine L2.s_un ?_ | refine L2.s_tB ?_ | refine L2.s_not ?_ | refine L2.s_and ?_ | refine L2.s_or ?_ | refine L2.s_andV ?_ | refine L2.s_orV ?_ | refine L2.s_notV ?_ | refine L2.s_vals ?_ | refine L2.s_tup ?_ | refine L2.s_lst ?_ | refine L2.s_bm ?_ | refine L2.s_bm0 ?_ | refine L2.s_sl ?_ | refine L2.s_po ?_ | refine L2.s_po0 ?_ | refine L2.s_gcons ?_ | refine L2.s_gnil ?_ | refine L2.s_gsub ?_ | refine L2.s_isN ?_ | refine L2.s_notN ?_ | refine L2.s_rI0 ?_ | refine L2.s_rU ?_ | refine L2.s_add_int ?_ | refine L2.s_lt ?_ | refine L2.s_le ?_ | refine L2.iteT ?_ | refine L2.iteF ?_ | refine L2.s_comp ?_ | refine L2.s_for ?_ | refine L2.s_rng1 ?_ | refine L2.s_rng3 ?_ | refine L2.s_exr ?_ | refine L2.s_iany ?_ | refine L2.s_irev ?_ | refine L2.s_ienum ?_ | refine L2.s_listen ?_ | refine L2.s_listrev ?_ | refine L2.s_izip ?_ | refine L2.s_ienumT ?_ | refine L2.s_listzp ?_ | refine L2.s_ipI ?_ | refine L2.s_yes ?_ | refine L2.s_turn ?_ | refine L2.s_int_b ?_ | refine L2.s_intb ?_ | refine L2.s_truth ?_ | refine L2.s_chain ?_ | refine L2.s_nt ?_ | refine L2.s_nf ?_) | ((with_reducible refine' L2.s_var ?e ?_); (case e => exact rfl)) | ((with_reducible refine' L2.s_aug ?e ?_); (case e => exact rfl)) | ((with_reducible refine' L2.s_eq ?e ?_); (case e => exact rfl)) | ((with_reducible refine' L2.s_ne ?e ?_); (case e => exact rfl)) | ((with_reducible refine' L2.s_neb ?e ?_); (case e => exact rfl)) | ((with_reducible refine' L2.s_rI ?c ?_); (case c => first | decide | exact ⟨by decide, by decide⟩ | exact ⟨by decide, by decide, by decide⟩)) | ((with_reducible refine' L2.s_mul_r ?a ?b ?_); (case a => decide); (case b => decide)) | ((with_reducible refine' L2.s_mul_l ?a ?b ?_); (case a => decide); (case b => decide)) | ((with_reducible refine' L2.s_exr3 ?e ?_); (case e => decide))))
local macro_rules | `(tactic| walk_at "r") => `(tactic| (repeat walk_at "r1"))
namespace K21
open PySem L2 K10
section
variable {P : Program} {w : World} {K : PySem.W.Frag} {mg : Str → Option Value} {base : Heap}
noncomputable def sp_whole (K : PySem.W.Frag) : Sp := fun vs H Q _ => ∃ v, vs = [v] ∧ Has K H v ∧ Q (.bl (wholeV v)) H
theorem sc_is_whole : FnScope ["thing"] ["thing"] (defScope s_is_whole) := ⟨rfl, rfl, rfl, by decide +kernel, rfl, by decide +kernel, by decide +kernel⟩
theorem ok_whole {f : Addr} {fd : FuncData} (F : Fun K "is_whole" "is_whole" s_is_whole f fd) (T : Txt K mg) : FnOk P w K mg base CX0 1 f fd ["thing"] (sp_whole K) := by
  refine F.okq sc_is_whole (fun vs H Q E h => ?_) (fun cdv A outer s H vs Q E hr h => ?_)
  · obtain ⟨v, rfl, _⟩ := h
    rfl
  · obtain ⟨v, rfl, ⟨t, ht⟩, q⟩ := h
    refine ⟨_, qss_one (qs_ret (qe_and (qe_callB (k_isi K "int") (by rfl) T.isinstance (by decide +kernel) (qa_cons (qv 0) (qa_cons (qe_bltn (v := .ty "int") (by rfl) T.int (by decide +kernel) rfl) qa_nil))) (qe_one (qe_not (qe_callB (k_isi K "bool") (by rfl) T.isinstance (by decide +kernel) (qa_cons (qv 0) (qa_cons (qe_bltn (v := .ty "bool") (by rfl) T.bool (by decide +kernel) rfl) qa_nil))))))), ?_⟩
    walk_at "r"
    refine s_isiN ht (by simp) ?_
    have e : wholeV v = (kitT t "int" && !kitT t "bool") := by cases ht <;> rfl
    rw [e] at q
    refine ⟨_, rfl, ?_⟩
    cases h1 : kitT t "int" with
    | false =>
      rw [h1] at q
      exact q
    | true =>
      rw [h1] at q
      walk_at "r"
      refine s_isiN ht (by simp) ?_
      walk_at "r"
      exact q
end
end K21

set_option Elab.async false
set_option linter.all false
set_option maxRecDepth 100000
set_option maxHeartbeats 4000000
namespace K21
open PySem L2 K10
section
variable {P : Program} {w : World} {K : PySem.W.Frag} {mg : Str → Option Value} {base : Heap}
theorem big : 100000 ≤ sizeLine := by decide
theorem take_snoc {α : Type} {l : List α} {i : Nat} {c : α} (h : l[i]? = some c) : l.take (i + 1) = l.take i ++ [c] := by
  rw [List.take_succ, h]
  rfl
theorem take_lt {z : Str} {i : Nat} {c : Nat} (h : z.cps.toList[i]? = some c) : i < z.length := by
  have := (List.getElem?_eq_some_iff.mp h).1
  simpa [Str.length] using this
theorem all_take {z : Str} {p : Nat → Bool} : (((z.cps.toList.take z.cps.size).map p).all id) = z.cps.toList.all p := by
  rw [List.take_of_length_le (by simp), List.all_map]
  rfl
noncomputable def sp_name (K : PySem.W.Frag) : Sp := fun vs H Q _ => ∃ v, vs = [v] ∧ Has K H v ∧ ∀ H', Same H H' → Q (.bl (nameV v)) H'
theorem nd_is_name_1 : (["sign"] : List Str).Nodup := by decide +kernel
theorem sc_is_name : FnScope ["thing"] ["thing"] (defScope s_is_name) := ⟨rfl, rfl, rfl, by decide +kernel, rfl, by decide +kernel, by decide +kernel⟩
theorem in_strs {t : Str} {ws : List Str} : inV (.str t) (ws.map V.str) = isIn t ws := by
  unfold inV isIn
  rw [List.any_map]
  rfl
theorem flat_strs {ws : List Str} : (ws.map V.str).all flatV = true := by
  rw [List.all_map]
  exact List.all_eq_true.mpr fun _ _ => rfl
theorem ok_name {f : Addr} {fd : FuncData} (F : Fun K "is_name" "is_name" s_is_name f fd) (T : Txt K mg) (G : Gs P w K mg) : FnOk P w K mg base CX0 1 f fd ["thing"] (sp_name K) := by
  refine F.okq sc_is_name (fun vs H Q E h => ?_) (fun cdv A outer s H vs Q E hr h => ?_)
  · obtain ⟨v, rfl, _⟩ := h
    rfl
  · obtain ⟨v, rfl, ⟨t, ht⟩, q⟩ := h
    obtain ⟨a9, G_WORDS_NO_NAMES, h9⟩ := G.w9
    have G_NAME_SIGNS := G.ns
    refine ⟨_, qss_cons (qs_if (QW.qt (qw_or (qt_not (qt_val (qe_callB (k_isi K "str") (by rfl) T.isinstance (by decide +kernel) (qa_cons (qv 0) (qa_cons (qe_bltn (v := .ty "str") (by rfl) T.str (by decide +kernel) rfl) qa_nil))))) (qw_or1 (qt_not (qt_chain op_leA op_leA (qe_int) (qe_callB (k_len K) (by rfl) T.len (by decide +kernel) (qa_cons (qv 0) qa_nil)) (qe_int)))))) (qss_one (qs_ret (qe_bl))) (qss_nil))
      (qss_one (qs_ret (qe_and (qe_callB (k_all K rfl) (by rfl) T.all (by decide +kernel) (qa_cons (qe_comp (N := ["sign"]) (σ0 := capSt 1 []) rfl (cscope_fn rfl (by decide +kernel) (by decide +kernel) (by decide +kernel)) (qi_anyK K (qv 0)) (takes_in rfl (by rfl)) (fun _ _ _ _ => qg_name (i := 0) nd_is_name_1 rfl (Or.inl rfl)) (fun _ _ _ _ => qts_nil) (fun _ _ _ _ => qe_cmpR (k_in K) (qv 0) (qe_gl G_NAME_SIGNS) (by rfl))) qa_nil)) (qe_one (qe_cmpR (k_notin K) (qv 0) (qe_gl G_WORDS_NO_NAMES) (by rfl)))))), ?_⟩
    have bg := big
    walk_at "r"
    refine s_isiN ht (by simp) ?_
    walk_at "r"
    cases h1 : kitT t "str" with
    | false =>
      have e : nameV v = false := by cases ht <;> first | rfl | (cases h1)
      walk_at "r"
      rw [e] at q
      exact q H (Same.refl H)
    | true =>
      obtain ⟨z, rfl, hz⟩ : ∃ z, v = .str z ∧ z.length ≤ 1000 := by
        cases ht <;> first | exact ⟨_, rfl, by assumption⟩ | (cases h1)
      walk_at "r"
      refine s_len_str (by omega) ?_
      walk_at "r"
      have e : nameV (.str z) = (decide (1 ≤ z.length) && decide (z.length ≤ 8) && allIn z LET && !isIn z W9) := rfl
      rw [e] at q
      refine ite2 (fun h => ?_) (fun h => ?_)
      · have l1 : 1 ≤ z.length := by have := of_decide_eq_true h; omega
        walk_at "r"
        refine ite2 (fun h' => ?_) (fun h' => ?_)
        · have l2 : ¬ z.length ≤ 8 := fun x => by simp at h'; omega
          walk_at "r"
          have := q H (Same.refl H)
          rw [decide_eq_false l2, Bool.and_false, Bool.false_and, Bool.false_and] at this
          exact this
        · have l2 : z.length ≤ 8 := by simp at h'; omega
          walk_at "r"
          refine .inr (.inr ⟨z, rfl, fun D hD => ?_⟩)
          refine comp_str (z := z) (Pv := fun i ys σ' H' => ∃ sv, σ' = [sv] ∧ ys = ((z.cps.toList.take i).map fun c => decide (c ∈ LET.cps.toList)).map V.bl ∧ Same H H') ⟨none, rfl, rfl, Same.upd hD⟩ ?_ ?_
          · rintro i c ys σ' H' hc hys ⟨sv, rfl, rfl, hH⟩
            walk_at "r"
            have hi := take_lt hc
            refine .inr ⟨c, LET, rfl, rfl, ?_⟩
            refine ⟨_, hys, by rw [List.length_map, List.length_map, List.length_take]; omega, _, upd_same, _, rfl, ?_, hH.over hD⟩
            rw [take_snoc hc, List.map_append, List.map_append]
            rfl
          · rintro ys σ' H' hys ⟨sv, rfl, rfl, hH⟩
            walk_at "r"
            refine ⟨D, _, rfl, SqL.of hys, ?_⟩
            rw [all_take]
            have en : allIn z LET = (z.cps.toList.all fun c => decide (c ∈ LET.cps.toList)) := rfl
            rw [← en]
            have q' := q H' hH
            rw [decide_eq_true l1, decide_eq_true l2, Bool.true_and, Bool.true_and] at q'
            walk_at "r"
            refine ite2 (fun hA => ?_) (fun hA => ?_)
            · walk_at "r"
              refine s_in_seq (.inr (h9 _)) rfl flat_strs ?_
              rw [hA, Bool.true_and] at q'
              rw [if_pos rfl, in_strs]
              exact q'
            · have hA : allIn z LET = false := by simpa using hA
              rw [hA, Bool.false_and] at q'
              exact q'
      · have l1 : ¬ 1 ≤ z.length := fun x => h (decide_eq_true (by omega))
        walk_at "r"
        have := q H (Same.refl H)
        rw [decide_eq_false l1, Bool.false_and, Bool.false_and, Bool.false_and] at this
        exact this
end
end K21

set_option Elab.async false
set_option linter.all false
set_option maxRecDepth 100000
set_option maxHeartbeats 4000000
namespace K21
open PySem L2 K10
section
variable {P : Program} {w : World} {K : PySem.W.Frag} {mg : Str → Option Value} {base : Heap}
theorem str_len (t : Str) : t.cps.toList.length = t.length := by simp [Str.length]
theorem head_at {t : Str} {c : Nat} (h : atI t.cps.toList 0 = some c) : t.cps.toList.head? = some c := by
  obtain ⟨j, h1, h2, h3, _⟩ := atI_get h
  have : j = 0 := by
    unfold atI ixN at h
    rw [seqIndex_of (by decide) (by omega)] at h1
    have := Option.some.inj h1
    omega
  subst this
  rw [List.head?_eq_getElem?]
  exact h2
theorem first_at {t : Str} (h : 1 ≤ t.length) : ∃ c, atI t.cps.toList 0 = some c := by
  obtain ⟨c, h1, _⟩ := atI_in (xs := t.cps.toList) (i := 0) (by decide) (by rw [str_len]; omega)
  exact ⟨c, h1⟩
theorem zero_eq (c : Nat) : decide (V.str ⟨#[c]⟩ = V.str ("0" : Str)) = (some c == some 48) := by
  have e : ("0" : Str) = ⟨#[48]⟩ := by decide +kernel
  rw [e, Bool.eq_iff_iff]
  simp
theorem str_dec (t u : Str) : decide (V.str t = V.str u) = (t == u) := by
  rw [Bool.eq_iff_iff]
  simp
noncomputable def sp_fig : Sp := fun vs H Q _ => ∃ z : Str, vs = [.str z] ∧ z.length ≤ 1000 ∧ ∀ H', Same H H' → Q (.bl (figB z)) H'
theorem nd_is_figures_1 : (["sign"] : List Str).Nodup := by decide +kernel
theorem sc_is_figures : FnScope ["text"] ["text"] (defScope s_is_figures) := ⟨rfl, rfl, rfl, by decide +kernel, rfl, by decide +kernel, by decide +kernel⟩
theorem ok_fig {f : Addr} {fd : FuncData} (F : Fun K "is_figures" "is_figures" s_is_figures f fd) (T : Txt K mg) (G : Gs P w K mg) : FnOk P w K mg base CX0 1 f fd ["text"] sp_fig := by
  refine F.okq sc_is_figures (fun vs H Q E h => ?_) (fun cdv A outer s H vs Q E hr h => ?_)
  · obtain ⟨v, rfl, _⟩ := h
    rfl
  · obtain ⟨z, rfl, hz, q⟩ := h
    have G_FIGURES := G.fg
    refine ⟨_, qss_cons (qs_if (QW.qt (qw_or (qt_not (qt_chain op_leA op_leA (qe_int) (qe_callB (k_len K) (by rfl) T.len (by decide +kernel) (qa_cons (qv 0) qa_nil)) (qe_int))) (qw_or1 (qt_not (qt_val (qe_callB (k_all K rfl) (by rfl) T.all (by decide +kernel) (qa_cons (qe_comp (N := ["sign"]) (σ0 := capSt 1 []) rfl (cscope_fn rfl (by decide +kernel) (by decide +kernel) (by decide +kernel)) (qi_anyK K (qv 0)) (takes_in rfl (by rfl)) (fun _ _ _ _ => qg_name (i := 0) nd_is_figures_1 rfl (Or.inl rfl)) (fun _ _ _ _ => qts_nil) (fun _ _ _ _ => qe_cmpR (k_in K) (qv 0) (qe_gl G_FIGURES) (by rfl))) qa_nil))))))) (qss_one (qs_ret (qe_bl))) (qss_nil))
      (qss_one (qs_ret (qe_or (qe_cmpR (k_eq K hr.u200) (qv 0) (qe_str) (nomark _)) (qe_one (qe_cmpR (k_ne K hr.u200) (qe_ix (k_ix K) (qv 0) (qe_int) (fun _ _ => rfl)) (qe_str) (nomark _)))))), ?_⟩
    have bg := big
    have e : figB z = (decide (1 ≤ z.length) && decide (z.length ≤ 18) && allIn z DIG && (z == ("0" : Str) || !hd0 z)) := rfl
    rw [e] at q
    walk_at "r"
    refine s_len_str (by omega) ?_
    walk_at "r"
    refine ite2 (fun h => ?_) (fun h => ?_)
    · have l1 : 1 ≤ z.length := by have := of_decide_eq_true h; omega
      walk_at "r"
      refine ite2 (fun h' => ?_) (fun h' => ?_)
      · have l2 : ¬ z.length ≤ 18 := fun x => by simp at h'; omega
        walk_at "r"
        have := q H (Same.refl H)
        rw [decide_eq_false l2, Bool.and_false, Bool.false_and, Bool.false_and] at this
        exact this
      · have l2 : z.length ≤ 18 := by simp at h'; omega
        walk_at "r"
        refine .inr (.inr ⟨z, rfl, fun D hD => ?_⟩)
        refine comp_str (z := z) (Pv := fun i ys σ' H' => ∃ sv, σ' = [sv] ∧ ys = ((z.cps.toList.take i).map fun c => decide (c ∈ DIG.cps.toList)).map V.bl ∧ Same H H') ⟨none, rfl, rfl, Same.upd hD⟩ ?_ ?_
        · rintro i c ys σ' H' hc hys ⟨sv, rfl, rfl, hH⟩
          walk_at "r"
          have hi := take_lt hc
          refine .inr ⟨c, DIG, rfl, rfl, ?_⟩
          refine ⟨_, hys, by rw [List.length_map, List.length_map, List.length_take]; omega, _, upd_same, _, rfl, ?_, hH.over hD⟩
          rw [take_snoc hc, List.map_append, List.map_append]
          rfl
        · rintro ys σ' H' hys ⟨sv, rfl, rfl, hH⟩
          walk_at "r"
          refine ⟨D, _, rfl, SqL.of hys, ?_⟩
          rw [all_take]
          have en : allIn z DIG = (z.cps.toList.all fun c => decide (c ∈ DIG.cps.toList)) := rfl
          rw [← en]
          have q' := q H' hH
          rw [decide_eq_true l1, decide_eq_true l2, Bool.true_and, Bool.true_and] at q'
          walk_at "r"
          refine ite2 (fun hA => ?_) (fun hA => ?_)
          · have hA : allIn z DIG = false := by simpa using hA
            rw [hA, Bool.false_and] at q'
            walk_at "r"
            exact q'
          · have hA : allIn z DIG = true := by simpa using hA
            rw [hA, Bool.true_and] at q'
            walk_at "r"
            rw [str_dec]
            refine ite2 (fun hz => ?_) (fun hz => ?_)
            · rw [hz, Bool.true_or] at q'
              exact q'
            · have hz : (z == ("0" : Str)) = false := by simpa using hz
              rw [hz, Bool.false_or] at q'
              walk_at "r"
              obtain ⟨c, hc⟩ := first_at l1
              refine s_ix_str (by omega) hc ?_
              refine s_ne rfl ?_
              rw [zero_eq]
              have : hd0 z = (some c == some 48) := by
                unfold hd0
                rw [head_at hc]
              rw [← this]
              exact q'
    · have l1 : ¬ 1 ≤ z.length := fun x => h (decide_eq_true (by omega))
      walk_at "r"
      have := q H (Same.refl H)
      rw [decide_eq_false l1, Bool.false_and, Bool.false_and, Bool.false_and] at this
      exact this
end
end K21

set_option Elab.async false
set_option linter.all false
set_option maxRecDepth 100000
set_option maxHeartbeats 4000000
namespace K21
open PySem L2 K10
section
variable {P : Program} {w : World} {K : PySem.W.Frag} {mg : Str → Option Value} {base : Heap}
noncomputable def sp_osign : Sp := fun vs H Q _ => ∃ c : Nat, vs = [.str ⟨#[c]⟩] ∧ Q (.bl (oddC c)) H
theorem sc_is_odd_sign : FnScope ["sign"] ["sign"] (defScope s_is_odd_sign) := ⟨rfl, rfl, rfl, by decide +kernel, rfl, by decide +kernel, by decide +kernel⟩
theorem ll1 (a b : Nat) : decide ([a] < [b]) = decide (a < b) := by
  by_cases h : a < b
  · rw [decide_eq_true h]
    exact decide_eq_true (List.Lex.rel h)
  · rw [decide_eq_false h]
    refine decide_eq_false fun e => ?_
    cases e with
    | rel e => exact h e
    | cons e => cases e
theorem le_first (c : Nat) : (!decide ((⟨#[c]⟩ : Str).cps.toList < ("!" : Str).cps.toList)) = decide (33 ≤ c) := by
  have e : ("!" : Str).cps.toList = [33] := by decide +kernel
  have e2 : (⟨#[c]⟩ : Str).cps.toList = [c] := rfl
  rw [e, e2, ll1, Bool.eq_iff_iff]
  simp
theorem le_last (c : Nat) : (!decide (("~" : Str).cps.toList < (⟨#[c]⟩ : Str).cps.toList)) = decide (c ≤ 126) := by
  have e : ("~" : Str).cps.toList = [126] := by decide +kernel
  have e2 : (⟨#[c]⟩ : Str).cps.toList = [c] := rfl
  rw [e, e2, ll1, Bool.eq_iff_iff]
  simp
theorem ok_osign {f : Addr} {fd : FuncData} (F : Fun K "is_odd_sign" "is_odd_sign" s_is_odd_sign f fd) (T : Txt K mg) : FnOk P w K mg base CX0 1 f fd ["sign"] sp_osign := by
  refine F.okq sc_is_odd_sign (fun vs H Q E h => ?_) (fun cdv A outer s H vs Q E hr h => ?_)
  · obtain ⟨v, rfl, _⟩ := h
    rfl
  · obtain ⟨c, rfl, q⟩ := h
    refine ⟨_, qss_one (qs_ret (qe_and (qe_chain op_leA op_leA (qe_str) (qv 0) (qe_str)) (qe_one (qe_cmpR (k_notin K) (qv 0) (qe_str) (by rfl))))), ?_⟩
    walk_at "r"
    have e : oddC c = (decide (33 ≤ c) && decide (c ≤ 126) && !decide (c ∈ BR.cps.toList)) := rfl
    rw [e] at q
    refine .inr ⟨_, _, rfl, rfl, _, rfl, ?_⟩
    rw [le_first]
    refine ite2 (fun h => ?_) (fun h => ?_)
    · rw [h, Bool.true_and] at q
      walk_at "r"
      refine .inr ⟨_, _, rfl, rfl, _, rfl, ?_⟩
      rw [le_last]
      refine ite2 (fun h => ?_) (fun h => ?_)
      · rw [h, Bool.true_and] at q
        walk_at "r"
        exact .inr ⟨c, BR, rfl, rfl, q⟩
      · have h : decide (c ≤ 126) = false := by simpa using h
        rw [h, Bool.false_and] at q
        exact q
    · have h : decide (33 ≤ c) = false := by simpa using h
      rw [h, Bool.false_and, Bool.false_and] at q
      exact ⟨_, rfl, iteF q⟩
end
end K21

set_option Elab.async false
set_option linter.all false
set_option maxRecDepth 100000
set_option maxHeartbeats 4000000
namespace K21
open PySem L2 K10
section
variable {P : Program} {w : World} {K : PySem.W.Frag} {mg : Str → Option Value} {base : Heap}
noncomputable def sp_odd (K : PySem.W.Frag) : Sp := fun vs H Q _ => ∃ v, vs = [v] ∧ Has K H v ∧ ∀ H', Same H H' → Q (.bl (oddV v)) H'
theorem nd_is_odd_1 : (["sign"] : List Str).Nodup := by decide +kernel
theorem sc_is_odd : FnScope ["thing"] ["thing"] (defScope s_is_odd) := ⟨rfl, rfl, rfl, by decide +kernel, rfl, by decide +kernel, by decide +kernel⟩
theorem ok_odd {f : Addr} {fd : FuncData} (F : Fun K "is_odd" "is_odd" s_is_odd f fd) (T : Txt K mg) (G : Gs P w K mg) (C_is_odd_sign : Callee P w K mg base 1 "is_odd_sign" ["sign"] sp_osign) (C_is_name : Callee P w K mg base 1 "is_name" ["thing"] (sp_name K)) (C_is_figures : Callee P w K mg base 1 "is_figures" ["text"] sp_fig) : FnOk P w K mg base CX0 2 f fd ["thing"] (sp_odd K) := by
  refine F.okq sc_is_odd (fun vs H Q E h => ?_) (fun cdv A outer s H vs Q E hr h => ?_)
  · obtain ⟨v, rfl, _⟩ := h
    rfl
  · obtain ⟨v, rfl, ⟨t, ht⟩, q⟩ := h
    obtain ⟨a10, G_WORDS_NOT_ODD, h10⟩ := G.w10
    refine ⟨_, qss_cons (qs_if (QW.qt (qw_or (qt_not (qt_val (qe_callB (k_isi K "str") (by rfl) T.isinstance (by decide +kernel) (qa_cons (qv 0) (qa_cons (qe_bltn (v := .ty "str") (by rfl) T.str (by decide +kernel) rfl) qa_nil))))) (qw_or1 (qt_not (qt_chain op_leA op_leA (qe_int) (qe_callB (k_len K) (by rfl) T.len (by decide +kernel) (qa_cons (qv 0) qa_nil)) (qe_int)))))) (qss_one (qs_ret (qe_bl))) (qss_nil))
      (qss_cons (qs_if (qt_not (qt_val (qe_callB (k_all K rfl) (by rfl) T.all (by decide +kernel) (qa_cons (qe_comp (N := ["sign"]) (σ0 := capSt 1 []) rfl (cscope_fn rfl (by decide +kernel) (by decide +kernel) (by decide +kernel)) (qi_anyK K (qv 0)) (takes_in rfl (by rfl)) (fun _ _ _ _ => qg_name (i := 0) nd_is_odd_1 rfl (Or.inl rfl)) (fun _ _ _ _ => qts_nil) (fun _ _ _ _ => qe_fn C_is_odd_sign (hr.mono (by decide)) (qa_cons (qv 0) qa_nil))) qa_nil)))) (qss_one (qs_ret (qe_bl))) (qss_nil))
      (qss_one (qs_ret (qe_and (qe_not (qe_fn C_is_name (hr.mono (by decide)) (qa_cons (qv 0) qa_nil))) (qe_and (qe_cmpR (k_notin K) (qv 0) (qe_gl G_WORDS_NOT_ODD) (by rfl)) (qe_one (qe_not (qe_fn C_is_figures (hr.mono (by decide)) (qa_cons (qv 0) qa_nil))))))))), ?_⟩
    have bg := big
    walk_at "r"
    refine s_isiN ht (by simp) ?_
    walk_at "r"
    cases h1 : kitT t "str" with
    | false =>
      have e : oddV v = false := by cases ht <;> first | rfl | (cases h1)
      walk_at "r"
      rw [e] at q
      exact q H (Same.refl H)
    | true =>
      obtain ⟨z, rfl, hz⟩ : ∃ z, v = .str z ∧ z.length ≤ 1000 := by
        cases ht <;> first | exact ⟨_, rfl, by assumption⟩ | (cases h1)
      walk_at "r"
      refine s_len_str (by omega) ?_
      walk_at "r"
      have e : oddV (.str z) = (decide (1 ≤ z.length) && decide (z.length ≤ 60) && z.cps.toList.all oddC && !nameB z && !isIn z W10 && !figB z) := rfl
      rw [e] at q
      refine ite2 (fun h => ?_) (fun h => ?_)
      · have l1 : 1 ≤ z.length := by have := of_decide_eq_true h; omega
        walk_at "r"
        refine ite2 (fun h' => ?_) (fun h' => ?_)
        · have l2 : ¬ z.length ≤ 60 := fun x => by simp at h'; omega
          walk_at "r"
          have := q H (Same.refl H)
          rw [decide_eq_false l2, Bool.and_false] at this
          exact this
        · have l2 : z.length ≤ 60 := by simp at h'; omega
          walk_at "r"
          refine .inr (.inr ⟨z, rfl, fun D hD => ?_⟩)
          refine comp_str (z := z) (Pv := fun i ys σ' H' => ∃ sv, σ' = [sv] ∧ ys = ((z.cps.toList.take i).map oddC).map V.bl ∧ Same H H') ⟨none, rfl, rfl, Same.upd hD⟩ ?_ ?_
          · rintro i c ys σ' H' hc hys ⟨sv, rfl, rfl, hH⟩
            walk_at "r"
            have hi := take_lt hc
            refine ⟨c, rfl, ?_⟩
            refine ⟨_, hys, by rw [List.length_map, List.length_map, List.length_take]; omega, _, upd_same, _, rfl, ?_, hH.over hD⟩
            rw [take_snoc hc, List.map_append, List.map_append]
            rfl
          · rintro ys σ' H' hys ⟨sv, rfl, rfl, hH⟩
            walk_at "r"
            refine ⟨D, _, rfl, SqL.of hys, ?_⟩
            rw [all_take]
            rw [decide_eq_true l1, decide_eq_true l2, Bool.true_and, Bool.true_and] at q
            walk_at "r"
            refine ite2 (fun hA => ?_) (fun hA => ?_)
            · have hA : z.cps.toList.all oddC = false := by simpa using hA
              rw [hA] at q
              walk_at "r"
              exact q H' hH
            · have hA : z.cps.toList.all oddC = true := by simpa using hA
              rw [hA, Bool.true_and] at q
              walk_at "r"
              refine ⟨_, rfl, ⟨_, .str z hz⟩, fun H2 s2 => ?_⟩
              walk_at "r"
              show if (!nameB z) = true then _ else _
              refine ite2 (fun hN => ?_) (fun hN => ?_)
              · rw [hN, Bool.true_and] at q
                walk_at "r"
                refine s_in_seq (.inr (h10 _)) rfl flat_strs ?_
                rw [if_pos rfl, in_strs]
                walk_at "r"
                refine ite2 (fun hW => ?_) (fun hW => ?_)
                · rw [hW, Bool.true_and] at q
                  walk_at "r"
                  refine ⟨_, rfl, hz, fun H3 s3 => ?_⟩
                  walk_at "r"
                  exact q H3 ((hH.trans s2).trans s3)
                · have hW : (!isIn z W10) = false := by simpa using hW
                  rw [hW] at q
                  exact q H2 (hH.trans s2)
              · have hN : (!nameB z) = false := by simpa using hN
                rw [hN] at q
                exact q H2 (hH.trans s2)
      · have l1 : ¬ 1 ≤ z.length := fun x => h (decide_eq_true (by omega))
        walk_at "r"
        have := q H (Same.refl H)
        rw [decide_eq_false l1] at this
        exact this
end
end K21

set_option Elab.async false
set_option linter.all false
set_option maxRecDepth 100000
set_option maxHeartbeats 4000000
namespace K21
open PySem L2 K10
section
variable {P : Program} {w : World} {K : PySem.W.Frag} {mg : Str → Option Value} {base : Heap}
noncomputable def sp_word (K : PySem.W.Frag) : Sp := fun vs H Q _ => ∃ v, vs = [v] ∧ Has K H v ∧ Q (.bl (wordV v)) H
theorem sc_is_word : FnScope ["thing"] ["thing"] (defScope s_is_word) := ⟨rfl, rfl, rfl, by decide +kernel, rfl, by decide +kernel, by decide +kernel⟩
theorem ok_word {f : Addr} {fd : FuncData} (F : Fun K "is_word" "is_word" s_is_word f fd) (T : Txt K mg) (G : Gs P w K mg) : FnOk P w K mg base CX0 1 f fd ["thing"] (sp_word K) := by
  refine F.okq sc_is_word (fun vs H Q E h => ?_) (fun cdv A outer s H vs Q E hr h => ?_)
  · obtain ⟨v, rfl, _⟩ := h
    rfl
  · obtain ⟨v, rfl, ⟨t, ht⟩, q⟩ := h
    obtain ⟨ap, G_PARTS_OF_WORDS, hp⟩ := G.pw
    refine ⟨_, qss_one (qs_ret (qe_and (qe_callB (k_isi K "str") (by rfl) T.isinstance (by decide +kernel) (qa_cons (qv 0) (qa_cons (qe_bltn (v := .ty "str") (by rfl) T.str (by decide +kernel) rfl) qa_nil))) (qe_one (qe_cmpR (k_inD P w K) (qv 0) (qe_gl G_PARTS_OF_WORDS) (by rfl))))), ?_⟩
    walk_at "r"
    refine s_isiN ht (by simp) ?_
    walk_at "r"
    cases h1 : kitT t "str" with
    | false =>
      have e : wordV v = false := by cases ht <;> first | rfl | (cases h1)
      rw [e] at q
      exact iteF q
    | true =>
      obtain ⟨z, rfl, hz⟩ : ∃ z, v = .str z ∧ z.length ≤ 1000 := by
        cases ht <;> first | exact ⟨_, rfl, by assumption⟩ | (cases h1)
      walk_at "r"
      refine ⟨z, ap, PARTS, rfl, rfl, hp, ?_⟩
      rw [parts_eq, Option.isSome_map]
      exact q
end
end K21

set_option Elab.async false
set_option linter.all false
set_option maxRecDepth 100000
set_option maxHeartbeats 4000000
namespace K21
open PySem L2 K10
section
variable {P : Program} {w : World} {K : PySem.W.Frag} {mg : Str → Option Value} {base : Heap}
inductive Nt where
  | fl (v : V)
  | tp (xs : List V)
  | ot
noncomputable def NtAt (K : PySem.W.Frag) (H : Hp) (v : V) : Nt → Prop
  | .fl u => v = u ∧ ∃ t, TyN K H u t ∧ kitT t "tuple" = false
  | .tp xs => ∃ a, v = .ref a ∧ SqT K H a xs ∧ ∀ x ∈ xs, Has K H x
  | .ot => ∃ a t, v = .ref a ∧ TyN K H v t ∧ kitT t "tuple" = false
theorem NtAt.same {K : PySem.W.Frag} {H H' : Hp} {v : V} {n : Nt} (h : NtAt K H v n) (e : Same H H') : NtAt K H' v n := by
  cases n with
  | fl u => obtain ⟨h1, t, h2, h3⟩ := h; exact ⟨h1, t, h2.same e, h3⟩
  | tp xs => obtain ⟨a, h1, h2, h3⟩ := h; exact ⟨a, h1, e.t.tup h2, fun x hx => (h3 x hx).same e⟩
  | ot => obtain ⟨a, t, h1, h2, h3⟩ := h; exact ⟨a, t, h1, h2.same e, h3⟩
theorem NtAt.has {K : PySem.W.Frag} {H : Hp} {v : V} {n : Nt} (h : NtAt K H v n) : Has K H v := by
  cases n with
  | fl u => obtain ⟨rfl, t, h2, h3⟩ := h; exact ⟨t, h2⟩
  | tp xs => obtain ⟨a, rfl, h2, h3⟩ := h; exact ⟨_, .tup h2⟩
  | ot => obtain ⟨a, t, rfl, h2, h3⟩ := h; exact ⟨t, h2⟩
noncomputable def twoN : Nt → Bool
  | .tp [x, y] => nameV x && nameV y
  | _ => false
noncomputable def sp_two (K : PySem.W.Frag) : Sp := fun vs H Q _ => ∃ v n, vs = [v] ∧ NtAt K H v n ∧ ∀ H', Same H H' → Q (.bl (twoN n)) H'
theorem sc_is_two_names : FnScope ["thing"] ["thing"] (defScope s_is_two_names) := ⟨rfl, rfl, rfl, by decide +kernel, rfl, by decide +kernel, by decide +kernel⟩
theorem ok_two {f : Addr} {fd : FuncData} (F : Fun K "is_two_names" "is_two_names" s_is_two_names f fd) (T : Txt K mg) (C_is_name : Callee P w K mg base 1 "is_name" ["thing"] (sp_name K)) : FnOk P w K mg base CX0 2 f fd ["thing"] (sp_two K) := by
  refine F.okq sc_is_two_names (fun vs H Q E h => ?_) (fun cdv A outer s H vs Q E hr h => ?_)
  · obtain ⟨v, n, rfl, _⟩ := h
    rfl
  · obtain ⟨v, n, rfl, hn, q⟩ := h
    refine ⟨_, qss_one (qs_ret (qe_and (qe_callB (k_isi K "tuple") (by rfl) T.isinstance (by decide +kernel) (qa_cons (qv 0) (qa_cons (qe_bltn (v := .ty "tuple") (by rfl) T.tuple (by decide +kernel) rfl) qa_nil))) (qe_and (qe_cmpR (k_eq K hr.u200) (qe_callB (k_len K) (by rfl) T.len (by decide +kernel) (qa_cons (qv 0) qa_nil)) (qe_int) (nomark _)) (qe_and (qe_fn C_is_name (hr.mono (by decide)) (qa_cons (qe_ix (k_ix K) (qv 0) (qe_int) (fun _ _ => rfl)) qa_nil)) (qe_one (qe_fn C_is_name (hr.mono (by decide)) (qa_cons (qe_ix (k_ix K) (qv 0) (qe_int) (fun _ _ => rfl)) qa_nil))))))), ?_⟩
    walk_at "r"
    have no : ∀ t, TyN K H v t → kitT t "tuple" = false → twoN n = false → rIsi K "tuple" [v, .ty "tuple"] H fun x H1 => ∃ k, x = .bl k ∧ if k = true then (tAndV (tOp (rEqA K) (tCB (rLen K) (tCons (tVar 0) tNil)) (tC (.int 2))) (tAndV (tCall (sp_name K) [] E (tCons (tOp (rIx K) (tVar 0) (tC (.int 0))) tNil)) (tCall (sp_name K) [] E (tCons (tOp (rIx K) (tVar 0) (tC (.int 1))) tNil)))) (L2.start ["thing"] [v]) H1 Q else Q (.bl false) H1 := by
      intro t ht hk h2
      refine s_isiN ht (by simp) ⟨_, rfl, ?_⟩
      rw [hk]
      have := q H (Same.refl H)
      rw [h2] at this
      exact iteF this
    cases n with
    | fl u =>
      obtain ⟨rfl, t, ht, hk⟩ := hn
      exact no t ht hk rfl
    | ot =>
      obtain ⟨a, t, rfl, ht, hk⟩ := hn
      exact no t ht hk rfl
    | tp xs =>
      obtain ⟨a, rfl, hq, hx⟩ := hn
      refine s_isiN (.tup hq) (by simp) ?_
      show ∃ k, V.bl true = V.bl k ∧ _
      walk_at "r"
      refine s_len_tup hq ?_
      walk_at "r"
      match xs, hq, hx, q with
      | [x, y], hq, hx, q =>
        refine iteT ?_
        walk_at "r"
        refine s_ix_tup hq (v := x) rfl ?_
        walk_at "r"
        refine ⟨_, rfl, hx x (by simp), fun H1 s1 => ?_⟩
        have e : twoN (.tp [x, y]) = (nameV x && nameV y) := rfl
        rw [e] at q
        walk_at "r"
        refine ite2 (fun h => ?_) (fun h => ?_)
        · rw [h, Bool.true_and] at q
          walk_at "r"
          refine s_ix_tup (s1.t.tup hq) (v := y) rfl ?_
          walk_at "r"
          exact ⟨_, rfl, (hx y (by simp)).same s1, fun H2 s2 => q H2 (s1.trans s2)⟩
        · have h : nameV x = false := by simpa using h
          rw [h, Bool.false_and] at q
          exact q H1 s1
      | [], hq, hx, q => exact iteF (q H (Same.refl H))
      | [x], hq, hx, q => exact iteF (q H (Same.refl H))
      | x :: y :: z :: r, hq, hx, q =>
        refine ite2 (fun h => ?_) (fun h => q H (Same.refl H))
        have := of_decide_eq_true h
        have h2 : (((x :: y :: z :: r).length : Nat) : Int) = 2 := V.int.inj this
        simp only [List.length_cons] at h2
        omega
end
end K21

set_option Elab.async false
set_option linter.all false
set_option maxRecDepth 100000
set_option maxHeartbeats 4000000
namespace K21
open PySem L2 K10
section
variable {P : Program} {w : World} {K : PySem.W.Frag} {mg : Str → Option Value} {base : Heap}
noncomputable def nameN : Nt → Bool
  | .fl v => nameV v
  | _ => false
noncomputable def oddN : Nt → Bool
  | .fl v => oddV v
  | _ => false
noncomputable def numN : Nt → Bool
  | .fl (.int i) => decide (0 ≤ i) && decide (i < 10 ^ 18)
  | _ => false
noncomputable def truthN : Nt → Bool
  | .fl (.bl _) => true
  | _ => false
noncomputable def nonN : Nt → Bool
  | .fl .non => true
  | _ => false
noncomputable def noteB (wd : Str) (n : Nt) : Bool :=
  if wd = "odd" then oddN n else if wd = "num" then numN n else if wd = "truth" then truthN n else if wd ∈ (["name", "fn", "let"] : List Str) then nameN n else if wd = "rec" then twoN n else nonN n
theorem NtAt.name {K : PySem.W.Frag} {H : Hp} {v : V} {n : Nt} (h : NtAt K H v n) : nameV v = nameN n ∧ oddV v = oddN n ∧ (wholeV v = true ↔ ∃ i, v = .int i ∧ n = .fl (.int i)) ∧ (decide (v = .bl true) || decide (v = .bl false)) = truthN n ∧ decide (v = .non) = nonN n := by
  cases n with
  | fl u =>
    obtain ⟨rfl, t, h2, h3⟩ := h
    cases h2 <;> first | (exact ⟨rfl, rfl, by simp [wholeV], rfl, rfl⟩) | (exact ⟨rfl, rfl, by simp [wholeV], by decide, rfl⟩) | skip
    rename_i b
    exact ⟨rfl, rfl, by simp [wholeV], by cases b <;> rfl, rfl⟩
  | tp xs =>
    obtain ⟨a, rfl, h2, h3⟩ := h
    exact ⟨rfl, rfl, by simp [wholeV], rfl, rfl⟩
  | ot =>
    obtain ⟨a, t, rfl, h2, h3⟩ := h
    exact ⟨rfl, rfl, by simp [wholeV], rfl, rfl⟩
theorem dec_str (a b : Str) : decide (V.str a = V.str b) = decide (a = b) := by
  by_cases h : a = b
  · simp [h]
  · simp [h]
noncomputable def sp_note (K : PySem.W.Frag) : Sp := fun vs H Q _ => ∃ wd v n, vs = [.str wd, v] ∧ NtAt K H v n ∧ ∀ H', Same H H' → Q (.bl (noteB wd n)) H'
theorem sc_is_note : FnScope ["word", "note"] ["word", "note"] (defScope s_is_note) := ⟨rfl, rfl, rfl, by decide +kernel, rfl, by decide +kernel, by decide +kernel⟩
theorem ok_note {f : Addr} {fd : FuncData} (F : Fun K "is_note" "is_note" s_is_note f fd) (T : Txt K mg) (C_is_whole : Callee P w K mg base 1 "is_whole" ["thing"] (sp_whole K)) (C_is_name : Callee P w K mg base 1 "is_name" ["thing"] (sp_name K)) (C_is_odd : Callee P w K mg base 2 "is_odd" ["thing"] (sp_odd K)) (C_is_two_names : Callee P w K mg base 2 "is_two_names" ["thing"] (sp_two K)) : FnOk P w K mg base CX0 3 f fd ["word", "note"] (sp_note K) := by
  refine F.okq sc_is_note (fun vs H Q E h => ?_) (fun cdv A outer s H vs Q E hr h => ?_)
  · obtain ⟨wd, v, n, rfl, _⟩ := h
    rfl
  · obtain ⟨wd, v, n, rfl, hn, q⟩ := h
    refine ⟨_, qss_cons (qs_if (qt_cmpR (k_eq K hr.u200) (qv 0) (qe_str) (nomark _)) (qss_one (qs_ret (qe_fn C_is_odd (hr.mono (by decide)) (qa_cons (qv 1) qa_nil)))) (qss_nil))
      (qss_cons (qs_if (qt_cmpR (k_eq K hr.u200) (qv 0) (qe_str) (nomark _)) (qss_one (qs_ret (qe_and (qe_fn C_is_whole (hr.mono (by decide)) (qa_cons (qv 1) qa_nil)) (qe_one (qe_chain op_leA op_ltA (qe_int) (qv 1) (qe_op op_pow (qe_int) (qe_int))))))) (qss_nil))
      (qss_cons (qs_if (qt_cmpR (k_eq K hr.u200) (qv 0) (qe_str) (nomark _)) (qss_one (qs_ret (qe_or (qe_cmpR op_isB (qv 1) (qe_bl) (nomark _)) (qe_one (qe_cmpR op_isB (qv 1) (qe_bl) (nomark _)))))) (qss_nil))
      (qss_cons (qs_if (qt_cmpR (k_in K) (qv 0) (qe_tup (qa_cons (qe_str) (qa_cons (qe_str) (qa_cons (qe_str) qa_nil)))) (by rfl)) (qss_one (qs_ret (qe_fn C_is_name (hr.mono (by decide)) (qa_cons (qv 1) qa_nil)))) (qss_nil))
      (qss_cons (qs_if (qt_cmpR (k_eq K hr.u200) (qv 0) (qe_str) (nomark _)) (qss_one (qs_ret (qe_fn C_is_two_names (hr.mono (by decide)) (qa_cons (qv 1) qa_nil)))) (qss_nil))
      (qss_one (qs_ret (qe_cmp (qc_isN (qv 1))))))))), ?_⟩
    obtain ⟨e1, e2, e3, e4, e5⟩ := hn.name
    unfold noteB at q
    walk_at "r"
    rw [dec_str]
    refine ite2 (fun h => ?_) (fun h => ?_)
    · rw [if_pos (of_decide_eq_true h), ← e2] at q
      walk_at "r"
      exact ⟨_, rfl, hn.has, q⟩
    rw [if_neg (fun x => h (decide_eq_true x))] at q
    walk_at "r"
    rw [dec_str]
    refine ite2 (fun h => ?_) (fun h => ?_)
    · rw [if_pos (of_decide_eq_true h)] at q
      walk_at "r"
      refine ⟨_, rfl, hn.has, ?_⟩
      walk_at "r"
      refine ite2 (fun h => ?_) (fun h => ?_)
      · obtain ⟨i, rfl, rfl⟩ := e3.mp h
        have e : numN (.fl (.int i)) = (decide (0 ≤ i) && decide (i < 10 ^ 18)) := rfl
        rw [e] at q
        walk_at "r"
        refine ite2 (fun h => ?_) (fun h => ?_)
        · rw [h, Bool.true_and] at q
          walk_at "r"
          exact q H (Same.refl H)
        · have h : decide (0 ≤ i) = false := by simpa using h
          rw [h, Bool.false_and] at q
          exact q H (Same.refl H)
      · have e : numN n = false := by
          cases hx : numN n with
          | false => rfl
          | true =>
            cases n with
            | fl u =>
              obtain ⟨rfl, _⟩ := hn
              cases v <;> first | (cases hx) | (exact absurd rfl h)
            | tp xs => cases hx
            | ot => cases hx
        rw [e] at q
        exact q H (Same.refl H)
    rw [if_neg (fun x => h (decide_eq_true x))] at q
    walk_at "r"
    rw [dec_str]
    refine ite2 (fun h => ?_) (fun h => ?_)
    · rw [if_pos (of_decide_eq_true h), ← e4] at q
      walk_at "r"
      refine ⟨true, rfl, ?_⟩
      walk_at "r"
      refine ite2 (fun h => ?_) (fun h => ?_)
      · rw [h, Bool.true_or] at q
        exact q H (Same.refl H)
      · have h : decide (v = .bl true) = false := by simpa using h
        rw [h, Bool.false_or] at q
        walk_at "r"
        exact ⟨false, rfl, q H (Same.refl H)⟩
    rw [if_neg (fun x => h (decide_eq_true x))] at q
    walk_at "r"
    refine ⟨by show 3 ≤ sizeLine; decide, fun p hp => ?_⟩
    refine s_in_seq (.inr (SqT.of upd_same)) rfl rfl ?_
    have sm := Same.upd (o := .tup [.str "name", .str "fn", .str "let"]) hp
    have em : inV (.str wd) [.str "name", .str "fn", .str "let"] = decide (wd ∈ (["name", "fn", "let"] : List Str)) := by
      have := in_strs (t := wd) (ws := ["name", "fn", "let"])
      rw [show ([V.str "name", V.str "fn", V.str "let"] : List V) = (["name", "fn", "let"] : List Str).map V.str from rfl, this]
      by_cases hm : wd ∈ (["name", "fn", "let"] : List Str)
      · rw [decide_eq_true hm, mem_isIn hm]
      · rw [decide_eq_false hm, not_isIn hm]
    rw [if_neg Bool.false_ne_true, em]
    walk_at "r"
    refine ite2 (fun h => ?_) (fun h => ?_)
    · rw [if_pos (of_decide_eq_true h), ← e1] at q
      walk_at "r"
      exact ⟨_, rfl, hn.has.same sm, fun H' s' => q H' (sm.trans s')⟩
    rw [if_neg (fun x => h (decide_eq_true x))] at q
    walk_at "r"
    rw [dec_str]
    refine ite2 (fun h => ?_) (fun h => ?_)
    · rw [if_pos (of_decide_eq_true h)] at q
      walk_at "r"
      exact ⟨_, _, rfl, hn.same sm, fun H' s' => q H' (sm.trans s')⟩
    rw [if_neg (fun x => h (decide_eq_true x)), ← e5] at q
    walk_at "r"
    exact q _ sm
end
end K21

set_option Elab.async false
set_option linter.all false
set_option maxRecDepth 100000
set_option maxHeartbeats 4000000
namespace K21
open PySem L2 K10
section
variable {P : Program} {w : World} {K : PySem.W.Frag} {mg : Str → Option Value} {base : Heap}
inductive TopD (K : PySem.W.Frag) (H : Hp) : V → Bool → Prop where
  | kind {v : V} {t : String} (h : TyN K H v t) (hk : kitT t "tuple" = false) : TopD K H v false
  | len {a : Addr} {xs : List V} (q : SqT K H a xs) (h : xs.length ≠ 3) : TopD K H (.ref a) false
  | word {a : Addr} {x n p : V} (q : SqT K H a [x, n, p]) (hx : Has K H x) (h : wordV x = false) : TopD K H (.ref a) false
  | note {a : Addr} {wd : Str} {n p : V} {nt : Nt} (q : SqT K H a [.str wd, n, p]) (hl : wd.length ≤ 1000) (hn : NtAt K H n nt) (h : noteB wd nt = false) : TopD K H (.ref a) false
  | parts {a : Addr} {wd : Str} {n p : V} {nt : Nt} {t : String} (q : SqT K H a [.str wd, n, p]) (hl : wd.length ≤ 1000) (hn : NtAt K H n nt) (hp : TyN K H p t) (h : kitT t "tuple" = false) : TopD K H (.ref a) false
  | many {a p : Addr} {wd : Str} {n : V} {nt : Nt} {vs : List V} (q : SqT K H a [.str wd, n, .ref p]) (hl : wd.length ≤ 1000) (hn : NtAt K H n nt) (qp : SqT K H p vs) : TopD K H (.ref a) ((partsOf wd).isSome && noteB wd nt && decide (partsOf wd = some vs.length))
theorem TopD.same {K : PySem.W.Frag} {H H' : Hp} {v : V} {b : Bool} (h : TopD K H v b) (e : Same H H') : TopD K H' v b := by
  cases h with
  | kind h hk => exact .kind (h.same e) hk
  | len q h => exact .len (e.t.tup q) h
  | word q hx h => exact .word (e.t.tup q) (hx.same e) h
  | note q hl hn h => exact .note (e.t.tup q) hl (hn.same e) h
  | parts q hl hn hp h => exact .parts (e.t.tup q) hl (hn.same e) (hp.same e) h
  | many q hl hn qp => exact .many (e.t.tup q) hl (hn.same e) (e.t.tup qp)
noncomputable def sp_top (K : PySem.W.Frag) : Sp := fun vs H Q _ => ∃ v b, vs = [v] ∧ TopD K H v b ∧ ∀ H', Same H H' → Q (.bl b) H'
theorem sc_is_top_of_form : FnScope ["thing"] ["thing"] (defScope s_is_top_of_form) := ⟨rfl, rfl, rfl, by decide +kernel, rfl, by decide +kernel, by decide +kernel⟩
theorem ok_top {f : Addr} {fd : FuncData} (F : Fun K "is_top_of_form" "is_top_of_form" s_is_top_of_form f fd) (T : Txt K mg) (G : Gs P w K mg) (C_is_word : Callee P w K mg base 1 "is_word" ["thing"] (sp_word K)) (C_is_note : Callee P w K mg base 3 "is_note" ["word", "note"] (sp_note K)) : FnOk P w K mg base CX0 4 f fd ["thing"] (sp_top K) := by
  refine F.okq sc_is_top_of_form (fun vs H Q E h => ?_) (fun cdv A outer s H vs Q E hr h => ?_)
  · obtain ⟨v, b, rfl, _⟩ := h
    rfl
  · obtain ⟨v, b, rfl, hv, q⟩ := h
    obtain ⟨ap, G_PARTS_OF_WORDS, hpw⟩ := G.pw
    refine ⟨_, qss_cons (qs_if (QW.qt (qw_or (qt_not (qt_val (qe_callB (k_isi K "tuple") (by rfl) T.isinstance (by decide +kernel) (qa_cons (qv 0) (qa_cons (qe_bltn (v := .ty "tuple") (by rfl) T.tuple (by decide +kernel) rfl) qa_nil))))) (qw_or1 (qt_cmpR (k_ne K hr.u200) (qe_callB (k_len K) (by rfl) T.len (by decide +kernel) (qa_cons (qv 0) qa_nil)) (qe_int) (nomark _))))) (qss_one (qs_ret (qe_bl))) (qss_nil))
      (qss_cons (qs_if (QW.qt (qw_or (qt_not (qt_val (qe_fn C_is_word (hr.mono (by decide)) (qa_cons (qe_ix (k_ix K) (qv 0) (qe_int) (fun _ _ => rfl)) qa_nil)))) (qw_or1 (qt_not (qt_val (qe_fn C_is_note (hr.mono (by decide)) (qa_cons (qe_ix (k_ix K) (qv 0) (qe_int) (fun _ _ => rfl)) (qa_cons (qe_ix (k_ix K) (qv 0) (qe_int) (fun _ _ => rfl)) qa_nil)))))))) (qss_one (qs_ret (qe_bl))) (qss_nil))
      (qss_one (qs_ret (qe_and (qe_callB (k_isi K "tuple") (by rfl) T.isinstance (by decide +kernel) (qa_cons (qe_ix (k_ix K) (qv 0) (qe_int) (fun _ _ => rfl)) (qa_cons (qe_bltn (v := .ty "tuple") (by rfl) T.tuple (by decide +kernel) rfl) qa_nil))) (qe_one (qe_cmpR (k_eq K hr.u200) (qe_callB (k_len K) (by rfl) T.len (by decide +kernel) (qa_cons (qe_ix (k_ix K) (qv 0) (qe_int) (fun _ _ => rfl)) qa_nil)) (qe_ix (k_ixD P w K) (qe_gl G_PARTS_OF_WORDS) (qe_ix (k_ix K) (qv 0) (qe_int) (fun _ _ => rfl)) (fun _ _ => rfl)) (nomark _))))))), ?_⟩
    walk_at "r"
    have self := q H (Same.refl H)
    cases hv with
    | kind h hk =>
      refine s_isiN h (by simp) ?_
      rw [hk]
      walk_at "r"
      exact self
    | len hq h =>
      refine s_isiN (.tup hq) (by simp) ?_
      show ∃ k, V.bl true = V.bl k ∧ _
      walk_at "r"
      refine s_len_tup hq ?_
      walk_at "r"
      refine ite2 (fun h' => ?_) (fun h' => ?_)
      · walk_at "r"
        exact self
      · exfalso
        simp at h'
        omega
    | word hq hx h =>
      refine s_isiN (.tup hq) (by simp) ?_
      show ∃ k, V.bl true = V.bl k ∧ _
      walk_at "r"
      refine s_len_tup hq ?_
      walk_at "r"
      refine iteF ?_
      walk_at "r"
      refine s_ix_tup hq rfl ?_
      walk_at "r"
      refine ⟨_, rfl, hx, ?_⟩
      rw [h]
      walk_at "r"
      exact self
    | @note a wd n p nt hq hl hn h =>
      refine s_isiN (.tup hq) (by simp) ?_
      show ∃ k, V.bl true = V.bl k ∧ _
      walk_at "r"
      refine s_len_tup hq ?_
      walk_at "r"
      refine iteF ?_
      walk_at "r"
      refine s_ix_tup hq rfl ?_
      walk_at "r"
      refine ⟨_, rfl, ⟨_, .str _ hl⟩, ?_⟩
      walk_at "r"
      refine ite2 (fun hw => ?_) (fun hw => ?_)
      · have hw : (partsOf wd).isSome = false := by simpa [wordV] using hw
        walk_at "r"
        exact self
      have hw : (partsOf wd).isSome = true := by
        cases hz : (partsOf wd).isSome with
        | true => rfl
        | false => exact absurd (show (!wordV (.str wd)) = true by rw [show wordV (.str wd) = (partsOf wd).isSome from rfl, hz]; rfl) hw
      walk_at "r"
      refine s_ix_tup hq rfl ?_
      walk_at "r"
      refine s_ix_tup hq rfl ?_
      walk_at "r"
      refine ⟨_, _, _, rfl, hn, fun H1 s1 => ?_⟩
      walk_at "r"
      refine ite2 (fun hN => ?_) (fun hN => ?_)
      · have hN : noteB wd nt = false := by simpa using hN
        walk_at "r"
        exact q H1 s1
      have hN : noteB wd nt = true := by simpa using hN
      rw [h] at hN
      cases hN
    | @parts a wd n p nt t hq hl hn hp h =>
      refine s_isiN (.tup hq) (by simp) ?_
      show ∃ k, V.bl true = V.bl k ∧ _
      walk_at "r"
      refine s_len_tup hq ?_
      walk_at "r"
      refine iteF ?_
      walk_at "r"
      refine s_ix_tup hq rfl ?_
      walk_at "r"
      refine ⟨_, rfl, ⟨_, .str _ hl⟩, ?_⟩
      walk_at "r"
      refine ite2 (fun hw => ?_) (fun hw => ?_)
      · have hw : (partsOf wd).isSome = false := by simpa [wordV] using hw
        walk_at "r"
        exact self
      have hw : (partsOf wd).isSome = true := by
        cases hz : (partsOf wd).isSome with
        | true => rfl
        | false => exact absurd (show (!wordV (.str wd)) = true by rw [show wordV (.str wd) = (partsOf wd).isSome from rfl, hz]; rfl) hw
      walk_at "r"
      refine s_ix_tup hq rfl ?_
      walk_at "r"
      refine s_ix_tup hq rfl ?_
      walk_at "r"
      refine ⟨_, _, _, rfl, hn, fun H1 s1 => ?_⟩
      walk_at "r"
      refine ite2 (fun hN => ?_) (fun hN => ?_)
      · have hN : noteB wd nt = false := by simpa using hN
        walk_at "r"
        exact q H1 s1
      have hN : noteB wd nt = true := by simpa using hN
      have hq1 := s1.t.tup hq
      walk_at "r"
      refine s_ix_tup hq1 rfl ?_
      walk_at "r"
      refine s_isiN (hp.same s1) (by simp) ?_
      rw [h]
      exact ⟨_, rfl, iteF (q H1 s1)⟩
    | @many a p wd n nt vs hq hl hn qp =>
      refine s_isiN (.tup hq) (by simp) ?_
      show ∃ k, V.bl true = V.bl k ∧ _
      walk_at "r"
      refine s_len_tup hq ?_
      walk_at "r"
      refine iteF ?_
      walk_at "r"
      refine s_ix_tup hq rfl ?_
      walk_at "r"
      refine ⟨_, rfl, ⟨_, .str _ hl⟩, ?_⟩
      walk_at "r"
      refine ite2 (fun hw => ?_) (fun hw => ?_)
      · have hw : (partsOf wd).isSome = false := by simpa [wordV] using hw
        rw [hw, Bool.false_and, Bool.false_and] at self
        walk_at "r"
        exact self
      have hw : (partsOf wd).isSome = true := by
        cases hz : (partsOf wd).isSome with
        | true => rfl
        | false => exact absurd (show (!wordV (.str wd)) = true by rw [show wordV (.str wd) = (partsOf wd).isSome from rfl, hz]; rfl) hw
      walk_at "r"
      refine s_ix_tup hq rfl ?_
      walk_at "r"
      refine s_ix_tup hq rfl ?_
      walk_at "r"
      refine ⟨_, _, _, rfl, hn, fun H1 s1 => ?_⟩
      walk_at "r"
      refine ite2 (fun hN => ?_) (fun hN => ?_)
      · have hN : noteB wd nt = false := by simpa using hN
        rw [hN, Bool.and_false, Bool.false_and] at q
        walk_at "r"
        exact q H1 s1
      have hN : noteB wd nt = true := by simpa using hN
      have hq1 := s1.t.tup hq
      walk_at "r"
      refine s_ix_tup hq1 rfl ?_
      walk_at "r"
      have qp1 := s1.t.tup qp
      refine s_isiN (.tup qp1) (by simp) ?_
      show ∃ k, V.bl true = V.bl k ∧ _
      rw [hN, hw, Bool.true_and, Bool.true_and] at q
      walk_at "r"
      refine s_ix_tup hq1 rfl ?_
      walk_at "r"
      refine s_len_tup qp1 ?_
      walk_at "r"
      refine s_ix_tup hq1 rfl ?_
      obtain ⟨m, hm⟩ := Option.isSome_iff_exists.mp hw
      refine ⟨ap, PARTS, wd, .int m, rfl, rfl, hpw, by rw [parts_eq, hm]; rfl, ?_⟩
      refine s_eq rfl ?_
      have e : decide (V.int (vs.length : Int) = V.int (m : Int)) = decide (partsOf wd = some vs.length) := by
        rw [hm]
        by_cases z : m = vs.length
        · subst z
          simp
        · rw [decide_eq_false (fun x => z (by have := V.int.inj x; omega)), decide_eq_false (fun x => z (Option.some.inj x))]
      rw [e]
      exact q H1 s1
end
end K21

set_option Elab.async false
set_option linter.all false
set_option maxRecDepth 100000
set_option maxHeartbeats 4000000
namespace K21
open PySem L2 K10
section
variable {P : Program} {w : World} {K : PySem.W.Frag} {mg : Str → Option Value} {base : Heap}
inductive Fm where
  | bad
  | nd (ts : List Fm)
mutual
noncomputable def Fm.size : Fm → Nat
  | .bad => 1
  | .nd ts => 1 + fsizes ts
noncomputable def fsizes : List Fm → Nat
  | [] => 0
  | t :: r => t.size + fsizes r
end
mutual
noncomputable def Fm.good : Fm → Bool
  | .bad => false
  | .nd ts => goods ts
noncomputable def goods : List Fm → Bool
  | [] => true
  | t :: r => t.good && goods r
end
theorem fsizes_append (a b : List Fm) : fsizes (a ++ b) = fsizes a + fsizes b := by
  induction a with
  | nil => simp [fsizes]
  | cons t r ih => rw [List.cons_append, fsizes, fsizes, ih]; omega
theorem goods_append (a b : List Fm) : goods (a ++ b) = (goods a && goods b) := by
  induction a with
  | nil => simp [goods]
  | cons t r ih => rw [List.cons_append, goods, goods, ih, Bool.and_assoc]
theorem fsizes_len (ts : List Fm) : ts.length ≤ fsizes ts := by
  induction ts with
  | nil => simp [fsizes]
  | cons t r ih =>
    have : 1 ≤ t.size := by cases t <;> rw [Fm.size] <;> omega
    rw [fsizes, List.length_cons]
    omega
inductive FmAt (K : PySem.W.Frag) (H : Hp) : V → Fm → Prop where
  | bad {v : V} (h : TopD K H v false) : FmAt K H v .bad
  | nd {a p : Addr} {x n : V} {vs : List V} {ts : List Fm} (q : SqT K H a [x, n, .ref p]) (qp : SqT K H p vs) (h : TopD K H (.ref a) true) (l : vs.length = ts.length)
      (hs : ∀ (j : Nat) (v : V) (t : Fm), vs[j]? = some v → ts[j]? = some t → FmAt K H v t) : FmAt K H (.ref a) (.nd ts)
theorem FmAt.same {K : PySem.W.Frag} {H H' : Hp} {v : V} {t : Fm} (h : FmAt K H v t) (e : Same H H') : FmAt K H' v t := by
  induction h with
  | bad h => exact .bad (h.same e)
  | nd q qp h l _ ih => exact .nd (e.t.tup q) (e.t.tup qp) (h.same e) l ih
theorem Al.app {α : Type} {R : V → α → Prop} {vs ws : List V} {xs ys : List α} (h : Al R vs xs) (h' : Al R ws ys) : Al R (vs ++ ws) (xs ++ ys) := by
  refine ⟨by rw [List.length_append, List.length_append, h.1, h'.1], fun j v x e1 e2 => ?_⟩
  by_cases hj : j < vs.length
  · rw [List.getElem?_append_left hj] at e1
    rw [List.getElem?_append_left (by have := h.1; omega)] at e2
    exact h.2 j v x e1 e2
  · rw [List.getElem?_append_right (by omega)] at e1
    rw [List.getElem?_append_right (by have := h.1; omega), ← h.1] at e2
    exact h'.2 _ v x e1 e2
noncomputable def sp_form (K : PySem.W.Frag) : Sp := fun vs H Q _ => ∃ v t, vs = [v] ∧ FmAt K H v t ∧ t.size ≤ 5000 ∧ ∀ H', Same H H' → Q (.bl t.good) H'
theorem sc_is_form : FnScope ["thing", "waiting", "top"] ["thing"] (defScope s_is_form) := ⟨rfl, rfl, rfl, by decide +kernel, rfl, by decide +kernel, by decide +kernel⟩
noncomputable def FoJ (K : PySem.W.Frag) (H : Hp) (v : V) (t : Fm) (pw : Addr) (m : Nat) (σ : St) (H' : Hp) : Prop := ∃ (v2 : Option V) (wv : List V) (fs : List Fm), σ = [some v, some (.ref pw), v2] ∧ H' pw = some (.lst wv) ∧ Al (FmAt K H) wv fs ∧ goods fs = t.good ∧ m = fsizes fs ∧ m ≤ 5000 ∧ Same H H'
theorem ok_form {f : Addr} {fd : FuncData} (F : Fun K "is_form" "is_form" s_is_form f fd) (T : Txt K mg) (C_is_top_of_form : Callee P w K mg base 4 "is_top_of_form" ["thing"] (sp_top K)) : FnOk P w K mg base CX0 5 f fd ["thing"] (sp_form K) := by
  refine F.okq sc_is_form (fun vs H Q E h => ?_) (fun cdv A outer s H vs Q E hr h => ?_)
  · obtain ⟨v, b, rfl, _⟩ := h
    rfl
  · obtain ⟨v, t, rfl, ht, hsz, q⟩ := h
    refine ⟨_, qss_cons (qs_set (i := 1) sc_is_form.nd rfl (Or.inl rfl) (qe_lst (qa_cons (qv 0) qa_nil)))
      (qss_cons (qs_while PassesOwn.never (qt_truthK K (qv 1) (by intro _; rfl)) (qss_cons (qs_set (i := 2) sc_is_form.nd rfl (Or.inl rfl) (qe_bm0K K PySem.F.plainAttrs_list PySem.F.slot_list_pop PySem.F.type_list_pop mt_pop (qv 1)))
      (qss_cons (qs_if (qt_not (qt_val (qe_fn C_is_top_of_form (hr.mono (by decide)) (qa_cons (qv 2) qa_nil)))) (qss_one (qs_ret (qe_bl))) (qss_nil))
      (qss_one (qs_expr (qe_bmK K PySem.F.plainAttrs_list PySem.F.slot_list_extend PySem.F.type_list_extend (k_extT K) (qv 1) (qa_cons (qe_ix (k_ix K) (qv 2) (qe_int) (fun _ _ => rfl)) qa_nil)))))))
      (qss_one (qs_ret (qe_bl)))), ?_⟩
    have bg := big
    walk_at "r"
    refine ⟨by show 1 ≤ sizeLine; decide, fun pw hpw => ?_⟩
    walk_at "r"
    refine ⟨FoJ K H v t pw, ⟨_, none, [v], [t], rfl, upd_same, Al.nil.snoc ht, by rw [goods, goods, Bool.and_true], rfl, by rw [fsizes, fsizes]; omega, Same.upd hpw⟩, ?_⟩
    rintro m σ' H' ⟨v2, wv, fs, rfl, ew, al, hg, rfl, hm, sm⟩
    walk_at "r"
    refine s_tru_lst (SqL.of ew) ?_
    by_cases hwv : wv = []
    · subst hwv
      have hst : fs = [] := List.eq_nil_of_length_eq_zero al.1.symm
      subst hst
      refine iteF ?_
      walk_at "r"
      rw [goods] at hg
      rw [← hg] at q
      exact q H' sm
    obtain ⟨wv', tp, fs', x, rfl, rfl, al3, hx⟩ := al.last hwv
    have hne : (!(wv' ++ [tp]).isEmpty) = true := by simp
    rw [hne]
    refine iteT ?_
    rw [goods_append, goods, goods, Bool.and_true] at hg
    have hsum : fsizes (fs' ++ [x]) = fsizes fs' + x.size := by rw [fsizes_append, fsizes, fsizes]; omega
    refine ⟨fun σ2 H2 => ∃ m', m' < fsizes (fs' ++ [x]) ∧ FoJ K H v t pw m' σ2 H2, fun _ _ h => h, ?_⟩
    walk_at "r"
    refine s_tyL (SqL.of ew) ?_
    refine s_pop ew ?_
    have sm2 : Same H (upd H' pw (.lst wv')) := sm.over hpw
    have ew2 : upd H' pw (.lst wv') pw = some (.lst wv') := upd_same
    revert sm2 ew2
    generalize upd H' pw (.lst wv') = H2
    intro sm2 ew2
    walk_at "r"
    cases hx with
    | bad h =>
      refine ⟨_, _, rfl, h.same sm2, fun H3 s3 => ?_⟩
      rw [Fm.good, Bool.and_false] at hg
      rw [← hg] at q
      walk_at "r"
      exact q H3 (sm2.trans s3)
    | @nd a p x n vs ts hq qp h l hs =>
      refine ⟨_, _, rfl, h.same sm2, fun H3 s3 => ?_⟩
      have sm3 := sm2.trans s3
      have ew3 := s3 _ _ ew2
      walk_at "r"
      refine s_tyL (SqL.of ew3) ?_
      walk_at "r"
      refine s_ix_tup (sm3.t.tup hq) rfl ?_
      have h1 := fsizes_len fs'
      have h2 := fsizes_len ts
      have h3 := al3.1
      rw [Fm.size] at hsum
      refine ⟨pw, p, wv', vs, rfl, rfl, ew3, sm3.t.tup qp, by omega, ?_⟩
      walk_at "r"
      refine ⟨_, ?_, _, wv' ++ vs, fs' ++ ts, rfl, upd_same, Al.app al3 ⟨l, hs⟩, ?_, rfl, ?_, sm3.over hpw⟩
      · rw [fsizes_append]
        omega
      · rw [goods_append, ← hg, Fm.good]
      · rw [fsizes_append]
        omega
end
end K21

set_option Elab.async false
set_option linter.all false
set_option maxRecDepth 100000
set_option maxHeartbeats 4000000
namespace K21
open PySem L2 K10
section
variable {P : Program} {w : World} {K : PySem.W.Frag} {mg : Str → Option Value} {base : Heap}
noncomputable def sp_cell (K : PySem.W.Frag) : Sp := fun vs H Q _ => ∃ (a : Addr) (k : Int), vs = [.ref a, .int k] ∧ Script K H a ∧ 0 ≤ k ∧ ∀ z : Int, Q (.int z) H
theorem sc_law_cell : FnScope ["_law_script", "_law_k", "_law_many_here", "_law_first"] ["_law_script", "_law_k"] (defScope s_law_cell) := ⟨rfl, rfl, rfl, by decide +kernel, rfl, by decide +kernel, by decide +kernel⟩
theorem ok_cell {f : Addr} {fd : FuncData} (F : Fun K "_law_cell" "_law_cell" s_law_cell f fd) (T : Txt K mg) : FnOk P w K mg base CX0 1 f fd ["_law_script", "_law_k"] (sp_cell K) := by
  refine F.okq sc_law_cell (fun vs H Q E h => ?_) (fun cdv A outer s H vs Q E hr h => ?_)
  · obtain ⟨a, k, rfl, _⟩ := h
    rfl
  · obtain ⟨a, k, rfl, S, h0, q⟩ := h
    obtain ⟨ns, hS, hl⟩ := S.ex
    refine ⟨_, qss_cons (qs_if (qt_cmpR op_ltA (qv 1) (qe_callB (k_len K) (by rfl) T.len (by decide +kernel) (qa_cons (qv 0) qa_nil)) (nomark _)) (qss_one (qs_ret (qe_ix (k_ix K) (qv 0) (qv 1) (fun _ _ => rfl)))) (qss_nil))
      (qss_cons (qs_set (i := 2) sc_law_cell.nd rfl (Or.inl rfl) (qe_callB (k_len K) (by rfl) T.len (by decide +kernel) (qa_cons (qv 0) qa_nil)))
      (qss_cons (qs_set (i := 3) sc_law_cell.nd rfl (Or.inl rfl) (qe_int))
      (qss_cons (qs_if (qt_cmpR op_gt (qv 2) (qe_int) (nomark _)) (qss_one (qs_set (i := 3) sc_law_cell.nd rfl (Or.inl rfl) (qe_op op_mod (qe_ix (k_ix K) (qv 0) (qe_op op_mod (qv 1) (qv 2)) (fun _ _ => rfl)) (qe_int)))) (qss_nil))
      (qss_one (qs_ret (qe_op op_mod (qe_op (k_add K) (qe_op (k_add K) (qe_op op_mulA (qv 3) (qe_int)) (qe_op op_mulA (qv 2) (qe_int))) (qe_op op_mulA (qv 1) (qe_int))) (qe_int))))))), ?_⟩
    walk_at "r"
    refine s_len_lst hS ?_
    walk_at "r"
    refine ite2 (fun h => ?_) (fun h => ?_)
    · have h1 : k < (ns.map V.int).length := by simpa using h
      obtain ⟨v, hv, m⟩ := atI_in h0 h1
      obtain ⟨z, _, rfl⟩ := List.mem_map.mp m
      walk_at "r"
      exact s_ix_lst hS hv (q z)
    · walk_at "r"
      refine s_len_lst hS ?_
      walk_at "r"
      refine ite2 (fun h => ?_) (fun h => ?_)
      · have hp : (0 : Int) < (ns.map V.int).length := by simpa using h
        obtain ⟨v, hv, m⟩ := atI_in (xs := ns.map V.int) (Int.emod_nonneg k (by omega)) (Int.emod_lt_of_pos k hp)
        obtain ⟨z, _, rfl⟩ := List.mem_map.mp m
        walk_at "r"
        refine s_rI hp ?_
        refine s_ix_lst hS hv ?_
        walk_at "r"
        exact q _
      · walk_at "r"
        exact q _
end
end K21

set_option Elab.async false
set_option linter.all false
set_option maxRecDepth 100000
set_option maxHeartbeats 4000000
namespace K21
open PySem L2 K10
section
variable {P : Program} {w : World} {K : PySem.W.Frag} {mg : Str → Option Value} {base : Heap}
theorem lets_len : LET.cps.toList.length = 27 := by decide +kernel
theorem lets_size : LET.length ≤ sizeLine := by decide +kernel
theorem catlen (u v : Str) : (u ++ v).length = u.length + v.length := by
  show (u.cps ++ v.cps).size = _
  simp [Str.length]
theorem one_len (c : Nat) : (⟨#[c]⟩ : Str).length = 1 := rfl
theorem cat_cps (t u : Str) : (t ++ u).cps.toList = t.cps.toList ++ u.cps.toList := by
  show (t.cps ++ u.cps).toList = _
  simp
theorem allIn_cat (t u s : Str) : allIn (t ++ u) s = (allIn t s && allIn u s) := by
  unfold allIn
  rw [cat_cps, List.all_append]
theorem allIn_one {c : Nat} {s : Str} (h : c ∈ s.cps.toList) : allIn ⟨#[c]⟩ s = true := by
  unfold allIn
  simpa using h
theorem w9_lens : W9.all (fun t => decide (t.length ≤ 4)) = true := by decide +kernel
theorem w9_ends : W9.all (fun t => !(t.cps.toList.getLast? == some 95)) = true := by decide +kernel
theorem w9_len {t : Str} (h : t ∈ W9) : t.length ≤ 4 := of_decide_eq_true (List.all_eq_true.mp w9_lens t h)
theorem name_plain {t : Str} (h1 : 1 ≤ t.length) (h2 : t.length ≤ 8) (h3 : allIn t LET = true) (h4 : isIn t W9 = false) : nameB t = true := by
  unfold nameB
  rw [decide_eq_true h1, decide_eq_true h2, h3, h4]
  rfl
theorem name_len {t : Str} (h : nameB t = true) : allIn t LET = true ∧ t.length ≤ 8 := by
  unfold nameB at h
  simp only [Bool.and_eq_true, decide_eq_true_eq] at h
  exact ⟨h.1.2, h.1.1.2⟩
theorem us_codes : ("_" : Str).cps.toList = [95] := by decide +kernel
theorem name_add {t : Str} (h : allIn t LET = true) (hl : t.length + 1 ≤ 8) : nameB (t ++ ("_" : Str)) = true := by
  have l1 : (Str.ofString "_").length = 1 := by decide +kernel
  have la : (t ++ Str.ofString "_").length = t.length + 1 := by rw [catlen, l1]
  refine name_plain (by rw [la]; omega) (by rw [la]; exact hl) ?_ ?_
  · rw [allIn_cat, h, Bool.true_and]
    decide +kernel
  · refine not_isIn fun m => ?_
    have := List.all_eq_true.mp w9_ends _ m
    rw [cat_cps, us_codes] at this
    simp at this
noncomputable def sp_names : Sp := fun vs H Q _ => ∃ (a b : Int), vs = [.int a, .int b] ∧ ∀ (p : Addr) (t0 t1 t2 : Str) (H' : Hp), nameB t0 = true → nameB t1 = true → nameB t2 = true → Same H H' → H p = none → H' p = some (.lst [.str t0, .str t1, .str t2]) → Q (.ref p) H'
theorem nd_law_names_1 : (["_law_k", "_law_one"] : List Str).Nodup := by decide +kernel
theorem sc_law_names : FnScope ["_law_one", "_law_other", "_law_letters", "_law_size", "_law_base", "_law_step", "_law_names_here", "_law_j", "_law_name", "_law_k", "_law_move"] ["_law_one", "_law_other"] (defScope s_law_names) := ⟨rfl, rfl, rfl, by decide +kernel, rfl, by decide +kernel, by decide +kernel⟩
theorem three {α : Type} {xs : List α} (h : xs.length = 3) : ∃ a b c, xs = [a, b, c] := by
  match xs, h with
  | [a, b, c], _ => exact ⟨a, b, c, rfl⟩
noncomputable def NmJ (H : Hp) (a b : Int) (D p : Addr) (ms : List Int) (j : Nat) (σ' : St) (H' : Hp) : Prop := ∃ (v7 v8 v9 v10 : Option V) (ts : List Str), σ' = [some (.int a), some (.int b), some (.str LET), some (.int (1 + a % 8)), some (.ref D), some (.int (1 + b / 8 % 13)), some (.ref p), v7, v8, v9, v10] ∧ H' D = some (.lst (ms.map V.int)) ∧ H' p = some (.lst (ts.map V.str)) ∧ ts.length = j ∧ (∀ t ∈ ts, nameB t = true) ∧ Same H H'
theorem ok_names {f : Addr} {fd : FuncData} (F : Fun K "_law_names" "_law_names" s_law_names f fd) (T : Txt K mg) : FnOk P w K mg base CX0 1 f fd ["_law_one", "_law_other"] sp_names := by
  refine F.okq sc_law_names (fun vs H Q E h => ?_) (fun cdv A outer s H vs Q E hr h => ?_)
  · obtain ⟨a, b, rfl, _⟩ := h
    rfl
  · obtain ⟨a, b, rfl, q⟩ := h
    refine ⟨_, qss_cons (qs_set (i := 2) sc_law_names.nd rfl (Or.inl rfl) (qe_str))
      (qss_cons (qs_set (i := 3) sc_law_names.nd rfl (Or.inl rfl) (qe_op (k_add K) (qe_int) (qe_op op_mod (qv 0) (qe_int))))
      (qss_cons (qs_setC (i := 4) (N := ["_law_k", "_law_one"]) (σ0 := capSt 1 [0]) rfl (cscope_fn rfl (by decide +kernel) (by decide +kernel) (by decide +kernel)) (qi_range1 rfl T.range (qa_cons (qv 3) qa_nil)) (takes_in rfl (by rfl)) (fun _ _ _ _ => qg_name (i := 0) nd_law_names_1 rfl (Or.inl rfl)) (fun _ _ _ _ => qts_nil) (fun _ _ _ _ => qe_op op_mod (qe_op op_mod (qe_op op_mulA (qv 1) (qe_op (k_add K) (qe_op op_mulA (qe_int) (qv 0)) (qe_int))) (qe_int)) (qe_int)) sc_law_names.nd rfl (Or.inl rfl))
      (qss_cons (qs_set (i := 5) sc_law_names.nd rfl (Or.inl rfl) (qe_op (k_add K) (qe_int) (qe_op op_mod (qe_op op_fdiv (qv 1) (qe_int)) (qe_int))))
      (qss_cons (qs_set (i := 6) sc_law_names.nd rfl (Or.inl rfl) (qe_lst (qa_nil)))
      (qss_cons (qs_for PassesOwn.never rfl (qi_range1 rfl T.range (qa_cons (qe_int) qa_nil)) (qg_name (i := 7) sc_law_names.nd rfl (Or.inl rfl)) (qss_cons (qs_set (i := 8) sc_law_names.nd rfl (Or.inl rfl) (qe_str))
      (qss_cons (qs_for PassesOwn.never rfl (qi_range1 rfl T.range (qa_cons (qv 3) qa_nil)) (qg_name (i := 9) sc_law_names.nd rfl (Or.inl rfl)) (qss_cons (qs_set (i := 10) sc_law_names.nd rfl (Or.inl rfl) (qe_op op_mulA (qe_op op_mulA (qv 7) (qv 5)) (qe_callTy k_int (by rfl) T.int (by decide +kernel) (qa_cons (qe_cmpR (k_eq K hr.u200) (qv 9) (qe_op op_mod (qv 1) (qv 3)) (nomark _)) qa_nil))))
      (qss_one (qs_set (i := 8) sc_law_names.nd rfl (Or.inl rfl) (qe_op (k_add K) (qv 8) (qe_ix (k_ix K) (qv 2) (qe_op op_mod (qe_op (k_add K) (qe_ix (k_ix K) (qv 4) (qv 9) (fun _ _ => rfl)) (qv 10)) (qe_int)) (fun _ _ => rfl)))))))
      (qss_cons (qs_if (qt_cmpR (k_in K) (qv 8) (qe_tup (qa_consts (xs := [.str "let", .str "in", .str "if", .str "then", .str "else", .str "fn", .str "rec", .str "yes", .str "no"]) rfl)) (by rfl)) (qss_one (qs_set (i := 8) sc_law_names.nd rfl (Or.inl rfl) (qe_op (k_add K) (qv 8) (qe_str)))) (qss_nil))
      (qss_one (qs_expr (qe_bmK K PySem.F.plainAttrs_list PySem.F.slot_list_append PySem.F.type_list_append mt_append (qv 6) (qa_cons (qv 8) qa_nil))))))))
      (qss_cons (qs_if (QW.qt (qw_and (qt_cmpR (k_eq K hr.u200) (qe_op op_mod (qe_op op_fdiv (qv 1) (qe_int)) (qe_int)) (qe_int) (nomark _)) (qw_and1 (qt_cmpR op_ltA (qe_callB (k_len K) (by rfl) T.len (by decide +kernel) (qa_cons (qe_ix (k_ix K) (qv 6) (qe_int) (fun _ _ => rfl)) qa_nil)) (qe_int) (nomark _))))) (qss_one (qs_asg (qe_op (k_add K) (qe_ix (k_ix K) (qv 6) (qe_int) (fun _ _ => rfl)) (qe_str)) (qg_sub (qv 6) (qe_int) set_list))) (qss_nil))
      (qss_one (qs_ret (qv 6))))))))), ?_⟩
    have bg := big
    have hs0 : 0 ≤ a % 8 := Int.emod_nonneg a (by decide)
    have hs1 : a % 8 < 8 := Int.emod_lt_of_pos a (by decide)
    have hst0 : 0 ≤ b / 8 % 13 := Int.emod_nonneg _ (by decide)
    have hst1 : b / 8 % 13 < 13 := Int.emod_lt_of_pos _ (by decide)
    walk_at "r"
    refine ⟨by omega, by omega, fun D hD => ?_⟩
    refine comp_range (Pv := fun i ys σ' H' => ∃ kv ms, σ' = [kv, some (.int a)] ∧ ys = ms.map V.int ∧ ms.length = i ∧ Same H H') ⟨none, [], rfl, rfl, rfl, Same.upd hD⟩ ?_ ?_
    · rintro i ys σ' H' hi hys ⟨kv, ms, rfl, rfl, hl, hH⟩
      walk_at "r"
      refine s_mul_r (by omega) (by omega) ?_
      walk_at "r"
      refine ⟨_, hys, by rw [List.length_map]; omega, _, upd_same, ?_⟩
      exact ⟨_, ms ++ [_], rfl, by rw [List.map_append]; rfl, by simp [hl], hH.over hD⟩
    · rintro ys σ' H1 hys ⟨kv, ms, rfl, rfl, hl, hH⟩
      walk_at "r"
      refine ⟨by show 0 ≤ sizeLine; decide, fun p hp => ?_⟩
      have hpD : D ≠ p := fun z => by rw [z, hp] at hys; cases hys
      have hp0 : H p = none := hH.free hp
      have hys' : upd H1 p (.lst []) D = some (.lst (ms.map V.int)) := by rw [upd_ne hpD]; exact hys
      walk_at "r"
      refine ⟨by decide, by decide, ?_⟩
      refine for_range (n := 3) (NmJ H a b D p ms) ⟨_, _, _, _, [], rfl, hys', upd_same, rfl, (fun t h => nomatch h), hH.put hp⟩ ?_ ?_
      · rintro j σ' H2 hj ⟨v7, v8, v9, v10, ts, rfl, hD2, hp2, hl2, hle2, sm2⟩
        walk_at "r"
        refine ⟨by omega, by omega, ?_⟩
        refine for_range (n := (1 + a % 8).toNat) (fun k σ' H' => ∃ v9 v10 t, σ' = [some (.int a), some (.int b), some (.str LET), some (.int (1 + a % 8)), some (.ref D), some (.int (1 + b / 8 % 13)), some (.ref p), some (.int (0 + j)), some (.str t), v9, v10] ∧ t.length = k ∧ allIn t LET = true ∧ H' = H2) ⟨_, _, Str.empty, rfl, rfl, rfl, rfl⟩ ?_ ?_
        · rintro k σ' H3 hk ⟨v9', v10', t, rfl, hl3, ha3, rfl⟩
          walk_at "r"
          refine s_mul_l (by omega) (by omega) ?_
          walk_at "r"
          refine s_rI (by omega) ?_
          walk_at "r"
          refine s_mul_r (by split <;> decide) (by split <;> decide) ?_
          walk_at "r"
          have hk' : (k : Int) < ((ms.map V.int).length : Int) := by rw [List.length_map]; omega
          obtain ⟨v, hv, m⟩ := atI_in (xs := ms.map V.int) (i := 0 + (k : Int)) (by omega) (by omega)
          obtain ⟨z, _, rfl⟩ := List.mem_map.mp m
          refine s_ix_lst (SqL.of hD2) hv ?_
          walk_at "r"
          obtain ⟨c, hc, hcm⟩ := atI_in (xs := LET.cps.toList) (i := (z + (0 + (j : Int)) * (1 + b / 8 % 13) * (if decide (V.int (0 + (k : Int)) = V.int (b % (1 + a % 8))) = true then 1 else 0)) % 27) (Int.emod_nonneg _ (by decide)) (by rw [lets_len]; exact Int.emod_lt_of_pos _ (by decide))
          refine s_ix_str lets_size hc ?_
          refine s_add_str (by rw [one_len]; omega) ?_
          exact ⟨_, _, _, rfl, by rw [catlen, one_len]; omega, by rw [allIn_cat, ha3, allIn_one hcm]; rfl, rfl⟩
        · rintro σ' H3 ⟨v9', v10', t, rfl, hl3, ha3, rfl⟩
          walk_at "r"
          refine ⟨by show 9 ≤ sizeLine; decide, fun p9 h9 => ?_⟩
          refine s_in_seq (.inr (SqT.of upd_same)) rfl rfl ?_
          have nD : D ≠ p9 := fun z => by rw [z, h9] at hD2; cases hD2
          have np : p ≠ p9 := fun z => by rw [z, h9] at hp2; cases hp2
          have hpU : ∀ o, upd H3 p9 o p = some (.lst (ts.map V.str)) := fun o => by rw [upd_ne np]; exact hp2
          have hDU : ∀ o, upd H3 p9 o D = some (.lst (ms.map V.int)) := fun o => by rw [upd_ne nD]; exact hD2
          have smU : ∀ o, Same H (upd H3 p9 o) := fun o => sm2.put h9
          have fin : ∀ (t' : Str) (o : HO), nameB t' = true → NmJ H a b D p ms (j + 1) [some (.int a), some (.int b), some (.str LET), some (.int (1 + a % 8)), some (.ref D), some (.int (1 + b / 8 % 13)), some (.ref p), some (.int (0 + (j : Int))), some (.str t'), v9', v10'] (upd (upd H3 p9 o) p (.lst (ts.map V.str ++ [.str t']))) := fun t' o ht' =>
            ⟨_, _, _, _, ts ++ [t'], rfl, by rw [upd_ne hpD]; exact hDU o, by rw [upd_same, List.map_append]; rfl, by simp [hl2], fun u hu => by
              rcases List.mem_append.mp hu with hu | hu
              · exact hle2 u hu
              · rw [List.mem_singleton.mp hu]; exact ht', (smU o).over hp0⟩
          walk_at "r"
          have e9 : inV (.str t) [.str "let", .str "in", .str "if", .str "then", .str "else", .str "fn", .str "rec", .str "yes", .str "no"] = isIn t W9 := in_strs (ws := W9)
          have hln : t.length = (1 + a % 8).toNat := hl3
          refine ite2 (fun hin => ?_) (fun hin => ?_)
          · have hin : isIn t W9 = true := by rw [← e9]; exact hin
            have l4 := w9_len (isIn_mem hin)
            walk_at "r"
            have l1 : (Str.ofString "_").length = 1 := by decide +kernel
            refine s_add_str (by rw [l1]; omega) ?_
            walk_at "r"
            refine s_tyL (SqL.of (hpU _)) ?_
            walk_at "r"
            refine s_app (hpU _) (by rw [List.length_map]; omega) ?_
            exact fin _ _ (name_add ha3 (by omega))
          · have hin : isIn t W9 = false := by rw [← e9]; simpa using hin
            walk_at "r"
            refine s_tyL (SqL.of (hpU _)) ?_
            walk_at "r"
            refine s_app (hpU _) (by rw [List.length_map]; omega) ?_
            exact fin _ _ (name_plain (by omega) (by omega) ha3 hin)
      · rintro σ' H2 ⟨v7, v8, v9, v10, ts, rfl, hD2, hp2, hl2, hle2, sm2⟩
        obtain ⟨t0, t1, t2, rfl⟩ := three hl2
        have n0 := hle2 t0 (by simp)
        have n1 := hle2 t1 (by simp)
        have n2 := hle2 t2 (by simp)
        have l0 := (name_len n0).2
        walk_at "r"
        refine ite2 (fun _ => ?_) (fun _ => ?_)
        · walk_at "r"
          refine s_ix_lst (SqL.of hp2) (v := .str t0) rfl ?_
          walk_at "r"
          refine s_len_str (by omega) ?_
          walk_at "r"
          refine ite2 (fun h8 => ?_) (fun _ => ?_)
          · have h8 : t0.length < 8 := by have := of_decide_eq_true h8; omega
            walk_at "r"
            refine s_ix_lst (SqL.of hp2) (v := .str t0) rfl ?_
            have l1 : (Str.ofString "_").length = 1 := by decide +kernel
            refine s_add_str (by rw [l1]; omega) ?_
            walk_at "r"
            refine s_setL hp2 (j := 2) rfl ?_
            walk_at "r"
            exact q p _ _ _ _ n0 n1 (name_add (name_len n0).1 (by omega)) (sm2.over hp0) hp0 upd_same
          · walk_at "r"
            exact q p _ _ _ _ n0 n1 n2 sm2 hp0 hp2
        · walk_at "r"
          exact q p _ _ _ _ n0 n1 n2 sm2 hp0 hp2
end
end K21

set_option Elab.async false
set_option linter.all false
set_option maxRecDepth 100000
set_option maxHeartbeats 4000000
namespace K21
open PySem L2 K10
section
variable {P : Program} {w : World} {K : PySem.W.Frag} {mg : Str → Option Value} {base : Heap}
noncomputable def SIG91 : Str := "!\"#$&'*+,-./0123456789:;<=>?@ABCDEFGHIJKLMNOPQRSTUVWXYZ[\\]^_`abcdefghijklmnopqrstuvwxyz{|}~"
noncomputable def SIG27 : Str := "!\"#$&'*,./:;=>@AQZ[\\]^`{|}~"
theorem sig91_len : SIG91.cps.toList.length = 91 := by decide +kernel
theorem sig91_size : SIG91.length ≤ sizeLine := by decide +kernel
theorem sig27_len : SIG27.cps.toList.length = 27 := by decide +kernel
theorem sig27_size : SIG27.length ≤ sizeLine := by decide +kernel
theorem sig91_odd : SIG91.cps.toList.all oddC = true := by decide +kernel
theorem sig27_odd : SIG27.cps.toList.all oddC = true := by decide +kernel
theorem sig27_no : SIG27.cps.toList.all (fun d => !decide (d ∈ LET.cps.toList) && !decide (d ∈ DIG.cps.toList) && W10.all fun x => !decide (d ∈ x.cps.toList)) = true := by decide +kernel
theorem empty_eq : ("" : Str) = Str.empty := by decide +kernel
theorem not_allIn {t s : Str} {d : Nat} (h : d ∈ t.cps.toList) (hs : ¬ d ∈ s.cps.toList) : allIn t s = false := by
  cases e : allIn t s with
  | false => rfl
  | true => exact absurd (of_decide_eq_true (List.all_eq_true.mp e d h)) hs
theorem odd_of {t : Str} {d : Nat} (h1 : 1 ≤ t.length) (h2 : t.length ≤ 60) (ho : ∀ c ∈ t.cps.toList, oddC c = true) (hd : d ∈ t.cps.toList) (hs : d ∈ SIG27.cps.toList) : oddB t = true := by
  have hn := List.all_eq_true.mp sig27_no d hs
  simp only [Bool.and_eq_true, Bool.not_eq_true', decide_eq_false_iff_not] at hn
  obtain ⟨⟨n1, n2⟩, n3⟩ := hn
  unfold oddB nameB figB
  rw [not_allIn hd n1, not_allIn hd n2, decide_eq_true h1, decide_eq_true h2, List.all_eq_true.mpr ho, not_isIn (t := t) (ws := W10) (fun m => by
    have := List.all_eq_true.mp n3 t m
    simp only [Bool.not_eq_true', decide_eq_false_iff_not] at this
    exact this hd)]
  simp
theorem slice_ix (x : Str) (l u : Option Int) : (Txt.slice x l u).length ≤ (Builtin.Str.strSliceIndices l u 1 x.length).length := by
  unfold Txt.slice
  split
  · rename_i h
    simp at h
    omega
  · show (List.toArray _).size ≤ _
    rw [List.size_toArray]
    exact List.length_filterMap_le ..
theorem slice_cut (t : Str) (k : Int) (h : 0 ≤ k) : (Txt.slice t none (some k)).length + (Txt.slice t (some k) none).length ≤ t.length := by
  have h1 := slice_ix t none (some k)
  have h2 := slice_ix t (some k) none
  have h3 : (Builtin.Str.strSliceIndices none (some k) 1 t.length).length + (Builtin.Str.strSliceIndices (some k) none 1 t.length).length ≤ t.length := by
    unfold Builtin.Str.strSliceIndices sliceRange
    simp only [show (1 : Int) > 0 by decide, if_true, List.length_map, List.length_range]
    (repeat' split) <;> (try simp only [Int.ediv_one]) <;> omega
  omega
noncomputable def sp_lodd : Sp := fun vs H Q _ => ∃ c : Int, vs = [.int c] ∧ ∀ (t : Str) (H' : Hp), oddB t = true → t.length ≤ 60 → Same H H' → Q (.str t) H'
theorem sum_ones {ts : List Str} (h : ∀ t ∈ ts, t.length = 1) : (ts.map (·.length)).sum = ts.length := by
  induction ts with
  | nil => rfl
  | cons t r ih =>
    rw [List.map_cons, List.sum_cons, h t List.mem_cons_self, ih fun u hu => h u (List.mem_cons_of_mem _ hu), List.length_cons]
    omega
theorem join_le {ts : List Str} (h : ∀ t ∈ ts, t.length = 1) : (Txt.join "" ts).length ≤ ts.length := by
  have e : ("" : Str) = Str.empty := by decide +kernel
  have := PySem.StrLaws.join_length_le Str.empty ts
  rw [sum_ones h, show Str.empty.length = 0 from rfl] at this
  unfold Txt.join
  rw [PySem.StrLaws.glued_eq_join, e]
  omega
theorem nd_law_odd_1 : (["_law_k", "_law_signs", "_law_cell_here"] : List Str).Nodup := by decide +kernel
theorem sc_law_odd : FnScope ["_law_cell_here", "_law_some", "_law_signs", "_law_size", "_law_text", "_law_at"] ["_law_cell_here"] (defScope s_law_odd) := ⟨rfl, rfl, rfl, by decide +kernel, rfl, by decide +kernel, by decide +kernel⟩
theorem ok_lodd {f : Addr} {fd : FuncData} (F : Fun K "_law_odd" "_law_odd" s_law_odd f fd) (T : Txt K mg) : FnOk P w K mg base CX0 1 f fd ["_law_cell_here"] sp_lodd := by
  refine F.okq sc_law_odd (fun vs H Q E h => ?_) (fun cdv A outer s H vs Q E hr h => ?_)
  · obtain ⟨a, rfl, _⟩ := h
    rfl
  · obtain ⟨c, rfl, q⟩ := h
    refine ⟨_, qss_cons (qs_set (i := 1) sc_law_odd.nd rfl (Or.inl rfl) (qe_lst (qa_consts (xs := [.str "in", .str "then", .str "else", .str "=", .str "=>", .str "007", .str "--", .str "??", .str "ninesigns"]) rfl)))
      (qss_cons (qs_if (qt_cmpR (k_eq K hr.u200) (qe_op op_mod (qv 0) (qe_int)) (qe_int) (nomark _)) (qss_one (qs_ret (qe_ix (k_ix K) (qv 1) (qe_op op_mod (qe_op op_fdiv (qv 0) (qe_int)) (qe_int)) (fun _ _ => rfl)))) (qss_nil))
      (qss_cons (qs_set (i := 2) sc_law_odd.nd rfl (Or.inr rfl) (qe_str))
      (qss_cons (qs_set (i := 3) sc_law_odd.nd rfl (Or.inl rfl) (qe_ix (k_ix K) (qe_lst (qa_consts (xs := [.int 2, .int 1, .int 5, .int 7, .int 60]) rfl)) (qe_op op_mod (qe_op op_fdiv (qv 0) (qe_int)) (qe_int)) (fun _ _ => rfl)))
      (qss_cons (qs_set (i := 4) sc_law_odd.nd rfl (Or.inl rfl) (qe_bmK K PySem.F.plainAttrs_str PySem.F.slot_str_join PySem.F.type_str_join (k_join K) (qe_str) (qa_cons (qe_comp (N := ["_law_k", "_law_signs", "_law_cell_here"]) (σ0 := capSt 1 [2, 0]) rfl (cscope_fn rfl (by decide +kernel) (by decide +kernel) (by decide +kernel)) (qi_range1 rfl T.range (qa_cons (qe_op op_sub (qv 3) (qe_int)) qa_nil)) (takes_in rfl (by rfl)) (fun _ _ _ _ => qg_name (i := 0) nd_law_odd_1 rfl (Or.inl rfl)) (fun _ _ _ _ => qts_nil) (fun _ _ _ _ => qe_ix (k_ix K) (qv 1) (qe_op op_mod (qe_op op_mod (qe_op op_mulA (qv 2) (qe_op (k_add K) (qv 0) (qe_int))) (qe_int)) (qe_int)) (fun _ _ => rfl))) qa_nil)))
      (qss_cons (qs_set (i := 5) sc_law_odd.nd rfl (Or.inl rfl) (qe_op op_mod (qe_op op_fdiv (qv 0) (qe_int)) (qv 3)))
      (qss_one (qs_ret (qe_op (k_add K) (qe_op (k_add K) (qe_slice (k_sl K) (qv 4) (qo_none) (qo_some (qv 5))) (qe_ix (k_ix K) (qe_str) (qe_op op_mod (qe_op op_fdiv (qv 0) (qe_int)) (qe_int)) (fun _ _ => rfl))) (qe_slice (k_sl K) (qv 4) (qo_some (qv 5)) (qo_none)))))))))), ?_⟩
    have bg := big
    walk_at "r"
    refine ⟨by show 9 ≤ sizeLine; decide, fun p hp => ?_⟩
    have sm := Same.upd (o := .lst [.str "in", .str "then", .str "else", .str "=", .str "=>", .str "007", .str "--", .str "??", .str "ninesigns"]) hp
    walk_at "r"
    refine ite2 (fun _ => ?_) (fun _ => ?_)
    · walk_at "r"
      obtain ⟨v, hv, m⟩ := atI_in (xs := ([.str "in", .str "then", .str "else", .str "=", .str "=>", .str "007", .str "--", .str "??", .str "ninesigns"] : List V)) (i := c / 3 % 9) (Int.emod_nonneg _ (by decide)) (Int.emod_lt_of_pos _ (by decide))
      obtain ⟨t, rfl, ho, hl⟩ : ∃ t, v = V.str t ∧ oddB t = true ∧ t.length ≤ 60 := by
        simp only [List.mem_cons, List.not_mem_nil, or_false] at m
        rcases m with h | h | h | h | h | h | h | h | h <;> exact ⟨_, h, by decide +kernel, by decide +kernel⟩
      exact s_ix_lst (SqL.of upd_same) hv (q t _ ho hl sm)
    · walk_at "r"
      refine ⟨by show 5 ≤ sizeLine; decide, fun p2 hp2 => ?_⟩
      have sm2 := sm.put (o := .lst [.int 2, .int 1, .int 5, .int 7, .int 60]) hp2
      walk_at "r"
      obtain ⟨v, hv, m⟩ := atI_in (xs := ([.int 2, .int 1, .int 5, .int 7, .int 60] : List V)) (i := c / 3 % 5) (Int.emod_nonneg _ (by decide)) (Int.emod_lt_of_pos _ (by decide))
      obtain ⟨n, rfl, n1, n2⟩ : ∃ n : Int, v = V.int n ∧ 1 ≤ n ∧ n ≤ 60 := by
        simp only [List.mem_cons, List.not_mem_nil, or_false] at m
        rcases m with h | h | h | h | h <;> exact ⟨_, h, by decide, by decide⟩
      refine s_ix_lst (SqL.of upd_same) hv ?_
      walk_at "r"
      refine ⟨rfl, ?_⟩
      walk_at "r"
      refine ⟨by omega, by omega, fun D hD => ?_⟩
      refine comp_range (Pv := fun i ys σ' H' => ∃ kv ts, σ' = [kv, some (.str SIG91), some (.int c)] ∧ ys = ts.map V.str ∧ ts.length = i ∧ (∀ t ∈ ts, t.length = 1) ∧ (∀ t ∈ ts, ∀ c ∈ t.cps.toList, oddC c = true) ∧ Same H H') ⟨none, [], rfl, rfl, rfl, (fun t h => nomatch h), (fun t h => nomatch h), sm2.put hD⟩ ?_ ?_
      · rintro i ys σ' H' hi hys ⟨kv, ts, rfl, rfl, hl, h1, h1o, hH⟩
        walk_at "r"
        refine s_mul_r (by omega) (by omega) ?_
        walk_at "r"
        obtain ⟨d, hd, hdm⟩ := atI_in (xs := SIG91.cps.toList) (i := c * (0 + (i : Int) + 6007) % 1000003 % 91) (Int.emod_nonneg _ (by decide)) (by rw [sig91_len]; exact Int.emod_lt_of_pos _ (by decide))
        refine s_ix_str sig91_size hd ?_
        refine ⟨_, hys, by rw [List.length_map]; omega, _, upd_same, ?_⟩
        refine ⟨_, ts ++ [⟨#[d]⟩], rfl, by rw [List.map_append]; rfl, by simp [hl], fun t ht => ?_, fun t ht => ?_, hH.over (sm2.free hD)⟩
        · rcases List.mem_append.mp ht with ht | ht
          · exact h1 t ht
          · rw [List.mem_singleton.mp ht]; rfl
        · rcases List.mem_append.mp ht with ht | ht
          · exact h1o t ht
          · rw [List.mem_singleton.mp ht]
            intro c hc
            have : c = d := by simpa using hc
            rw [this]
            exact List.all_eq_true.mp sig91_odd d hdm
      · rintro ys σ' H1 hys ⟨kv, ts, rfl, rfl, hl, h1, h1o, hH⟩
        have e0 : (Str.ofString "").length = 0 := by decide +kernel
        walk_at "r"
        refine s_join (K := K) (SqL.of hys) (by rw [sum_ones h1, e0]; omega) ?_
        have jl := join_le h1
        walk_at "r"
        refine s_rI (by omega) ?_
        walk_at "r"
        refine s_sl_str (by omega) ?_
        walk_at "r"
        obtain ⟨d, hd, hdm⟩ := atI_in (xs := SIG27.cps.toList) (i := c / 7 % 27) (Int.emod_nonneg _ (by decide)) (by rw [sig27_len]; exact Int.emod_lt_of_pos _ (by decide))
        refine s_ix_str sig27_size hd ?_
        have l1 := Txt.slice_le (Txt.join "" ts) none (some (c / 15 % n))
        have l2 := Txt.slice_le (Txt.join "" ts) (some (c / 15 % n)) none
        refine s_add_str (by rw [one_len]; omega) ?_
        walk_at "r"
        refine s_sl_str (by omega) ?_
        refine s_add_str (by rw [catlen, one_len]; omega) ?_
        have jo : ∀ c ∈ (Txt.join "" ts).cps.toList, oddC c = true := fun c hc => by
          rw [empty_eq] at hc
          obtain ⟨t, m, hc⟩ := joinT_mem hc
          exact h1o t m c hc
        have sl := slice_cut (Txt.join "" ts) (c / 15 % n) (Int.emod_nonneg _ (by omega))
        refine q _ _ (odd_of (d := d) (by rw [catlen, catlen, one_len]; omega) (by rw [catlen, catlen, one_len]; omega) ?_ (by rw [cat_cps, cat_cps]; simp) hdm) (by rw [catlen, catlen, one_len]; omega) hH
        intro e he
        rw [cat_cps, cat_cps] at he
        rcases List.mem_append.mp he with he | he
        · rcases List.mem_append.mp he with he | he
          · exact jo e (slice_mem he)
          · have : e = d := by simpa using he
            rw [this]
            exact List.all_eq_true.mp sig27_odd d hdm
        · exact jo e (slice_mem he)
end
end K21

set_option Elab.async false
set_option linter.all false
set_option maxRecDepth 100000
set_option maxHeartbeats 4000000
namespace K21
open PySem L2 K10
section
variable {P : Program} {w : World} {K : PySem.W.Frag} {mg : Str → Option Value} {base : Heap}
noncomputable def sp_num : Sp := fun vs H Q _ => ∃ c : Int, vs = [.int c] ∧ ∀ z : Int, 0 ≤ z → z < 10 ^ 18 → Q (.int z) H
theorem sc_law_number : FnScope ["_law_cell_here"] ["_law_cell_here"] (defScope s_law_number) := ⟨rfl, rfl, rfl, by decide +kernel, rfl, by decide +kernel, by decide +kernel⟩
theorem ok_num {f : Addr} {fd : FuncData} (F : Fun K "_law_number" "_law_number" s_law_number f fd) (T : Txt K mg) : FnOk P w K mg base CX0 1 f fd ["_law_cell_here"] sp_num := by
  refine F.okq sc_law_number (fun vs H Q E h => ?_) (fun cdv A outer s H vs Q E hr h => ?_)
  · obtain ⟨a, rfl, _⟩ := h
    rfl
  · obtain ⟨c, rfl, q⟩ := h
    refine ⟨_, qss_cons (qs_if (qt_cmpR (k_eq K hr.u200) (qe_op op_mod (qv 0) (qe_int)) (qe_int) (nomark _)) (qss_one (qs_ret (qe_op op_mod (qe_op op_fdiv (qv 0) (qe_int)) (qe_int)))) (qss_nil))
      (qss_cons (qs_if (qt_cmpR (k_eq K hr.u200) (qe_op op_mod (qv 0) (qe_int)) (qe_int) (nomark _)) (qss_one (qs_ret (qe_op op_sub (qe_op op_sub (qe_op op_pow (qe_int) (qe_int)) (qe_int)) (qe_op op_mod (qe_op op_fdiv (qv 0) (qe_int)) (qe_int))))) (qss_nil))
      (qss_one (qs_ret (qe_op op_mod (qe_op op_mulA (qe_op op_fdiv (qv 0) (qe_int)) (qe_int)) (qe_op op_pow (qe_int) (qe_int)))))), ?_⟩
    have h30 : 0 ≤ c / 4 % 3 := Int.emod_nonneg _ (by decide)
    have h31 : c / 4 % 3 < 3 := Int.emod_lt_of_pos _ (by decide)
    walk_at "r"
    refine ite2 (fun _ => ?_) (fun _ => ?_)
    · walk_at "r"
      exact q _ h30 (by omega)
    · walk_at "r"
      refine ite2 (fun _ => ?_) (fun _ => ?_)
      · walk_at "r"
        refine q _ ?_ ?_
        · show 0 ≤ (10 : Int) ^ 18 - 1 - c / 4 % 3
          omega
        · show (10 : Int) ^ 18 - 1 - c / 4 % 3 < 10 ^ 18
          omega
      · walk_at "r"
        exact q _ (Int.emod_nonneg _ (by decide)) (Int.emod_lt_of_pos _ (by decide))
end
end K21

set_option Elab.async false
set_option linter.all false
set_option maxRecDepth 100000
set_option maxHeartbeats 4000000
namespace K21
open PySem L2 K10
section
variable {P : Program} {w : World} {K : PySem.W.Frag} {mg : Str → Option Value} {base : Heap}
noncomputable def SmallV : V → Prop
  | .str s => s.length ≤ 1000
  | .int _ => True
  | .bl _ => True
  | .non => True
  | _ => False
theorem SmallV.ty {v : V} (h : SmallV v) {K : PySem.W.Frag} {H : Hp} : ∃ t, TyN K H v t ∧ kitT t "tuple" = false := by
  cases v with
  | str s => exact ⟨_, .str s h, rfl⟩
  | int i => exact ⟨_, .int i, rfl⟩
  | bl b => exact ⟨_, .bl b, rfl⟩
  | non => exact ⟨_, .non, rfl⟩
  | _ => exact absurd h id
inductive DtNt : Dt → Nt → Prop where
  | fl {v : V} (h : SmallV v) : DtNt (.flat v) (.fl v)
  | tp {vs : List V} (h : ∀ v ∈ vs, SmallV v) : DtNt (.tup (vs.map .flat)) (.tp vs)
theorem flat_inj : ∀ {vs ws : List V}, vs.map Dt.flat = ws.map Dt.flat → vs = ws
  | [], [], _ => rfl
  | [], _ :: _, h => nomatch h
  | _ :: _, [], h => nomatch h
  | v :: r, w :: q, h => by
    rw [List.map_cons, List.map_cons] at h
    injection h with h1 h2
    injection h1 with h1
    rw [h1, flat_inj h2]
theorem IsN.nt {K : PySem.W.Frag} {H : Hp} {v : V} {d : Dt} {nt : Nt} (h : IsN K H v d) (hd : DtNt d nt) : NtAt K H v nt := by
  cases hd with
  | fl hs =>
    rcases h with ⟨_, e⟩ | ⟨a, vs, _, _, _, e⟩
    · injection e with e
      obtain ⟨t, h1, h2⟩ := hs.ty (K := K) (H := H)
      exact ⟨e.symm, t, h1, h2⟩
    · cases e
  | @tp ws hs =>
    rcases h with ⟨_, e⟩ | ⟨a, vs, h1, h2, h3, e⟩
    · cases e
    · injection e with e
      have := flat_inj e
      subst this
      refine ⟨a, h1, h2, fun x hx => ?_⟩
      obtain ⟨t, h4, _⟩ := (hs x hx).ty (K := K) (H := H)
      exact ⟨t, h4⟩
noncomputable def sp_head (K : PySem.W.Frag) : Sp := fun vs H Q _ => ∃ (c : Int) (p : Addr) (t0 t1 t2 : Str), vs = [.int c, .ref p] ∧ SqL K H p [.str t0, .str t1, .str t2] ∧ nameB t0 = true ∧ nameB t1 = true ∧ nameB t2 = true ∧
  ∀ (a : Addr) (wd : Str) (note : V) (n : Dt) (nt : Nt) (H' : Hp), Same H H' → SqT K H' a [.str wd, note] → IsN K H' note n → (partsOf wd).isSome = true → DtNt n nt → noteB wd nt = true → Q (.ref a) H'
theorem pick3 {t0 t1 t2 : Str} (n0 : nameB t0 = true) (n1 : nameB t1 = true) (n2 : nameB t2 = true) (c : Int) : ∃ t : Str, atI ([.str t0, .str t1, .str t2] : List V) (c % 3) = some (.str t) ∧ nameB t = true := by
  obtain ⟨v, hv, m⟩ := atI_in (xs := ([.str t0, .str t1, .str t2] : List V)) (i := c % 3) (Int.emod_nonneg _ (by decide)) (Int.emod_lt_of_pos _ (by decide))
  simp only [List.mem_cons, List.not_mem_nil, or_false] at m
  rcases m with h | h | h <;> exact ⟨_, by rw [hv, h], by assumption⟩
theorem three_in {wd : Str} : inV (.str wd) [.str "name", .str "fn", .str "let"] = decide (wd ∈ (["name", "fn", "let"] : List Str)) := by
  have := in_strs (t := wd) (ws := ["name", "fn", "let"])
  rw [show ([V.str "name", V.str "fn", V.str "let"] : List V) = (["name", "fn", "let"] : List Str).map V.str from rfl, this]
  by_cases hm : wd ∈ (["name", "fn", "let"] : List Str)
  · rw [decide_eq_true hm, mem_isIn hm]
  · rw [decide_eq_false hm, not_isIn hm]
theorem sc_law_head : FnScope ["_law_cell_here", "_law_names_here", "_law_heads", "_law_word", "_law_more"] ["_law_cell_here", "_law_names_here"] (defScope s_law_head) := ⟨rfl, rfl, rfl, by decide +kernel, rfl, by decide +kernel, by decide +kernel⟩
theorem ok_head {f : Addr} {fd : FuncData} (F : Fun K "_law_head" "_law_head" s_law_head f fd) (T : Txt K mg) (C__law_odd : Callee P w K mg base 1 "_law_odd" ["_law_cell_here"] sp_lodd) (C__law_number : Callee P w K mg base 1 "_law_number" ["_law_cell_here"] sp_num) : FnOk P w K mg base CX0 2 f fd ["_law_cell_here", "_law_names_here"] (sp_head K) := by
  refine F.okq sc_law_head (fun vs H Q E h => ?_) (fun cdv A outer s H vs Q E hr h => ?_)
  · obtain ⟨c, p, t0, t1, t2, rfl, _⟩ := h
    rfl
  · obtain ⟨c, p, t0, t1, t2, rfl, hp, n0, n1, n2, q⟩ := h
    refine ⟨_, qss_cons (qs_set (i := 2) sc_law_head.nd rfl (Or.inl rfl) (qe_lst (qa_consts (xs := [.str "gap", .str "odd", .str "num", .str "truth", .str "name", .str "plus", .str "minus", .str "less", .str "call", .str "if", .str "fn"]) rfl)))
      (qss_cons (qs_set (i := 3) sc_law_head.nd rfl (Or.inl rfl) (qe_ix (k_ix K) (qe_op (k_add K) (qv 2) (qe_lst (qa_cons (qe_str) (qa_cons (qe_str) qa_nil)))) (qe_op op_mod (qv 0) (qe_int)) (fun _ _ => rfl)))
      (qss_cons (qs_set (i := 4) sc_law_head.nd rfl (Or.inl rfl) (qe_op op_fdiv (qv 0) (qe_int)))
      (qss_cons (qs_if (qt_cmpR (k_eq K hr.u200) (qv 3) (qe_str) (nomark _)) (qss_one (qs_ret (qe_tup (qa_cons (qv 3) (qa_cons (qe_fn C__law_odd (hr.mono (by decide)) (qa_cons (qv 4) qa_nil)) qa_nil))))) (qss_nil))
      (qss_cons (qs_if (qt_cmpR (k_eq K hr.u200) (qv 3) (qe_str) (nomark _)) (qss_one (qs_ret (qe_tup (qa_cons (qv 3) (qa_cons (qe_fn C__law_number (hr.mono (by decide)) (qa_cons (qv 4) qa_nil)) qa_nil))))) (qss_nil))
      (qss_cons (qs_if (qt_cmpR (k_eq K hr.u200) (qv 3) (qe_str) (nomark _)) (qss_one (qs_ret (qe_tup (qa_cons (qv 3) (qa_cons (qe_cmpR (k_eq K hr.u200) (qe_op op_mod (qv 4) (qe_int)) (qe_int) (nomark _)) qa_nil))))) (qss_nil))
      (qss_cons (qs_if (qt_cmpR (k_in K) (qv 3) (qe_tup (qa_cons (qe_str) (qa_cons (qe_str) (qa_cons (qe_str) qa_nil)))) (by rfl)) (qss_one (qs_ret (qe_tup (qa_cons (qv 3) (qa_cons (qe_ix (k_ix K) (qv 1) (qe_op op_mod (qv 4) (qe_int)) (fun _ _ => rfl)) qa_nil))))) (qss_nil))
      (qss_cons (qs_if (qt_cmpR (k_eq K hr.u200) (qv 3) (qe_str) (nomark _)) (qss_one (qs_ret (qe_tup (qa_cons (qv 3) (qa_cons (qe_tup (qa_cons (qe_ix (k_ix K) (qv 1) (qe_op op_mod (qv 4) (qe_int)) (fun _ _ => rfl)) (qa_cons (qe_ix (k_ix K) (qv 1) (qe_op op_mod (qe_op op_fdiv (qv 4) (qe_int)) (qe_int)) (fun _ _ => rfl)) qa_nil))) qa_nil))))) (qss_nil))
      (qss_one (qs_ret (qe_tup (qa_cons (qv 3) (qa_cons (qe_non) qa_nil)))))))))))), ?_⟩
    walk_at "r"
    refine ⟨by show 11 ≤ sizeLine; decide, fun p1 h1 => ?_⟩
    walk_at "r"
    refine ⟨by show 2 ≤ sizeLine; decide, fun p2 h2 => ?_⟩
    have n12 : p1 ≠ p2 := fun z => by rw [z, ← z, upd_same] at h2; cases h2
    refine s_add_lst (by rw [upd_ne n12]; exact upd_same) upd_same (by show 13 ≤ sizeLine; decide) fun p3 h3 => ?_
    walk_at "r"
    obtain ⟨v, hv, m⟩ := atI_in (xs := ([.str "gap", .str "odd", .str "num", .str "truth", .str "name", .str "plus", .str "minus", .str "less", .str "call", .str "if", .str "fn"] ++ [.str "rec", .str "let"] : List V)) (i := c % 13) (Int.emod_nonneg _ (by decide)) (Int.emod_lt_of_pos _ (by decide))
    obtain ⟨wd, rfl, hps⟩ : ∃ t, v = V.str t ∧ (partsOf t).isSome = true := by
      simp only [List.cons_append, List.nil_append, List.mem_cons, List.not_mem_nil, or_false] at m
      rcases m with h | h | h | h | h | h | h | h | h | h | h | h | h <;> exact ⟨_, h, by decide +kernel⟩
    refine s_ix_lst (SqL.of upd_same) hv ?_
    have sm3 := ((Same.upd (o := .lst [.str "gap", .str "odd", .str "num", .str "truth", .str "name", .str "plus", .str "minus", .str "less", .str "call", .str "if", .str "fn"]) h1).put (o := .lst [.str "rec", .str "let"]) h2).put (o := .lst ([.str "gap", .str "odd", .str "num", .str "truth", .str "name", .str "plus", .str "minus", .str "less", .str "call", .str "if", .str "fn"] ++ [.str "rec", .str "let"])) h3
    revert sm3
    generalize upd (upd (upd H p1 _) p2 _) p3 _ = H3
    intro sm3
    have two : ∀ (note : V) (n : Dt) (nt : Nt) (H4 : Hp), Same H3 H4 → IsN K H4 note n → DtNt n nt → noteB wd nt = true → ([V.str wd, note] : List V).length ≤ sizeLine ∧ ∀ p, H4 p = none → Q (.ref p) (upd H4 p (.tup [.str wd, note])) := fun note n nt H4 s4 hn hd hb =>
      ⟨by show 2 ≤ sizeLine; decide, fun p4 h4 => q p4 wd note n nt _ (sm3.trans (s4.put h4)) (SqT.of upd_same) (hn.same (SameT.new h4)) hps hd hb⟩
    have nb : ∀ nt, noteB wd nt = (if wd = "odd" then oddN nt else if wd = "num" then numN nt else if wd = "truth" then truthN nt else if wd ∈ (["name", "fn", "let"] : List Str) then nameN nt else if wd = "rec" then twoN nt else nonN nt) := fun _ => rfl
    walk_at "r"
    rw [dec_str]
    refine ite2 (fun h => ?_) (fun h => ?_)
    · walk_at "r"
      refine ⟨_, rfl, fun t H4 ho hl s4 => ?_⟩
      walk_at "r"
      exact two _ _ _ _ s4 (.inl ⟨rfl, rfl⟩) (.fl (show t.length ≤ 1000 by omega)) (by rw [nb, if_pos (of_decide_eq_true h)]; exact ho)
    have g1 : ¬ wd = "odd" := fun x => h (decide_eq_true x)
    walk_at "r"
    rw [dec_str]
    refine ite2 (fun h => ?_) (fun h => ?_)
    · walk_at "r"
      refine ⟨_, rfl, fun z z0 z1 => ?_⟩
      walk_at "r"
      exact two _ _ _ _ (Same.refl _) (.inl ⟨rfl, rfl⟩) (.fl (v := .int z) trivial) (by rw [nb, if_neg g1, if_pos (of_decide_eq_true h)]; show (decide (0 ≤ z) && decide (z < 10 ^ 18)) = true; rw [decide_eq_true z0, decide_eq_true z1]; rfl)
    have g2 : ¬ wd = "num" := fun x => h (decide_eq_true x)
    walk_at "r"
    rw [dec_str]
    refine ite2 (fun h => ?_) (fun h => ?_)
    · walk_at "r"
      exact two _ _ _ _ (Same.refl _) (.inl ⟨rfl, rfl⟩) (.fl (v := .bl _) trivial) (by rw [nb, if_neg g1, if_neg g2, if_pos (of_decide_eq_true h)]; rfl)
    have g3 : ¬ wd = "truth" := fun x => h (decide_eq_true x)
    walk_at "r"
    refine ⟨by show 3 ≤ sizeLine; decide, fun p4 h4 => ?_⟩
    refine s_in_seq (.inr (SqT.of upd_same)) rfl rfl ?_
    have s4 := Same.upd (o := .tup [.str "name", .str "fn", .str "let"]) h4
    rw [if_neg Bool.false_ne_true, three_in]
    walk_at "r"
    refine ite2 (fun h => ?_) (fun h => ?_)
    · walk_at "r"
      obtain ⟨t, ht, hnt⟩ := pick3 n0 n1 n2 (c / 13)
      refine s_ix_lst ((sm3.trans s4).seq hp) ht ?_
      walk_at "r"
      exact two _ _ _ _ s4 (.inl ⟨rfl, rfl⟩) (.fl (show t.length ≤ 1000 by have := (name_len hnt).2; omega)) (by rw [nb, if_neg g1, if_neg g2, if_neg g3, if_pos (of_decide_eq_true h)]; exact hnt)
    have g4 : ¬ wd ∈ (["name", "fn", "let"] : List Str) := fun x => h (decide_eq_true x)
    walk_at "r"
    rw [dec_str]
    refine ite2 (fun h => ?_) (fun h => ?_)
    · walk_at "r"
      obtain ⟨t, ht, hnt⟩ := pick3 n0 n1 n2 (c / 13)
      obtain ⟨u, hu, hnu⟩ := pick3 n0 n1 n2 (c / 13 / 3)
      refine s_ix_lst ((sm3.trans s4).seq hp) ht ?_
      walk_at "r"
      refine s_ix_lst ((sm3.trans s4).seq hp) hu ?_
      walk_at "r"
      refine ⟨by show 2 ≤ sizeLine; decide, fun p5 h5 => ?_⟩
      walk_at "r"
      refine two _ _ _ _ (s4.put h5) (.inr ⟨p5, [.str t, .str u], rfl, SqT.of upd_same, rfl, rfl⟩) (.tp (fun v hv => ?_)) (by rw [nb, if_neg g1, if_neg g2, if_neg g3, if_neg g4, if_pos (of_decide_eq_true h)]; show (nameB t && nameB u) = true; rw [hnt, hnu]; rfl)
      have l1 := (name_len hnt).2
      have l2 := (name_len hnu).2
      simp only [List.mem_cons, List.not_mem_nil, or_false] at hv
      rcases hv with rfl | rfl
      · show t.length ≤ 1000
        omega
      · show u.length ≤ 1000
        omega
    · have g5 : ¬ wd = "rec" := fun x => h (decide_eq_true x)
      walk_at "r"
      exact two _ _ _ _ s4 (.inl ⟨rfl, rfl⟩) (.fl (v := .non) trivial) (by rw [nb, if_neg g1, if_neg g2, if_neg g3, if_neg g4, if_neg g5]; rfl)
end
end K21

set_option Elab.async false
set_option linter.all false
set_option maxRecDepth 100000
set_option maxHeartbeats 4000000
namespace K21
open PySem L2 K10
section
variable {P : Program} {w : World} {K : PySem.W.Frag} {mg : Str → Option Value} {base : Heap}
theorem look_mem {wd : Str} {m : Nat} : ∀ {ps : List (Str × Nat)}, ps.lookup wd = some m → (wd, m) ∈ ps
  | [], h => nomatch h
  | (a, b) :: r, h => by
    rw [List.lookup_cons] at h
    split at h
    · rename_i e
      have e : wd = a := by simpa using e
      cases h
      rw [e]
      exact List.mem_cons_self
    · exact List.mem_cons_of_mem _ (look_mem h)
theorem many_all : PN.all (fun x => (inV (.str x.1) [.str "plus", .str "minus", .str "less", .str "call", .str "let"] == decide (x.2 = 2)) && (decide (x.1 = "if") == decide (x.2 = 3)) && (inV (.str x.1) [.str "fn", .str "rec"] == decide (x.2 = 1)) && decide (x.2 ≤ 3) && decide (x.1.length ≤ 10)) = true := by decide +kernel
theorem many_one {wd : Str} {m : Nat} (h : partsOf wd = some m) : inV (.str wd) [.str "plus", .str "minus", .str "less", .str "call", .str "let"] = decide (m = 2) ∧ decide (wd = "if") = decide (m = 3) ∧ inV (.str wd) [.str "fn", .str "rec"] = decide (m = 1) ∧ m ≤ 3 ∧ wd.length ≤ 10 := by
  have := List.all_eq_true.mp many_all _ (look_mem h)
  simp only [Bool.and_eq_true, beq_iff_eq, decide_eq_true_eq] at this
  exact ⟨this.1.1.1.1, this.1.1.1.2, this.1.1.2, this.1.2, this.2⟩
noncomputable def sp_many : Sp := fun vs H Q _ => ∃ (wd : Str) (m : Nat), vs = [.str wd] ∧ partsOf wd = some m ∧ ∀ (H' : Hp), Same H H' → Q (.int m) H'
theorem sc_law_many : FnScope ["_law_word"] ["_law_word"] (defScope s_law_many) := ⟨rfl, rfl, rfl, by decide +kernel, rfl, by decide +kernel, by decide +kernel⟩
theorem ok_many {f : Addr} {fd : FuncData} (F : Fun K "_law_many" "_law_many" s_law_many f fd) (T : Txt K mg) : FnOk P w K mg base CX0 1 f fd ["_law_word"] sp_many := by
  refine F.okq sc_law_many (fun vs H Q E h => ?_) (fun cdv A outer s H vs Q E hr h => ?_)
  · obtain ⟨a, m, rfl, _⟩ := h
    rfl
  · obtain ⟨wd, m, rfl, hm, q⟩ := h
    refine ⟨_, qss_cons (qs_if (qt_cmpR (k_in K) (qv 0) (qe_tup (qa_consts (xs := [.str "plus", .str "minus", .str "less", .str "call", .str "let"]) rfl)) (by rfl)) (qss_one (qs_ret (qe_int))) (qss_nil))
      (qss_cons (qs_if (qt_cmpR (k_eq K hr.u200) (qv 0) (qe_str) (nomark _)) (qss_one (qs_ret (qe_int))) (qss_nil))
      (qss_one (qs_ret (qe_callTy k_int (by rfl) T.int (by decide +kernel) (qa_cons (qe_cmpR (k_in K) (qv 0) (qe_tup (qa_cons (qe_str) (qa_cons (qe_str) qa_nil))) (by rfl)) qa_nil))))), ?_⟩
    obtain ⟨e1, e2, e3, e4, _⟩ := many_one hm
    walk_at "r"
    refine ⟨by show 5 ≤ sizeLine; decide, fun p1 h1 => ?_⟩
    refine s_in_seq (.inr (SqT.of upd_same)) rfl rfl ?_
    have s1 := Same.upd (o := .tup [.str "plus", .str "minus", .str "less", .str "call", .str "let"]) h1
    rw [if_neg Bool.false_ne_true, e1]
    walk_at "r"
    refine ite2 (fun h => ?_) (fun h => ?_)
    · have h : m = 2 := of_decide_eq_true h
      subst h
      walk_at "r"
      exact q _ s1
    have n2 : m ≠ 2 := fun x => h (decide_eq_true x)
    walk_at "r"
    rw [dec_str, e2]
    refine ite2 (fun h => ?_) (fun h => ?_)
    · have h : m = 3 := of_decide_eq_true h
      subst h
      walk_at "r"
      exact q _ s1
    have n3 : m ≠ 3 := fun x => h (decide_eq_true x)
    walk_at "r"
    refine ⟨by show 2 ≤ sizeLine; decide, fun p2 h2 => ?_⟩
    refine s_in_seq (.inr (SqT.of upd_same)) rfl rfl ?_
    rw [if_neg Bool.false_ne_true, e3]
    walk_at "r"
    have q' := q _ (s1.put (o := .tup [.str "fn", .str "rec"]) h2)
    by_cases z : m = 1
    · subst z
      exact q'
    · have z0 : m = 0 := by omega
      subst z0
      exact q'
end
end K21

set_option Elab.async false
set_option linter.all false
set_option maxRecDepth 100000
set_option maxHeartbeats 4000000
namespace K21
open PySem L2 K10
section
variable {P : Program} {w : World} {K : PySem.W.Frag} {mg : Str → Option Value} {base : Heap}
inductive TrOk : Tr → Prop where
  | mk {wd : Str} {d : Dt} {nt : Nt} {ts : List Tr} (hp : partsOf wd = some ts.length) (hd : DtNt d nt) (hn : noteB wd nt = true) (hs : ∀ t ∈ ts, TrOk t) : TrOk (.mk wd d ts)
theorem TrOk.gap : TrOk gapT := .mk (by decide +kernel) (.fl (v := .non) trivial) (by decide +kernel) (fun t h => nomatch h)
theorem TrOk.let {u : Str} {s t : Tr} (hu : nameB u = true) (hs : TrOk s) (ht : TrOk t) : TrOk (.mk "let" (.flat (.str u)) [s, t]) :=
  .mk (by show partsOf "let" = some 2; decide +kernel) (.fl (show u.length ≤ 1000 by have := (name_len hu).2; omega)) (by
    have e : noteB "let" (.fl (.str u)) = nameB u := by
      unfold noteB
      rw [if_neg (by decide +kernel), if_neg (by decide +kernel), if_neg (by decide +kernel), if_pos (by decide +kernel)]
      rfl
    rw [e]; exact hu) (fun x hx => by
    simp only [List.mem_cons, List.not_mem_nil, or_false] at hx
    rcases hx with rfl | rfl <;> assumption)
theorem TrOk.call {s t : Tr} (hs : TrOk s) (ht : TrOk t) : TrOk (.mk "call" (.flat .non) [s, t]) :=
  .mk (by show partsOf "call" = some 2; decide +kernel) (.fl (v := .non) trivial) (by decide +kernel) (fun x hx => by
    simp only [List.mem_cons, List.not_mem_nil, or_false] at hx
    rcases hx with rfl | rfl <;> assumption)
theorem ok_snoc {ts : List Tr} {t : Tr} (h : ∀ x ∈ ts, TrOk x) (ht : TrOk t) : ∀ x ∈ ts ++ [t], TrOk x := fun x hx => by
  rcases List.mem_append.mp hx with hx | hx
  · exact h x hx
  · rw [List.mem_singleton.mp hx]; exact ht
noncomputable def sp_tree (K : PySem.W.Frag) : Sp := fun vs H Q _ => ∃ (c p : Addr) (ns : List Int) (t0 t1 t2 : Str), vs = [.ref c, .ref p] ∧ SqL K H c (ns.map V.int) ∧ ns.length ≤ 63 ∧ SqL K H p [.str t0, .str t1, .str t2] ∧ nameB t0 = true ∧ nameB t1 = true ∧ nameB t2 = true ∧
  ∀ (v : V) (t : Tr) (H' : Hp), Same H H' → TrAt K H' v t → TrOk t → t.size ≤ 1 + 5 * ns.length → Q v H'
theorem sc_law_tree : FnScope ["_law_cells", "_law_names_here", "_law_left", "_law_cell_here", "_law_word", "_law_note", "_law_parts", "_law_k", "_law_tree_here", "_law_form_here"] ["_law_cells", "_law_names_here"] (defScope s_law_tree) := ⟨rfl, rfl, rfl, by decide +kernel, rfl, by decide +kernel, by decide +kernel⟩
noncomputable def TreeJ (K : PySem.W.Frag) (H : Hp) (c p pl : Addr) (i : Nat) (σ : St) (H' : Hp) : Prop := ∃ (v3 v4 v5 v6 v7 v8 v9 : Option V) (lv : List V) (lt : List Tr), σ = [some (.ref c), some (.ref p), some (.ref pl), v3, v4, v5, v6, v7, v8, v9] ∧ H' pl = some (.lst lv) ∧ Al (TrAt K H') lv lt ∧ sizes lt ≤ 4 * i ∧ lt.length ≤ i ∧ (∀ t ∈ lt, TrOk t) ∧ Same H H'
theorem TrAt.al {K : PySem.W.Frag} {H H' : Hp} {vs : List V} {ts : List Tr} (h : Al (TrAt K H) vs ts) (e : SameT H H') : Al (TrAt K H') vs ts := h.mono fun _ _ a => a.sameT e
theorem ok_tree {f : Addr} {fd : FuncData} (F : Fun K "_law_tree" "_law_tree" s_law_tree f fd) (T : Txt K mg) (C__law_head : Callee P w K mg base 2 "_law_head" ["_law_cell_here", "_law_names_here"] (sp_head K)) (C__law_many : Callee P w K mg base 1 "_law_many" ["_law_word"] sp_many) : FnOk P w K mg base CX0 3 f fd ["_law_cells", "_law_names_here"] (sp_tree K) := by
  refine F.okq sc_law_tree (fun vs H Q E h => ?_) (fun cdv A outer s H vs Q E hr h => ?_)
  · obtain ⟨c, p, ns, t0, t1, t2, rfl, _⟩ := h
    rfl
  · obtain ⟨c, p, ns, t0, t1, t2, rfl, hc, hn, hp, n0, n1, n2, q⟩ := h
    refine ⟨_, qss_cons (qs_set (i := 2) sc_law_tree.nd rfl (Or.inl rfl) (qe_lst (qa_nil)))
      (qss_cons (qs_for PassesOwn.never rfl (qi_anyK K (qv 0)) (qg_name (i := 3) sc_law_tree.nd rfl (Or.inl rfl)) (qss_cons (qs_asg (qe_fn C__law_head (hr.mono (by decide)) (qa_cons (qv 3) (qa_cons (qv 1) qa_nil))) (qg_tupK K (n := 2) rfl (qgs_cons (qg_name (i := 4) sc_law_tree.nd rfl (Or.inl rfl)) (qgs_cons (qg_name (i := 5) sc_law_tree.nd rfl (Or.inl rfl)) (qgs_nil)))))
      (qss_cons (qs_set (i := 6) sc_law_tree.nd rfl (Or.inl rfl) (qe_lst (qa_nil)))
      (qss_cons (qs_for PassesOwn.never rfl (qi_range1 rfl T.range (qa_cons (qe_fn C__law_many (hr.mono (by decide)) (qa_cons (qv 4) qa_nil)) qa_nil)) (qg_name (i := 7) sc_law_tree.nd rfl (Or.inl rfl)) (qss_one (qs_if (QW.qt (qw_and (qt_cmpR op_gt (qe_callB (k_len K) (by rfl) T.len (by decide +kernel) (qa_cons (qv 2) qa_nil)) (qe_int) (nomark _)) (qw_and1 (qt_cmpR op_gt (qe_op op_mod (qe_op op_mod (qe_op op_mulA (qv 3) (qe_op (k_add K) (qe_op op_mulA (qe_int) (qv 7)) (qe_int))) (qe_int)) (qe_int)) (qe_int) (nomark _))))) (qss_one (qs_expr (qe_bmK K PySem.F.plainAttrs_list PySem.F.slot_list_append PySem.F.type_list_append mt_append (qv 6) (qa_cons (qe_bm0K K PySem.F.plainAttrs_list PySem.F.slot_list_pop PySem.F.type_list_pop mt_pop (qv 2)) qa_nil)))) (qss_one (qs_expr (qe_bmK K PySem.F.plainAttrs_list PySem.F.slot_list_append PySem.F.type_list_append mt_append (qv 6) (qa_cons (qe_tup (qa_cons (qe_str) (qa_cons (qe_non) (qa_cons (qe_tup (qa_nil)) qa_nil)))) qa_nil)))))))
      (qss_one (qs_expr (qe_bmK K PySem.F.plainAttrs_list PySem.F.slot_list_append PySem.F.type_list_append mt_append (qv 2) (qa_cons (qe_tup (qa_cons (qv 4) (qa_cons (qv 5) (qa_cons (qe_callTy (k_tuple K) (by rfl) T.tuple (by decide +kernel) (qa_cons (qv 6) qa_nil)) qa_nil)))) qa_nil))))))))
      (qss_cons (qs_set (i := 8) sc_law_tree.nd rfl (Or.inl rfl) (qe_tup (qa_cons (qe_str) (qa_cons (qe_non) (qa_cons (qe_tup (qa_nil)) qa_nil)))))
      (qss_cons (qs_for PassesOwn.never rfl (qi_enumK K rfl T.enumerate (qa_cons (qv 2) qa_nil)) (qg_tupK K (n := 2) rfl (qgs_cons (qg_name (i := 7) sc_law_tree.nd rfl (Or.inl rfl)) (qgs_cons (qg_name (i := 9) sc_law_tree.nd rfl (Or.inl rfl)) (qgs_nil)))) (qss_one (qs_if (qt_cmpR (k_eq K hr.u200) (qv 7) (qe_int) (nomark _)) (qss_one (qs_set (i := 8) sc_law_tree.nd rfl (Or.inl rfl) (qv 9))) (qss_one (qs_if (qt_cmpR (k_eq K hr.u200) (qe_op op_mod (qv 7) (qe_int)) (qe_int) (nomark _)) (qss_one (qs_set (i := 8) sc_law_tree.nd rfl (Or.inl rfl) (qe_tup (qa_cons (qe_str) (qa_cons (qe_ix (k_ix K) (qv 1) (qe_op op_mod (qv 7) (qe_int)) (fun _ _ => rfl)) (qa_cons (qe_tup (qa_cons (qv 8) (qa_cons (qv 9) qa_nil))) qa_nil)))))) (qss_one (qs_set (i := 8) sc_law_tree.nd rfl (Or.inl rfl) (qe_tup (qa_cons (qe_str) (qa_cons (qe_non) (qa_cons (qe_tup (qa_cons (qv 9) (qa_cons (qv 8) qa_nil))) qa_nil)))))))))))
      (qss_one (qs_ret (qv 8)))))), ?_⟩
    have bg := big
    walk_at "r"
    refine ⟨by show 0 ≤ sizeLine; decide, fun pl hpl => ?_⟩
    have s1 := Same.upd (o := .lst []) hpl
    walk_at "r"
    refine .inl ⟨c, rfl, ⟨_, s1.seq hc⟩, ?_⟩
    refine for_list (K := K) (a := c) (xs := ns.map V.int) (TreeJ K H c p pl) ⟨_, _, _, _, _, _, _, [], [], rfl, upd_same, .nil, Nat.zero_le _, Nat.zero_le _, (fun t h => nomatch h), s1⟩ ?_ ?_ ?_
    · rintro i σ' H' _ ⟨_, _, _, _, _, _, _, _, _, _, _, _, _, _, _, sm⟩
      exact sm.seq hc
    · rintro i x σ' H1 hx ⟨v3, v4, v5, v6, v7, v8, v9, lv, lt, rfl, el, al, hsz, hln, hok, sm⟩
      obtain ⟨z, _, rfl⟩ := List.mem_map.mp (List.mem_of_getElem? hx)
      have hi := (List.getElem?_eq_some_iff.mp hx).1
      rw [List.length_map] at hi
      walk_at "r"
      refine ⟨z, p, t0, t1, t2, rfl, sm.seq hp, n0, n1, n2, fun a wd note n nt H2 s2 qa hno hps hdn hnb => ?_⟩
      refine s_gtup qa rfl ?_
      walk_at "r"
      refine ⟨by show 0 ≤ sizeLine; decide, fun pp hpp => ?_⟩
      have el2 := s2 _ _ el
      have npp : pl ≠ pp := ne_of_none el2 hpp
      have s3 := Same.upd (o := .lst []) hpp
      walk_at "r"
      obtain ⟨k, hk⟩ := Option.isSome_iff_exists.mp hps
      have k3 := (many_one hk).2.2.2.1
      refine ⟨wd, k, rfl, hk, fun H3 s4 => ?_⟩
      have sm3 := sm.trans (s2.trans (s3.trans s4))
      have hpp0 : H pp = none := (sm.trans s2).free hpp
      walk_at "r"
      refine ⟨by omega, by omega, ?_⟩
      refine for_range (n := (k : Int).toNat) (fun j σ5 H5 => ∃ (v7 : Option V) (lv5 pv5 : List V) (lt5 pt5 : List Tr), σ5 = [some (.ref c), some (.ref p), some (.ref pl), some (.int z), some (.str wd), some note, some (.ref pp), v7, v8, v9] ∧ H5 pl = some (.lst lv5) ∧ H5 pp = some (.lst pv5) ∧ Al (TrAt K H5) lv5 lt5 ∧ Al (TrAt K H5) pv5 pt5 ∧ pt5.length = j ∧ (∀ t ∈ lt5, TrOk t) ∧ (∀ t ∈ pt5, TrOk t) ∧ sizes lt5 + sizes pt5 ≤ sizes lt + j ∧ lt5.length ≤ i ∧ SameT H3 H5 ∧ Same H H5)
        ⟨_, lv, [], lt, [], rfl, s4 _ _ (s3 _ _ el2), s4 _ _ upd_same, TrAt.al al (s2.trans (s3.trans s4)).t, .nil, rfl, hok, (fun t h => nomatch h), by simp [sizes], hln, SameT.refl _, sm3⟩ ?_ ?_
      · rintro j σ5 H5 hj ⟨v7', lv5, pv5, lt5, pt5, rfl, e5l, e5p, al5, ap5, hpt, ok5, okp, hs5, hl5, t5, sm5⟩
        have hpv : pv5.length = j := by rw [ap5.1, hpt]
        -- a gap in this place
        have gap : ∀ σ6 : St, σ6 = [some (.ref c), some (.ref p), some (.ref pl), some (.int z), some (.str wd), some note, some (.ref pp), some (.int (0 + (j : Int))), v8, v9] →
            ∀ pa, H5 pa = none → ∀ pb, upd H5 pa (.tup []) pb = none → rAppend (.ref pp) [.ref pb] (upd (upd H5 pa (.tup [])) pb (.tup [.str "gap", .non, .ref pa])) fun _ H6 => ∃ (v7 : Option V) (lv5 pv5 : List V) (lt5 pt5 : List Tr), σ6 = [some (.ref c), some (.ref p), some (.ref pl), some (.int z), some (.str wd), some note, some (.ref pp), v7, v8, v9] ∧ H6 pl = some (.lst lv5) ∧ H6 pp = some (.lst pv5) ∧ Al (TrAt K H6) lv5 lt5 ∧ Al (TrAt K H6) pv5 pt5 ∧ pt5.length = j + 1 ∧ (∀ t ∈ lt5, TrOk t) ∧ (∀ t ∈ pt5, TrOk t) ∧ sizes lt5 + sizes pt5 ≤ sizes lt + (j + 1) ∧ lt5.length ≤ i ∧ SameT H3 H6 ∧ Same H H6 := fun σ6 e6 pa hpa pb hpb => by
          have s6 := (Same.upd (o := .tup []) hpa).put (o := .tup [.str "gap", .non, .ref pa]) hpb
          have e6p := s6 _ _ e5p
          have t6 : SameT H5 (upd (upd (upd H5 pa (.tup [])) pb (.tup [.str "gap", .non, .ref pa])) pp (.lst (pv5 ++ [.ref pb]))) := s6.t.trans (SameT.set e6p)
          refine s_app e6p (by omega) ⟨_, lv5, pv5 ++ [.ref pb], lt5, pt5 ++ [gapT], e6, by rw [upd_ne npp]; exact s6 _ _ e5l, upd_same, TrAt.al al5 t6, (TrAt.al ap5 t6).snoc ?_, by simp [hpt], ok5, ok_snoc okp TrOk.gap, ?_, hl5, t5.trans t6, (sm5.trans s6).over hpp0⟩
          · exact TrAt.gap ((SameT.set e6p).tup (SqT.of upd_same)) (((SameT.new (o := .tup [.str "gap", .non, .ref pa]) hpb).trans (SameT.set e6p)).tup (SqT.of upd_same))
          · have e1 : sizes [gapT] = 1 := by rw [sizes, gapT_size, sizes]
            rw [sizes_append, e1]
            omega
        walk_at "r"
        refine s_len_lst (SqL.of e5l) ?_
        walk_at "r"
        by_cases hlv : lv5 = []
        · subst hlv
          refine iteF ?_
          walk_at "r"
          refine s_tyL (SqL.of e5p) ?_
          walk_at "r"
          refine ⟨by show 0 ≤ sizeLine; decide, fun pa hpa => ?_⟩
          walk_at "r"
          refine ⟨by show 3 ≤ sizeLine; decide, fun pb hpb => ?_⟩
          walk_at "r"
          exact gap _ rfl pa hpa pb hpb
        · obtain ⟨lv6, x6, lt6, t6, rfl, rfl, al6, hx6⟩ := al5.last hlv
          have hne : decide ((0 : Int) < ((lv6 ++ [x6]).length : Int)) = true := decide_eq_true (by rw [List.length_append, List.length_singleton]; omega)
          rw [hne]
          walk_at "r"
          refine s_mul_r (by omega) (by omega) ?_
          walk_at "r"
          refine ite2 (fun _ => ?_) (fun _ => ?_)
          · walk_at "r"
            refine s_tyL (SqL.of e5p) ?_
            walk_at "r"
            refine s_tyL (SqL.of e5l) ?_
            refine s_pop e5l ?_
            walk_at "r"
            have e6p : upd H5 pl (.lst lv6) pp = some (.lst pv5) := by rw [upd_ne npp.symm]; exact e5p
            have t6' : SameT H5 (upd (upd H5 pl (.lst lv6)) pp (.lst (pv5 ++ [x6]))) := (SameT.set e5l).trans (SameT.set e6p)
            have hs6 : sizes (lt6 ++ [t6]) = sizes lt6 + t6.size := by rw [sizes_append, sizes, sizes]; omega
            refine s_app e6p (by omega) ⟨_, lv6, pv5 ++ [x6], lt6, pt5 ++ [t6], rfl, by rw [upd_ne npp, upd_same], upd_same, TrAt.al al6 t6', (TrAt.al ap5 t6').snoc (hx6.sameT t6'), by simp [hpt], fun t ht => ok5 t (List.mem_append_left _ ht), ok_snoc okp (ok5 t6 (by simp)), ?_, ?_, t5.trans t6', (sm5.over hpl).over hpp0⟩
            · have e2 : sizes (pt5 ++ [t6]) = sizes pt5 + t6.size := by rw [sizes_append, sizes, sizes]; omega
              omega
            · rw [List.length_append, List.length_singleton] at hl5
              omega
          · walk_at "r"
            refine s_tyL (SqL.of e5p) ?_
            walk_at "r"
            refine ⟨by show 0 ≤ sizeLine; decide, fun pa hpa => ?_⟩
            walk_at "r"
            refine ⟨by show 3 ≤ sizeLine; decide, fun pb hpb => ?_⟩
            walk_at "r"
            exact gap _ rfl pa hpa pb hpb
      · rintro σ5 H5 ⟨v7', lv5, pv5, lt5, pt5, rfl, e5l, e5p, al5, ap5, hpt, ok5, okp, hs5, hl5, t5, sm5⟩
        walk_at "r"
        refine s_tyL (SqL.of e5l) ?_
        walk_at "r"
        refine s_tupL (SqL.of e5p) fun pq hpq => ?_
        walk_at "r"
        refine ⟨by show 3 ≤ sizeLine; decide, fun pr hpr => ?_⟩
        walk_at "r"
        have s6 := (Same.upd (o := .tup pv5) hpq).put (o := .tup [.str wd, note, .ref pq]) hpr
        have e6l := s6 _ _ e5l
        have hll : lv5.length ≤ i := by rw [al5.1]; exact hl5
        have t6 : SameT H5 (upd (upd (upd H5 pq (.tup pv5)) pr (.tup [.str wd, note, .ref pq])) pl (.lst (lv5 ++ [.ref pr]))) := s6.t.trans (SameT.set e6l)
        refine s_app e6l (by omega) ⟨_, _, _, _, _, _, _, lv5 ++ [.ref pr], lt5 ++ [.mk wd n pt5], rfl, upd_same, (TrAt.al al5 t6).snoc ?_, ?_, by simp; omega, ok_snoc ok5 (.mk (by rw [hpt]; simpa using hk) hdn hnb okp), (sm5.trans s6).over hpl⟩
        · have ap6 := TrAt.al ap5 t6
          exact .mk ((SameT.set e6l).tup (SqT.of upd_same)) (hno.same (((s3.trans s4).t.trans t5).trans t6)) (((SameT.new (o := .tup [.str wd, note, .ref pq]) hpr).trans (SameT.set e6l)).tup (SqT.of upd_same)) ap6.1 ap6.2
        · have e1 : sizes (lt5 ++ [.mk wd n pt5]) = sizes lt5 + (1 + sizes pt5) := by rw [sizes_append, sizes, sizes, Tr.size]; omega
          omega
    · rintro σ' H1 ⟨v3, v4, v5, v6, v7, v8, v9, lv, lt, rfl, el, al, hsz, hln, hok, sm⟩
      rw [List.length_map] at hsz hln
      walk_at "r"
      refine ⟨by show 0 ≤ sizeLine; decide, fun pa hpa => ?_⟩
      walk_at "r"
      refine ⟨by show 3 ≤ sizeLine; decide, fun pb hpb => ?_⟩
      have s2 := (Same.upd (o := .tup []) hpa).put (o := .tup [.str "gap", .non, .ref pa]) hpb
      walk_at "r"
      refine ⟨pl, lv, rfl, SqL.of (s2 _ _ el), ?_⟩
      refine for_enum (K := K) (a := pl) (xs := lv) (fun i σ5 H5 => ∃ (v7 v9 : Option V) (tv : V) (t : Tr), σ5 = [some (.ref c), some (.ref p), some (.ref pl), v3, v4, v5, v6, v7, some tv, v9] ∧ TrAt K H5 tv t ∧ TrOk t ∧ t.size ≤ 1 + sizes (lt.take i) + i ∧ Same H1 H5)
        ⟨_, _, _, gapT, rfl, TrAt.gap (SqT.of upd_same) ((SameT.new (o := .tup [.str "gap", .non, .ref pa]) hpb).tup (SqT.of upd_same)), TrOk.gap, by rw [gapT_size]; omega, s2⟩ ?_ ?_ ?_
      · rintro i σ5 H5 _ ⟨_, _, _, _, _, _, _, _, sm5⟩
        exact SqL.of (sm5 _ _ el)
      · rintro i x tt σ5 H5 hx htt ⟨v7', v9', tv, t, rfl, htv, hto, hts, sm5⟩
        obtain ⟨tx, htx, hax⟩ := al.get hx
        have hxo := hok tx (List.mem_of_getElem? htx)
        have s6 := Same.upd (o := .tup [.int i, x]) htt
        have hst : sizes (lt.take (i + 1)) = sizes (lt.take i) + tx.size := by
          rw [List.take_add_one, htx, sizes_append]
          show _ + sizes [tx] = _
          rw [sizes, sizes]
          omega
        refine s_gtup (SqT.of upd_same) rfl ?_
        walk_at "r"
        refine ite2 (fun _ => ?_) (fun _ => ?_)
        · walk_at "r"
          exact ⟨_, _, x, tx, rfl, hax.same (sm5.trans s6), hxo, by omega, sm5.trans s6⟩
        walk_at "r"
        refine ite2 (fun _ => ?_) (fun _ => ?_)
        · walk_at "r"
          obtain ⟨u, hu, hnu⟩ := pick3 n0 n1 n2 (i : Int)
          refine s_ix_lst ((sm.trans (sm5.trans s6)).seq hp) hu ?_
          walk_at "r"
          refine ⟨by show 2 ≤ sizeLine; decide, fun p8 h8 => ?_⟩
          walk_at "r"
          refine ⟨by show 3 ≤ sizeLine; decide, fun p9 h9 => ?_⟩
          walk_at "r"
          have s8 := s6.trans ((Same.upd (o := .tup [tv, x]) h8).put (o := .tup [.str "let", .str u, .ref p8]) h9)
          have ax := hax.same (sm5.trans s8)
          have at' := htv.same s8
          have e8 := (SameT.new (o := .tup [.str "let", .str u, .ref p8]) h9).tup (K := K) (SqT.of upd_same)
          refine ⟨_, _, .ref p9, .mk "let" (.flat (.str u)) [t, tx], rfl, .mk (SqT.of upd_same) (.inl ⟨rfl, rfl⟩) e8 rfl fun j v y f1 f2 => ?_, TrOk.let hnu hto hxo, ?_, sm5.trans s8⟩
          · match j, f1, f2 with
            | 0, f1, f2 => cases f1; cases f2; exact at'
            | 1, f1, f2 => cases f1; cases f2; exact ax
          · rw [Tr.size, sizes, sizes, sizes]
            omega
        · walk_at "r"
          refine ⟨by show 2 ≤ sizeLine; decide, fun p8 h8 => ?_⟩
          walk_at "r"
          refine ⟨by show 3 ≤ sizeLine; decide, fun p9 h9 => ?_⟩
          walk_at "r"
          have s8 := s6.trans ((Same.upd (o := .tup [x, tv]) h8).put (o := .tup [.str "call", .non, .ref p8]) h9)
          have ax := hax.same (sm5.trans s8)
          have at' := htv.same s8
          have e8 := (SameT.new (o := .tup [.str "call", .non, .ref p8]) h9).tup (K := K) (SqT.of upd_same)
          refine ⟨_, _, .ref p9, .mk "call" (.flat .non) [tx, t], rfl, .mk (SqT.of upd_same) (.inl ⟨rfl, rfl⟩) e8 rfl fun j v y f1 f2 => ?_, TrOk.call hxo hto, ?_, sm5.trans s8⟩
          · match j, f1, f2 with
            | 0, f1, f2 => cases f1; cases f2; exact ax
            | 1, f1, f2 => cases f1; cases f2; exact at'
          · rw [Tr.size, sizes, sizes, sizes]
            omega
      · rintro σ5 H5 ⟨v7', v9', tv, t, rfl, htv, hto, hts, sm5⟩
        walk_at "r"
        rw [al.1, List.take_length] at hts
        exact q tv t H5 (sm.trans sm5) htv hto (by omega)
end
end K21

set_option Elab.async false
set_option linter.all false
set_option maxRecDepth 100000
set_option maxHeartbeats 4000000
namespace K21
open PySem L2 K10
section
variable {P : Program} {w : World} {K : PySem.W.Frag} {mg : Str → Option Value} {base : Heap}
noncomputable def sp_placed (K : PySem.W.Frag) : Sp := fun vs H Q _ => ∃ (v : V) (t : Tr), vs = [v] ∧ TrAt K H v t ∧ t.size ≤ 2000 ∧ ∀ (p : Addr) (rows : List V) (H' : Hp), Same H H' → H p = none → H' p = some (.lst rows) → Al (RowAt K H') rows (walk [] t) → Q (.ref p) H'
theorem sc_law_walk : FnScope ["_law_tree_here", "_law_rows", "_law_left", "_law_place", "_law_form_here", "_law_k"] ["_law_tree_here"] (defScope s_law_walk) := ⟨rfl, rfl, rfl, by decide +kernel, rfl, by decide +kernel, by decide +kernel⟩
noncomputable def WkJ (K : PySem.W.Frag) (H : Hp) (v : V) (t : Tr) (pt pw : Addr) (m : Nat) (σ : St) (H' : Hp) : Prop := ∃ (v3 v4 v5 : Option V) (tv wv : List V) (dn st : List (List Nat × Tr)), σ = [some v, some (.ref pt), some (.ref pw), v3, v4, v5] ∧ H' pt = some (.lst tv) ∧ H' pw = some (.lst wv) ∧
  Al (RowAt K H') tv dn ∧ Al (RowAt K H') wv st ∧ dn ++ todo st = walk [] t ∧ m = load st ∧ Same H H'
theorem ok_walk {f : Addr} {fd : FuncData} (F : Fun K "_law_walk" "_law_walk" s_law_walk f fd) (T : Txt K mg) : FnOk P w K mg base CX0 1 f fd ["_law_tree_here"] (sp_placed K) := by
  refine F.okq sc_law_walk (fun vs H Q E h => ?_) (fun cdv A outer s H vs Q E hr h => ?_)
  · obtain ⟨v, t, rfl, _⟩ := h
    rfl
  · obtain ⟨v, t, rfl, ht, hz, q⟩ := h
    refine ⟨_, qss_cons (qs_set (i := 1) sc_law_walk.nd rfl (Or.inl rfl) (qe_lst (qa_nil)))
      (qss_cons (qs_set (i := 2) sc_law_walk.nd rfl (Or.inl rfl) (qe_lst (qa_cons (qe_tup (qa_cons (qe_tup (qa_nil)) (qa_cons (qv 0) qa_nil))) qa_nil)))
      (qss_cons (qs_while PassesOwn.never (qt_cmpR op_gt (qe_callB (k_len K) (by rfl) T.len (by decide +kernel) (qa_cons (qv 2) qa_nil)) (qe_int) (nomark _)) (qss_cons (qs_asg (qe_bm0K K PySem.F.plainAttrs_list PySem.F.slot_list_pop PySem.F.type_list_pop mt_pop (qv 2)) (qg_tupK K (n := 2) rfl (qgs_cons (qg_name (i := 3) sc_law_walk.nd rfl (Or.inl rfl)) (qgs_cons (qg_name (i := 4) sc_law_walk.nd rfl (Or.inl rfl)) (qgs_nil)))))
      (qss_cons (qs_expr (qe_bmK K PySem.F.plainAttrs_list PySem.F.slot_list_append PySem.F.type_list_append mt_append (qv 1) (qa_cons (qe_tup (qa_cons (qv 3) (qa_cons (qv 4) qa_nil))) qa_nil)))
      (qss_one (qs_for PassesOwn.never rfl (qi_range3 rfl T.range (qa_cons (qe_op op_sub (qe_callB (k_len K) (by rfl) T.len (by decide +kernel) (qa_cons (qe_ix (k_ix K) (qv 4) (qe_int) (fun _ _ => rfl)) qa_nil)) (qe_int)) (qa_cons (qe_un un_neg (qe_int)) (qa_cons (qe_un un_neg (qe_int)) qa_nil)))) (qg_name (i := 5) sc_law_walk.nd rfl (Or.inl rfl)) (qss_one (qs_expr (qe_bmK K PySem.F.plainAttrs_list PySem.F.slot_list_append PySem.F.type_list_append mt_append (qv 2) (qa_cons (qe_tup (qa_cons (qe_op (k_add K) (qv 3) (qe_tup (qa_cons (qv 5) qa_nil))) (qa_cons (qe_ix (k_ix K) (qe_ix (k_ix K) (qv 4) (qe_int) (fun _ _ => rfl)) (qv 5) (fun _ _ => rfl)) qa_nil))) qa_nil)))))))))
      (qss_one (qs_ret (qv 1))))), ?_⟩
    have bg := big
    walk_at "r"
    refine ⟨by show 0 ≤ sizeLine; decide, fun pt hpt => ?_⟩
    walk_at "r"
    refine ⟨by show 0 ≤ sizeLine; decide, fun p0 hp0 => ?_⟩
    walk_at "r"
    refine ⟨by show 2 ≤ sizeLine; decide, fun p1 hp1 => ?_⟩
    walk_at "r"
    refine ⟨by show 1 ≤ sizeLine; decide, fun pw hpw => ?_⟩
    walk_at "r"
    have s0 : Same (upd H pt (.lst [])) _ := ((Same.upd (o := .tup []) hp0).put (o := .tup [.ref p0, v]) hp1).put (o := .lst [.ref p1]) hpw
    have s1 : Same (upd (upd H pt (.lst [])) p0 (.tup [])) _ := (Same.upd (o := .tup [.ref p0, v]) hp1).put (o := .lst [.ref p1]) hpw
    have s2 := Same.upd (o := .lst [.ref p1]) hpw
    have sH := (Same.upd (o := .lst []) hpt).trans s0
    have ept := s0 pt _ upd_same
    have epw : upd (upd (upd (upd H pt (.lst [])) p0 (.tup [])) p1 (.tup [.ref p0, v])) pw (.lst [.ref p1]) pw = some (.lst [.ref p1]) := upd_same
    have ep0 := s1 p0 _ upd_same
    have ep1 := s2 p1 _ upd_same
    have npw : pt ≠ pw := fun z => by rw [z] at ept; rw [upd_same] at ept; cases ept
    have hpw0 : H pw = none := ((Same.upd (o := .lst []) hpt).trans ((Same.upd (o := .tup []) hp0).put (o := .tup [.ref p0, v]) hp1)).free hpw
    refine ⟨WkJ K H v t pt pw, ⟨_, none, none, none, [], [.ref p1], [], [([], t)], rfl, ept, epw, .nil, Al.nil.snoc ⟨p1, p0, v, rfl, SqT.of ep1, SqT.of ep0, ht.same sH⟩, by simp [todo], rfl, sH⟩, ?_⟩
    rintro m σ' H' ⟨v3, v4, v5, tv, wv, dn, st, rfl, et, ew, al1, al2, hw, rfl, sm⟩
    have hdl : dn.length + load st = t.size := by
      have := congrArg List.length hw
      rw [List.length_append, walk_len] at this
      exact this
    have htl : tv.length = dn.length := al1.1
    walk_at "r"
    refine s_len_lst (SqL.of ew) ?_
    walk_at "r"
    by_cases hwv : wv = []
    · subst hwv
      have hst : st = [] := List.eq_nil_of_length_eq_zero al2.1.symm
      subst hst
      refine iteF ?_
      walk_at "r"
      rw [todo_nil, List.append_nil] at hw
      rw [hw] at al1
      exact q pt tv H' sm hpt et al1
    obtain ⟨wv', tp, st', x, rfl, rfl, al3, hrow⟩ := al2.last hwv
    have hne : decide ((0 : Int) < ((wv' ++ [tp]).length : Int)) = true := decide_eq_true (by rw [List.length_append, List.length_singleton]; omega)
    rw [hne]
    refine iteT ?_
    obtain ⟨pl, tx⟩ := x
    have hx : (pl, tx) ∈ walk [] t := by rw [← hw, todo_pop]; simp
    have hpl : pl.length ≤ 2000 := by have := walk_depth [] t _ hx; simp at this; omega
    have hload := load_pop st' (pl, tx)
    have hll := load_len (st' ++ (kids pl 0 tx.ps).reverse)
    refine ⟨fun σ2 H2 => ∃ m', m' < load (st' ++ [(pl, tx)]) ∧ WkJ K H v t pt pw m' σ2 H2, fun _ _ h => h, ?_⟩
    walk_at "r"
    refine s_tyL (SqL.of ew) ?_
    refine s_pop ew ?_
    have t1 : SameT H' (upd H' pw (.lst wv')) := SameT.set ew
    have et2 : upd H' pw (.lst wv') pt = some (.lst tv) := by rw [upd_ne npw]; exact et
    obtain ⟨a, p, u, rfl, qa, qp, hu⟩ := id hrow
    refine s_gtup (t1.tup qa) rfl ?_
    walk_at "r"
    refine s_tyL (SqL.of et2) ?_
    walk_at "r"
    refine ⟨by show 2 ≤ sizeLine; decide, fun pr hpr => ?_⟩
    walk_at "r"
    have s2' := Same.upd (o := .tup [.ref p, u]) hpr
    have et2' := s2' _ _ et2
    refine s_app et2' (by omega) ?_
    have t2 : SameT H' (upd (upd (upd H' pw (.lst wv')) pr (.tup [.ref p, u])) pt (.lst (tv ++ [.ref pr]))) := t1.trans (s2'.t.trans (SameT.set et2'))
    have et3 : upd (upd (upd H' pw (.lst wv')) pr (.tup [.ref p, u])) pt (.lst (tv ++ [.ref pr])) pt = some (.lst (tv ++ [.ref pr])) := upd_same
    have ew3 : upd (upd (upd H' pw (.lst wv')) pr (.tup [.ref p, u])) pt (.lst (tv ++ [.ref pr])) pw = some (.lst wv') := by rw [upd_ne npw.symm]; exact s2' _ _ upd_same
    have er3 : upd (upd (upd H' pw (.lst wv')) pr (.tup [.ref p, u])) pt (.lst (tv ++ [.ref pr])) pr = some (.tup [.ref p, u]) := by rw [upd_ne (ne_of_none et2 hpr).symm]; exact upd_same
    have sm3 : Same H (upd (upd (upd H' pw (.lst wv')) pr (.tup [.ref p, u])) pt (.lst (tv ++ [.ref pr]))) := ((sm.over hpw0).put hpr).over hpt
    revert t2 et3 ew3 sm3 er3
    generalize upd (upd (upd H' pw (.lst wv')) pr (.tup [.ref p, u])) pt (.lst (tv ++ [.ref pr])) = H4
    intro t2 et3 ew3 er3 sm3
    have hu4 := hu.sameT t2
    have qp4 := t2.tup qp
    have hrow4 : RowAt K H4 (.ref pr) (pl, tx) := ⟨pr, p, u, rfl, SqT.of er3, qp4, hu4⟩
    cases hu4 with
    | @mk b pp wd nv n vs ts qb hn qpp hl hch =>
    walk_at "r"
    refine s_ix_tup qb rfl ?_
    walk_at "r"
    refine s_len_tup qpp ?_
    walk_at "r"
    have hvl : vs.length ≤ 2000 := by
      have h1 := sizes_len ts
      have h2 := Tr.size_eq (.mk wd n ts)
      have h3 : (walk [] t).length = t.size := walk_len _ _
      have h4 : (Tr.mk wd n ts).size ≤ L2.load (st' ++ [(pl, Tr.mk wd n ts)]) := by
        unfold L2.load todo
        rw [List.reverse_append, List.reverse_singleton, List.flatMap_append, List.flatMap_singleton, List.length_append, walk_len]
        exact Nat.le_add_right _ _
      have h5 : (Tr.mk wd n ts).ps = ts := rfl
      rw [h5] at h2
      omega
    refine ⟨by omega, ?_⟩
    have al4 : Al (RowAt K H4) wv' st' := al3.mono (RowAt.same t2)
    have hkl : (kids pl 0 ts).length = vs.length := by rw [kids_len]; omega
    have hn' : ((vs.length : Int) - 1 - -1).toNat = vs.length := by omega
    rw [hn']
    refine for_down (n := vs.length) (fun j σ5 H5 => ∃ (v5 : Option V) (wv5 : List V), σ5 = [some v, some (.ref pt), some (.ref pw), some (.ref p), some (.ref b), v5] ∧ H5 pt = some (.lst (tv ++ [.ref pr])) ∧ H5 pw = some (.lst wv5) ∧ Al (RowAt K H5) wv5 (st' ++ ((kids pl 0 ts).drop (vs.length - j)).reverse) ∧ SameT H4 H5 ∧ Same H H5)
      ⟨_, wv', rfl, et3, ew3, by rw [Nat.sub_zero, List.drop_of_length_le (by omega)]; simpa using al4, SameT.refl _, sm3⟩ ?_ ?_
    · rintro i σ5 H5 hi ⟨v5', wv5, rfl, e5t, e5w, al5, t5, sm5⟩
      have hk : (vs.length : Int) - 1 - (i : Int) = ((vs.length - 1 - i : Nat) : Int) := by omega
      rw [hk]
      walk_at "r"
      refine s_tyL (SqL.of e5w) ?_
      walk_at "r"
      refine ⟨by show 1 ≤ sizeLine; decide, fun p6 h6 => ?_⟩
      refine s_add_tup ((t5.trans (SameT.new h6)).tup qp4) (SqT.of upd_same) (by show (plV pl).length + 1 ≤ sizeLine; unfold plV; rw [List.length_map]; omega) fun r H7 s7 q7 => ?_
      have s57 : Same H5 H7 := (Same.upd h6).trans s7
      have hj : vs.length - 1 - i < vs.length := by omega
      walk_at "r"
      refine s_ix_tup ((t5.trans s57.t).tup qb) rfl ?_
      walk_at "r"
      refine s_ix_tup ((t5.trans s57.t).tup qpp) (atI_nat (List.getElem?_eq_getElem hj)) ?_
      walk_at "r"
      refine ⟨by show 2 ≤ sizeLine; decide, fun p7 h7 => ?_⟩
      walk_at "r"
      have s58 := s57.put (o := .tup [.ref r, vs[vs.length - 1 - i]]) h7
      have hlw : wv5.length = st'.length + ((kids pl 0 ts).drop (vs.length - i)).length := by have := al5.1; simp at this ⊢; omega
      have hlk : (st' ++ (kids pl 0 ts).reverse).length = st'.length + vs.length := by rw [List.length_append, List.length_reverse, hkl]
      have hll' : (st' ++ (kids pl 0 ts).reverse).length ≤ 2000 := by
        have h1 : load (st' ++ (kids pl 0 (Tr.mk wd n ts).ps).reverse) < load (st' ++ [(pl, Tr.mk wd n ts)]) := hload
        have h2 : (st' ++ (kids pl 0 (Tr.mk wd n ts).ps).reverse).length ≤ load (st' ++ (kids pl 0 (Tr.mk wd n ts).ps).reverse) := hll
        have h3 : (Tr.mk wd n ts).ps = ts := rfl
        rw [h3] at h1 h2
        omega
      have hdr : ((kids pl 0 ts).drop (vs.length - i)).length ≤ vs.length := by rw [List.length_drop]; omega
      refine s_app (s58 _ _ e5w) (by omega) ?_
      have e8w := s58 _ _ e5w
      have t9 : SameT H5 (upd (upd H7 p7 (.tup [.ref r, vs[vs.length - 1 - i]])) pw (.lst (wv5 ++ [.ref p7]))) := s58.t.trans (SameT.set e8w)
      have hj' : vs.length - 1 - i < ts.length := by omega
      have hat := hch _ _ _ (List.getElem?_eq_getElem hj) (List.getElem?_eq_getElem hj')
      have hkid : (kids pl 0 ts)[vs.length - 1 - i]? = some (pl ++ [vs.length - 1 - i], ts[vs.length - 1 - i]) := by
        rw [kids_get, List.getElem?_eq_getElem hj']
        simp
      refine ⟨_, wv5 ++ [.ref p7], rfl, ?_, upd_same, ?_, t5.trans t9, (sm5.trans s58).over hpw0⟩
      · rw [upd_ne npw]; exact s58 _ _ e5t
      · rw [drop_step hkl hi hkid, ← List.append_assoc]
        refine (al5.mono (RowAt.same t9)).snoc ⟨p7, r, _, rfl, (SameT.set e8w).tup (SqT.of upd_same), ?_, hat.sameT (t5.trans t9)⟩
        have q9 := ((SameT.new (o := .tup [.ref r, vs[vs.length - 1 - i]]) h7).trans (SameT.set (o := .lst (wv5 ++ [.ref p7])) e8w)).tup q7
        have e : plV (pl ++ [vs.length - 1 - i]) = plV pl ++ [.int ((vs.length - 1 - i : Nat) : Int)] := by unfold plV; rw [List.map_append]; rfl
        show SqT K _ r (plV (pl ++ [vs.length - 1 - i]))
        rw [e]
        exact q9
    · rintro σ5 H5 ⟨v5', wv5, rfl, e5t, e5w, al5, t5, sm5⟩
      rw [Nat.sub_self, List.drop_zero] at al5
      refine ⟨_, hload, _, _, _, tv ++ [.ref pr], wv5, dn ++ [(pl, .mk wd n ts)], _, rfl, e5t, e5w, ?_, al5, ?_, rfl, sm5⟩
      · exact (al1.mono (RowAt.same (t2.trans t5))).snoc (RowAt.same t5 _ _ hrow4)
      · rw [← hw, todo_pop, List.append_assoc]
        rfl
end
end K21

set_option Elab.async false
set_option linter.all false
set_option maxRecDepth 100000
set_option maxHeartbeats 4000000
namespace K21
open PySem L2 K10
section
variable {P : Program} {w : World} {K : PySem.W.Frag} {mg : Str → Option Value} {base : Heap}
mutual
noncomputable def toFm : Tr → Fm
  | .mk _ _ ts => .nd (toFms ts)
noncomputable def toFms : List Tr → List Fm
  | [] => []
  | t :: r => toFm t :: toFms r
end
mutual
theorem toFm_size : ∀ t : Tr, (toFm t).size = t.size
  | .mk w n ts => by rw [toFm, Fm.size, Tr.size, toFms_size ts]
theorem toFms_size : ∀ ts : List Tr, fsizes (toFms ts) = sizes ts
  | [] => by rw [toFms, fsizes, sizes]
  | t :: r => by rw [toFms, fsizes, sizes, toFm_size t, toFms_size r]
end
mutual
theorem toFm_good : ∀ t : Tr, (toFm t).good = true
  | .mk w n ts => by rw [toFm, Fm.good, toFms_good ts]
theorem toFms_good : ∀ ts : List Tr, goods (toFms ts) = true
  | [] => by rw [toFms, goods]
  | t :: r => by rw [toFms, goods, toFm_good t, toFms_good r]; rfl
end
theorem toFms_map : ∀ ts : List Tr, toFms ts = ts.map toFm
  | [] => by rw [toFms]; rfl
  | t :: r => by rw [toFms, toFms_map r]; rfl
theorem _root_.L2.TrAt.fm {K : PySem.W.Frag} {H : Hp} {v : V} {t : Tr} (h : TrAt K H v t) : TrOk t → FmAt K H v (toFm t) := by
  induction h with
  | @mk a p wd nv n vs ts q hn qp l _ ih =>
    intro ok
    cases ok with
    | @mk _ _ nt _ hp hd hnb hs =>
      rw [toFm, toFms_map]
      have hl : wd.length ≤ 1000 := by have := (many_one hp).2.2.2.2; omega
      refine .nd q qp ?_ (by rw [List.length_map]; exact l) fun j v f e1 e2 => ?_
      · have := TopD.many (K := K) (H := H) q hl (IsN.nt hn hd) qp
        rw [hp, hnb, l] at this
        simpa using this
      · rw [List.getElem?_map] at e2
        cases e3 : ts[j]? with
        | none => rw [e3] at e2; cases e2
        | some t =>
          rw [e3] at e2
          cases e2
          exact ih j v t e1 e3 (hs t (List.mem_of_getElem? e3))
noncomputable def SameL (H H' : Hp) : Prop := SameT H H' ∧ (∀ b xs, H b = some (.lst xs) → ∃ ys, H' b = some (.lst ys)) ∧ ∀ b kvs, H b = some (.dK kvs) → H' b = some (.dK kvs)
theorem _root_.L2.Same.l {H H' : Hp} (e : Same H H') : SameL H H' := ⟨e.t, fun b xs h => ⟨xs, e b _ h⟩, fun b kvs h => e b _ h⟩
theorem SameL.trans {H H1 H2 : Hp} (a : SameL H H1) (b : SameL H1 H2) : SameL H H2 := ⟨a.1.trans b.1, fun c xs h => by
  obtain ⟨ys, h⟩ := a.2.1 c xs h
  exact b.2.1 c ys h, fun c kvs h => b.2.2 c kvs (a.2.2 c kvs h)⟩
theorem SameL.set {H : Hp} {S : Addr} {zs ws : List V} (h : H S = some (.lst zs)) : SameL H (upd H S (.lst ws)) := ⟨SameT.set h, fun b xs e => by
  by_cases z : b = S
  · exact ⟨ws, by rw [z, upd_same]⟩
  · exact ⟨xs, by rw [upd_ne z]; exact e⟩, fun b kvs e => by rw [upd_ne (ne_of e h (by intro z; cases z))]; exact e⟩
theorem TyN.sameL {K : PySem.W.Frag} {H H' : Hp} {v : V} {t : String} (h : TyN K H v t) (e : SameL H H') : TyN K H' v t := by
  cases h with
  | non => exact .non
  | bl x => exact .bl x
  | int x => exact .int x
  | str x h => exact .str x h
  | tup q => exact .tup (e.1.tup q)
  | lst q =>
    rcases q with (q | ⟨o, q⟩) | q
    · obtain ⟨ys, h⟩ := e.2.1 _ _ q
      exact .lst (SqL.of h)
    · exact .lst (.inl (.inr ⟨o, (e.1 _).2 _ _ q⟩))
    · exact .lst (.inr q)
  | dK h => exact .dK (e.2.2 _ _ h)
theorem Has.sameL {K : PySem.W.Frag} {H H' : Hp} {v : V} (h : Has K H v) (e : SameL H H') : Has K H' v := by
  obtain ⟨t, h⟩ := h
  exact ⟨t, h.sameL e⟩
theorem NtAt.sameL {K : PySem.W.Frag} {H H' : Hp} {v : V} {n : Nt} (h : NtAt K H v n) (e : SameL H H') : NtAt K H' v n := by
  cases n with
  | fl u => obtain ⟨h1, t, h2, h3⟩ := h; exact ⟨h1, t, h2.sameL e, h3⟩
  | tp xs => obtain ⟨a, h1, h2, h3⟩ := h; exact ⟨a, h1, e.1.tup h2, fun x hx => (h3 x hx).sameL e⟩
  | ot => obtain ⟨a, t, h1, h2, h3⟩ := h; exact ⟨a, t, h1, h2.sameL e, h3⟩
theorem TopD.sameL {K : PySem.W.Frag} {H H' : Hp} {v : V} {b : Bool} (h : TopD K H v b) (e : SameL H H') : TopD K H' v b := by
  cases h with
  | kind h hk => exact .kind (h.sameL e) hk
  | len q h => exact .len (e.1.tup q) h
  | word q hx h => exact .word (e.1.tup q) (hx.sameL e) h
  | note q hl hn h => exact .note (e.1.tup q) hl (hn.sameL e) h
  | parts q hl hn hp h => exact .parts (e.1.tup q) hl (hn.sameL e) (hp.sameL e) h
  | many q hl hn qp => exact .many (e.1.tup q) hl (hn.sameL e) (e.1.tup qp)
theorem FmAt.sameL {K : PySem.W.Frag} {H H' : Hp} {v : V} {t : Fm} (h : FmAt K H v t) (e : SameL H H') : FmAt K H' v t := by
  induction h with
  | bad h => exact .bad (h.sameL e)
  | nd q qp h l _ ih => exact .nd (e.1.tup q) (e.1.tup qp) (h.sameL e) l ih
noncomputable def Brk (K : PySem.W.Frag) (H : Hp) (N : Nat) (v : V) : Prop := ∃ fm, FmAt K H v fm ∧ fm.good = false ∧ fm.size ≤ N
theorem Brk.sameL {K : PySem.W.Frag} {H H' : Hp} {N : Nat} {v : V} (h : Brk K H N v) (e : SameL H H') : Brk K H' N v := by
  obtain ⟨fm, h1, h2, h3⟩ := h
  exact ⟨fm, h1.sameL e, h2, h3⟩
theorem Brk.bad {K : PySem.W.Frag} {H : Hp} {N : Nat} {v : V} (h : TopD K H v false) (hN : 1 ≤ N) : Brk K H N v := ⟨.bad, .bad h, by rw [Fm.good], by rw [Fm.size]; exact hN⟩
theorem top_many {K : PySem.W.Frag} {H : Hp} {a p : Addr} {wd : Str} {n : V} {nt : Nt} {vs : List V} {m : Nat} (q : SqT K H a [.str wd, n, .ref p]) (hl : wd.length ≤ 1000) (hn : NtAt K H n nt) (qp : SqT K H p vs) (hm : partsOf wd = some m) (h : vs.length ≠ m) : TopD K H (.ref a) false := by
  have := TopD.many (K := K) (H := H) q hl hn qp
  rw [hm, show decide (some m = some vs.length) = false from decide_eq_false fun x => h (Option.some.inj x).symm, Bool.and_false] at this
  exact this
inductive Sub : Tr → List Nat → Prop where
  | nil (t : Tr) : Sub t []
  | cons {w : Str} {n : Dt} {ts : List Tr} {j : Nat} {t : Tr} {r : List Nat} (h : ts[j]? = some t) (s : Sub t r) : Sub (.mk w n ts) (j :: r)
theorem goods_set {fs : List Fm} {j : Nat} {f : Fm} (h : j < fs.length) (hf : f.good = false) : goods (fs.set j f) = false := by
  induction fs generalizing j with
  | nil => cases h
  | cons g r ih =>
    cases j with
    | zero => rw [List.set_cons_zero, goods, hf, Bool.false_and]
    | succ j => rw [List.set_cons_succ, goods, ih (by simpa using h), Bool.and_false]
theorem fsizes_set {fs : List Fm} {j : Nat} {f g : Fm} (h : fs[j]? = some g) : fsizes (fs.set j f) + g.size = fsizes fs + f.size := by
  induction fs generalizing j with
  | nil => cases h
  | cons a r ih =>
    cases j with
    | zero =>
      have h : a = g := by simpa using h
      rw [List.set_cons_zero, fsizes, fsizes, h]
      omega
    | succ j =>
      have := ih (j := j) (by simpa using h)
      rw [List.set_cons_succ, fsizes, fsizes]
      omega
noncomputable def FF (K : PySem.W.Frag) (H : Hp) (v : V) (t : Tr) : Prop := TrAt K H v t ∧ TrOk t ∧ t.size ≤ 95
theorem FF.same {K : PySem.W.Frag} {H H' : Hp} {v : V} {t : Tr} (h : FF K H v t) (e : Same H H') : FF K H' v t := ⟨h.1.same e, h.2⟩
theorem FF.top {K : PySem.W.Frag} {H : Hp} {v : V} {t : Tr} (h : FF K H v t) : ∃ (a p : Addr) (n : V), v = .ref a ∧ SqT K H a [.str t.wd, n, .ref p] := by
  cases h.1 with
  | mk q hn qp l hs => exact ⟨_, _, _, rfl, q⟩
noncomputable def NoF (K : PySem.W.Frag) (H : Hp) (v : V) : Prop := Brk K H 5000 v
theorem NoF.same {K : PySem.W.Frag} {H H' : Hp} {v : V} (h : NoF K H v) (e : Same H H') : NoF K H' v := Brk.sameL h e.l
structure Cs where
  d : Addr
  f : Addr
  c : Addr
  g : Addr
inductive Dd where
  | no
  | fill (v : V)
  | cut
  | chg (v : V)
noncomputable def Dd.cls (c : Cs) : Dd → Addr
  | .no => c.d
  | .fill _ => c.f
  | .cut => c.c
  | .chg _ => c.g
noncomputable def Dd.fs : Dd → List (Str × V)
  | .no => []
  | .fill v => [("form", v)]
  | .cut => []
  | .chg v => [("form", v)]
noncomputable def DdAt (c : Cs) (H : Hp) (x : V) (d : Dd) : Prop := ∃ a dx, x = .ref a ∧ H a = some (.ins (d.cls c) dx d.fs)
theorem DdAt.same {c : Cs} {H H' : Hp} {x : V} {d : Dd} (h : DdAt c H x d) (e : Same H H') : DdAt c H' x d := by
  obtain ⟨a, dx, h1, h2⟩ := h
  exact ⟨a, dx, h1, e _ _ h2⟩
noncomputable def doneV (ag : Addr) (y : V) (wd : Str) : Dd → Option V
  | .no => some y
  | .fill v => if wd = "gap" then some v else none
  | .cut => if wd = "gap" then none else some (.ref ag)
  | .chg v => some v
noncomputable def backV (y : V) : Dd → Dd
  | .no => .no
  | .fill _ => .cut
  | .cut => .fill y
  | .chg _ => .chg y
structure Own (K : PySem.W.Frag) (mg : Str → Option Value) (x : Str) (C : Addr) : Prop where
  cl : Cls K C
  at_ : mg x = some (.ref C)
  nf : NoAttr K C "form"
  ca : PySem.W.findIn K (.ref C) "__class__" = some (some (.builtin "object.__class__"))
  cg : PySem.W.specialIn K (.builtin "object.__class__") "__get__" = some (some (.builtin "getset_descriptor.__get__"))
  ct : PySem.W.takesIn K (.builtin "object.__class__") = some true
  cm : PySem.W.mroIn K C (.type "object") = some true
structure Kl (K : PySem.W.Frag) (mg : Str → Option Value) (c : Cs) : Prop where
  od : Own K mg "Deed" c.d
  of : Own K mg "Fill" c.f
  oc : Own K mg "Cut" c.c
  og : Own K mg "Change" c.g
  fd : PySem.W.kitOne K (.ref c.f) (.ref c.d) = some true
  cd : PySem.W.kitOne K (.ref c.c) (.ref c.d) = some true
  gd : PySem.W.kitOne K (.ref c.g) (.ref c.d) = some true
theorem Own.ty {K : PySem.W.Frag} {mg : Str → Option Value} {x : Str} {C : Addr} (o : Own K mg x C) {H : Hp} {a dx : Addr} {fs : List (Str × V)} (e : H a = some (.ins C dx fs)) : TyQ K H (.ref a) (.ref C) := .ty (.ins e o.cl o.ca o.cg o.ct o.cm)
theorem kit_self {K : PySem.W.Frag} {C : Addr} : PySem.W.kitOne K (.ref C) (.ref C) = some true := by unfold PySem.W.kitOne; rw [if_pos (by simp)]
theorem Kl.ty {K : PySem.W.Frag} {mg : Str → Option Value} {c : Cs} (k : Kl K mg c) {H : Hp} {x : V} {d : Dd} (h : DdAt c H x d) : TyQ K H x (.ref (d.cls c)) := by
  obtain ⟨a, dx, rfl, e⟩ := h
  cases d with
  | no => exact k.od.ty e
  | fill v => exact k.of.ty e
  | cut => exact k.oc.ty e
  | chg v => exact k.og.ty e
theorem Kl.deed {K : PySem.W.Frag} {mg : Str → Option Value} {c : Cs} (k : Kl K mg c) (d : Dd) : PySem.W.kitOne K (.ref (d.cls c)) (.ref c.d) = some true := by
  cases d with
  | no => exact kit_self
  | fill v => exact k.fd
  | cut => exact k.cd
  | chg v => exact k.gd
end
end K21

set_option Elab.async false
set_option linter.all false
set_option maxRecDepth 100000
set_option maxHeartbeats 4000000
namespace K21
open PySem L2 K10
section
variable {P : Program} {w : World} {K : PySem.W.Frag} {mg : Str → Option Value} {base : Heap}
noncomputable def sp_refF (K : PySem.W.Frag) (NF : Addr) : Sp := fun vs H Q E => ∃ v, vs = [v] ∧ ((∃ t, FF K H v t ∧ ∀ H', Same H H' → Q .non H') ∨ (NoF K H v ∧ ∀ H', Same H H' → E (.ref NF) none H'))
theorem sc_refuse_no_form : FnScope ["thing"] ["thing"] (defScope s_refuse_no_form) := ⟨rfl, rfl, rfl, by decide +kernel, rfl, by decide +kernel, by decide +kernel⟩
theorem ok_refF {N_NoForm : Addr} {f : Addr} {fd : FuncData} (F : Fun K "refuse_no_form" "refuse_no_form" s_refuse_no_form f fd) (T : Txt K mg) (C_is_form : Callee P w K mg base 5 "is_form" ["thing"] (sp_form K)) (R_NoForm : PySem.W.excIn K N_NoForm VE "ValueError.__new__" = true) (G_NoForm : mg "NoForm" = some (.ref N_NoForm)) : FnOk P w K mg base (CXR P w) 6 f fd ["thing"] (sp_refF K N_NoForm) := by
  refine F.okx sc_refuse_no_form (fun vs H Q E h => ?_) (fun cdv A outer s H vs Q E hr h => ?_)
  · obtain ⟨v, rfl, _⟩ := h
    rfl
  · obtain ⟨v, rfl, h⟩ := h
    refine ⟨_, qss_one (qs_if (qt_not (qt_val (qe_fn C_is_form (hr.mono (by decide)) (qa_cons (qv 0) qa_nil)))) (qss_one (qs_raise rfl R_NoForm G_NoForm (qa_cons (qe_str) qa_nil) (fun _ _ _ _ _ _ _ I x h0 hn he => raises_cx I x h0 hn he) rfl)) (qss_nil)), ?_⟩
    walk_at "r"
    rcases h with ⟨t, ⟨ht, ok, hz⟩, q⟩ | ⟨⟨fm, hf, hb, hz⟩, x⟩
    · refine ⟨v, _, rfl, ht.fm ok, by rw [toFm_size]; omega, fun H1 s1 => ?_⟩
      rw [toFm_good]
      walk_at "r"
      exact q H1 s1
    · refine ⟨v, _, rfl, hf, hz, fun H1 s1 => ?_⟩
      rw [hb]
      walk_at "r"
      exact ⟨by show 1 ≤ sizeLine; decide, x H1 s1⟩
end
end K21

set_option Elab.async false
set_option linter.all false
set_option maxRecDepth 100000
set_option maxHeartbeats 4000000
namespace K21
open PySem L2 K10
section
variable {P : Program} {w : World} {K : PySem.W.Frag} {mg : Str → Option Value} {base : Heap}
noncomputable def sp_refG (K : PySem.W.Frag) (ND : Addr) : Sp := fun vs H Q E => ∃ v t, vs = [v] ∧ FF K H v t ∧ (t.wd = "gap" → Q .non H) ∧ (t.wd ≠ "gap" → E (.ref ND) none H)
theorem sc_refuse_no_gap : FnScope ["form"] ["form"] (defScope s_refuse_no_gap) := ⟨rfl, rfl, rfl, by decide +kernel, rfl, by decide +kernel, by decide +kernel⟩
theorem ok_refG {N_NoDeed : Addr} {f : Addr} {fd : FuncData} (F : Fun K "refuse_no_gap" "refuse_no_gap" s_refuse_no_gap f fd) (T : Txt K mg) (R_NoDeed : PySem.W.excIn K N_NoDeed VE "ValueError.__new__" = true) (G_NoDeed : mg "NoDeed" = some (.ref N_NoDeed)) : FnOk P w K mg base (CXR P w) 1 f fd ["form"] (sp_refG K N_NoDeed) := by
  refine F.okx sc_refuse_no_gap (fun vs H Q E h => ?_) (fun cdv A outer s H vs Q E hr h => ?_)
  · obtain ⟨v, t, rfl, _⟩ := h
    rfl
  · obtain ⟨v, t, rfl, ht, q, x⟩ := h
    refine ⟨_, qss_one (qs_if (qt_cmpR (k_ne K hr.u200) (qe_ix (k_ix K) (qv 0) (qe_int) (fun _ _ => rfl)) (qe_str) (nomark _)) (qss_one (qs_raise rfl R_NoDeed G_NoDeed (qa_cons (qe_str) qa_nil) (fun _ _ _ _ _ _ _ I x h0 hn he => raises_cx I x h0 hn he) rfl)) (qss_nil)), ?_⟩
    obtain ⟨a, p, n, rfl, hq⟩ := ht.top
    walk_at "r"
    refine s_ix_tup hq rfl ?_
    walk_at "r"
    by_cases hw : t.wd = "gap"
    · rw [hw, decide_eq_true (Eq.refl _)]
      walk_at "r"
      exact q hw
    · rw [decide_eq_false (fun h => hw (V.str.inj h))]
      walk_at "r"
      exact ⟨by show 1 ≤ sizeLine; decide, x hw⟩
end
end K21

set_option Elab.async false
set_option linter.all false
set_option maxRecDepth 100000
set_option maxHeartbeats 4000000
namespace K21
open PySem L2 K10
section
variable {P : Program} {w : World} {K : PySem.W.Frag} {mg : Str → Option Value} {base : Heap}
noncomputable def sp_done (K : PySem.W.Frag) (c : Cs) (ag ND C : Addr) : Sp := fun vs H Q E => ∃ x d y t, vs = [x, y] ∧ DdAt c H x d ∧ d.cls c = C ∧ FF K H y t ∧ (∀ v, doneV ag y t.wd d = some v → Q v H) ∧ (doneV ag y t.wd d = none → E (.ref ND) none H)
noncomputable def sp_back (K : PySem.W.Frag) (c : Cs) (ag ND C : Addr) : Sp := fun vs H Q E => ∃ x d y t, vs = [x, y] ∧ DdAt c H x d ∧ d.cls c = C ∧ FF K H y t ∧ (∀ v, doneV ag y t.wd d = some v → ∀ x' H', Same H H' → DdAt c H' x' (backV y d) → Q x' H') ∧ (doneV ag y t.wd d = none → ∀ H', Same H H' → E (.ref ND) none H')
structure Cs.Apart (c : Cs) : Prop where
  df : c.d ≠ c.f
  dc : c.d ≠ c.c
  dg : c.d ≠ c.g
  fc : c.f ≠ c.c
  fg : c.f ≠ c.g
  cg : c.c ≠ c.g
theorem Dd.is_no {c : Cs} (A : c.Apart) {d : Dd} (h : d.cls c = c.d) : d = .no := by
  cases d with
  | no => rfl
  | fill v => exact absurd h.symm A.df
  | cut => exact absurd h.symm A.dc
  | chg v => exact absurd h.symm A.dg
theorem Dd.is_fill {c : Cs} (A : c.Apart) {d : Dd} (h : d.cls c = c.f) : ∃ v, d = .fill v := by
  cases d with
  | no => exact absurd h A.df
  | fill v => exact ⟨v, rfl⟩
  | cut => exact absurd h.symm A.fc
  | chg v => exact absurd h.symm A.fg
theorem Dd.is_cut {c : Cs} (A : c.Apart) {d : Dd} (h : d.cls c = c.c) : d = .cut := by
  cases d with
  | no => exact absurd h A.dc
  | fill v => exact absurd h A.fc
  | cut => rfl
  | chg v => exact absurd h.symm A.cg
theorem Dd.is_chg {c : Cs} (A : c.Apart) {d : Dd} (h : d.cls c = c.g) : ∃ v, d = .chg v := by
  cases d with
  | no => exact absurd h A.dg
  | fill v => exact absurd h A.fg
  | cut => exact absurd h A.cg
  | chg v => exact ⟨v, rfl⟩
theorem _root_.L2.Same.made {H : Hp} {x dx C : Addr} {fs : List (Str × V)} (h1 : H x = none) (h2 : H dx = none) (h3 : dx ≠ x) : Same H (upd (upd H dx (.own x)) x (.ins C dx fs)) :=
  (Same.upd h2).trans (Same.upd (by rw [upd_ne h3.symm]; exact h1))
theorem sc_Deed_done : FnScope ["self", "form"] ["self", "form"] (defScope s_Deed_done) := ⟨rfl, rfl, rfl, by decide +kernel, rfl, by decide +kernel, by decide +kernel⟩
theorem ok_Ddone {c : Cs} {ag ND : Addr} {f : Addr} {fd : FuncData} (A : c.Apart) (F : Fun K "done" "Deed.done" s_Deed_done f fd) (T : Txt K mg) : FnOk P w K mg base (CXR P w) 2 f fd ["self", "form"] (sp_done K c ag ND c.d) := by
  refine F.okx sc_Deed_done (fun vs H Q E h => ?_) (fun cdv A' outer s H vs Q E hr h => ?_)
  · obtain ⟨x, d, y, t, rfl, _⟩ := h
    rfl
  · obtain ⟨x, d, y, t, rfl, hx, hc, hy, q, e⟩ := h
    obtain rfl := Dd.is_no A hc
    refine ⟨_, qss_one (qs_ret (qv 1)), ?_⟩
    walk_at "r"
    exact q y rfl
end
end K21

set_option Elab.async false
set_option linter.all false
set_option maxRecDepth 100000
set_option maxHeartbeats 4000000
namespace K21
open PySem L2 K10
section
variable {P : Program} {w : World} {K : PySem.W.Frag} {mg : Str → Option Value} {base : Heap}
theorem sc_Deed_back : FnScope ["self", "form"] ["self", "form"] (defScope s_Deed_back) := ⟨rfl, rfl, rfl, by decide +kernel, rfl, by decide +kernel, by decide +kernel⟩
theorem ok_Dback {c : Cs} {ag ND : Addr} {f : Addr} {fd : FuncData} (A : c.Apart) (F : Fun K "back" "Deed.back" s_Deed_back f fd) (T : Txt K mg) (MK_Deed : Make0 K mg "Deed" c.d) : FnOk P w K mg base (CXR P w) 9 f fd ["self", "form"] (sp_back K c ag ND c.d) := by
  refine F.okx sc_Deed_back (fun vs H Q E h => ?_) (fun cdv A' outer s H vs Q E hr h => ?_)
  · obtain ⟨x, d, y, t, rfl, _⟩ := h
    rfl
  · obtain ⟨x, d, y, t, rfl, hx, hc, hy, q, e⟩ := h
    obtain rfl := Dd.is_no A hc
    refine ⟨_, qss_one (qs_ret (qe_new0 MK_Deed)), ?_⟩
    walk_at "r"
    intro a dx h1 h2 h3
    exact q y rfl _ _ (Same.made h1 h2 h3) ⟨a, dx, rfl, upd_same⟩
end
end K21

set_option Elab.async false
set_option linter.all false
set_option maxRecDepth 100000
set_option maxHeartbeats 4000000
namespace K21
open PySem L2 K10
section
variable {P : Program} {w : World} {K : PySem.W.Frag} {mg : Str → Option Value} {base : Heap}
noncomputable def sp_initF (K : PySem.W.Frag) (c : Cs) (NF : Addr) : Sp := fun vs H Q E => ∃ a dx y, vs = [.ref a, y] ∧ H a = some (.ins c.f dx []) ∧
  ((∃ t, FF K H y t ∧ (t.wd ≠ "gap" → ∀ H', Same H H' → Q .non (upd H' a (.ins c.f dx [("form", y)]))) ∧ (t.wd = "gap" → ∀ H', Same H H' → E (.ref NF) none H')) ∨ (NoF K H y ∧ ∀ H', Same H H' → E (.ref NF) none H'))
theorem sc_Fill_init : FnScope ["self", "form"] ["self", "form"] (defScope s_Fill_init) := ⟨rfl, rfl, rfl, by decide +kernel, rfl, by decide +kernel, by decide +kernel⟩
theorem ok_Finit {c : Cs} {N_NoForm : Addr} {f : Addr} {fd : FuncData} (F : Fun K "__init__" "Fill.__init__" s_Fill_init f fd) (T : Txt K mg) (O : Own K mg "Fill" c.f) (C_refuse_no_form : CalleeX P w K mg base 6 "refuse_no_form" ["thing"] (sp_refF K N_NoForm)) (R_NoForm : PySem.W.excIn K N_NoForm VE "ValueError.__new__" = true) (G_NoForm : mg "NoForm" = some (.ref N_NoForm)) : FnOk P w K mg base (CXR P w) 7 f fd ["self", "form"] (sp_initF K c N_NoForm) := by
  refine F.okx sc_Fill_init (fun vs H Q E h => ?_) (fun cdv A outer s H vs Q E hr h => ?_)
  · obtain ⟨a, dx, y, rfl, _⟩ := h
    rfl
  · obtain ⟨a, dx, y, rfl, ha, h⟩ := h
    refine ⟨_, qss_cons (qs_expr (qe_fnx C_refuse_no_form (hr.mono (by decide)) (passes_cx (fun _ _ _ h => h)) (qa_cons (qv 1) qa_nil)))
      (qss_cons (qs_if (qt_cmpR (k_eq K hr.u200) (qe_ix (k_ix K) (qv 1) (qe_int) (fun _ _ => rfl)) (qe_str) (nomark _)) (qss_one (qs_raise rfl R_NoForm G_NoForm (qa_cons (qe_str) qa_nil) (fun _ _ _ _ _ _ _ I x h0 hn he => raises_cx I x h0 hn he) rfl)) (qss_nil))
      (qss_one (qs_fldK K (qv 0) (qv 1)))), ?_⟩
    walk_at "r"
    rcases h with ⟨t, ht, q, x⟩ | ⟨hb, x⟩
    · refine ⟨y, rfl, .inl ⟨t, ht, fun H1 s1 => ?_⟩⟩
      obtain ⟨b, p, n, rfl, hq⟩ := (ht.same s1).top
      walk_at "r"
      refine s_ix_tup hq rfl ?_
      walk_at "r"
      by_cases hw : t.wd = "gap"
      · rw [hw, decide_eq_true (Eq.refl _)]
        walk_at "r"
        exact ⟨by show 1 ≤ sizeLine; decide, x hw H1 s1⟩
      · rw [decide_eq_false (fun h => hw (V.str.inj h))]
        walk_at "r"
        refine ⟨_, rfl, _, rfl, a, c.f, dx, [], rfl, s1 _ _ ha, O.cl, O.nf, by simp, ?_⟩
        exact q hw H1 s1
    · exact ⟨y, rfl, .inr ⟨hb, fun H1 s1 => x H1 s1⟩⟩
end
end K21

set_option Elab.async false
set_option linter.all false
set_option maxRecDepth 100000
set_option maxHeartbeats 4000000
namespace K21
open PySem L2 K10
section
variable {P : Program} {w : World} {K : PySem.W.Frag} {mg : Str → Option Value} {base : Heap}
theorem sc_Fill_done : FnScope ["self", "form"] ["self", "form"] (defScope s_Fill_done) := ⟨rfl, rfl, rfl, by decide +kernel, rfl, by decide +kernel, by decide +kernel⟩
theorem ok_Fdone {c : Cs} {ag N_NoDeed : Addr} {f : Addr} {fd : FuncData} (A : c.Apart) (F : Fun K "done" "Fill.done" s_Fill_done f fd) (T : Txt K mg) (O : Own K mg "Fill" c.f) (C_refuse_no_gap : CalleeX P w K mg base 1 "refuse_no_gap" ["form"] (sp_refG K N_NoDeed)) : FnOk P w K mg base (CXR P w) 2 f fd ["self", "form"] (sp_done K c ag N_NoDeed c.f) := by
  refine F.okx sc_Fill_done (fun vs H Q E h => ?_) (fun cdv A' outer s H vs Q E hr h => ?_)
  · obtain ⟨x, d, y, t, rfl, _⟩ := h
    rfl
  · obtain ⟨x, d, y, t, rfl, hx, hc, hy, q, e⟩ := h
    obtain ⟨v, rfl⟩ := Dd.is_fill A hc
    obtain ⟨a, dx, rfl, ha⟩ := hx
    refine ⟨_, qss_cons (qs_expr (qe_fnx C_refuse_no_gap (hr.mono (by decide)) (passes_cx (fun _ _ _ h => h)) (qa_cons (qv 1) qa_nil)))
      (qss_one (qs_ret (qe_fldK K (qv 0)))), ?_⟩
    walk_at "r"
    refine ⟨y, t, rfl, hy, fun hw => ?_, fun hw => e (if_neg hw)⟩
    walk_at "r"
    exact ⟨_, rfl, a, c.f, dx, _, v, rfl, ha, O.cl, O.nf, rfl, q v (if_pos hw)⟩
end
end K21

set_option Elab.async false
set_option linter.all false
set_option maxRecDepth 100000
set_option maxHeartbeats 4000000
namespace K21
open PySem L2 K10
section
variable {P : Program} {w : World} {K : PySem.W.Frag} {mg : Str → Option Value} {base : Heap}
theorem sc_Fill_back : FnScope ["self", "form"] ["self", "form"] (defScope s_Fill_back) := ⟨rfl, rfl, rfl, by decide +kernel, rfl, by decide +kernel, by decide +kernel⟩
theorem ok_Fback {c : Cs} {ag N_NoDeed : Addr} {f : Addr} {fd : FuncData} (A : c.Apart) (F : Fun K "back" "Fill.back" s_Fill_back f fd) (T : Txt K mg) (M : MethX (CXR P w) P w K mg base 2 c.f "done" ["self", "form"] (sp_done K c ag N_NoDeed c.f)) (MK_Cut : Make0 K mg "Cut" c.c) : FnOk P w K mg base (CXR P w) 9 f fd ["self", "form"] (sp_back K c ag N_NoDeed c.f) := by
  refine F.okx sc_Fill_back (fun vs H Q E h => ?_) (fun cdv A' outer s H vs Q E hr h => ?_)
  · obtain ⟨x, d, y, t, rfl, _⟩ := h
    rfl
  · obtain ⟨x, d, y, t, rfl, hx, hc, hy, q, e⟩ := h
    obtain ⟨v, rfl⟩ := Dd.is_fill A hc
    have hx' := hx
    obtain ⟨a, dx, rfl, ha⟩ := hx
    refine ⟨_, qss_cons (qs_expr (qe_methD (k := 2) K (CXR P w) ["self", "form"] (qv 0) (hr.mono (by decide)) (passes_cx (fun _ _ _ h => h)) (qa_cons (qv 1) qa_nil)))
      (qss_one (qs_ret (qe_new0 MK_Cut))), ?_⟩
    walk_at "r"
    refine ⟨_, rfl, a, c.f, dx, _, _, rfl, ha, rfl, M, ?_⟩
    walk_at "r"
    refine ⟨_, .fill v, y, t, rfl, hx', rfl, hy, fun z hz => ?_, fun hz => e hz H (Same.refl _)⟩
    walk_at "r"
    intro a1 d1 h1 h2 h3
    exact q z hz _ _ (Same.made h1 h2 h3) ⟨a1, d1, rfl, upd_same⟩
end
end K21

set_option Elab.async false
set_option linter.all false
set_option maxRecDepth 100000
set_option maxHeartbeats 4000000
namespace K21
open PySem L2 K10
section
variable {P : Program} {w : World} {K : PySem.W.Frag} {mg : Str → Option Value} {base : Heap}
theorem sc_Cut_done : FnScope ["self", "form"] ["self", "form"] (defScope s_Cut_done) := ⟨rfl, rfl, rfl, by decide +kernel, rfl, by decide +kernel, by decide +kernel⟩
theorem ok_Cdone {c : Cs} {ag N_NoDeed : Addr} {f : Addr} {fd : FuncData} (A : c.Apart) (F : Fun K "done" "Cut.done" s_Cut_done f fd) (T : Txt K mg) (G_GAP : Glob mg "GAP" (.ref ag)) (R_NoDeed : PySem.W.excIn K N_NoDeed VE "ValueError.__new__" = true) (G_NoDeed : mg "NoDeed" = some (.ref N_NoDeed)) : FnOk P w K mg base (CXR P w) 2 f fd ["self", "form"] (sp_done K c ag N_NoDeed c.c) := by
  refine F.okx sc_Cut_done (fun vs H Q E h => ?_) (fun cdv A' outer s H vs Q E hr h => ?_)
  · obtain ⟨x, d, y, t, rfl, _⟩ := h
    rfl
  · obtain ⟨x, d, y, t, rfl, hx, hc, hy, q, e⟩ := h
    obtain rfl := Dd.is_cut A hc
    refine ⟨_, qss_cons (qs_if (qt_cmpR (k_eq K hr.u200) (qe_ix (k_ix K) (qv 1) (qe_int) (fun _ _ => rfl)) (qe_str) (nomark _)) (qss_one (qs_raise rfl R_NoDeed G_NoDeed (qa_cons (qe_str) qa_nil) (fun _ _ _ _ _ _ _ I x h0 hn he => raises_cx I x h0 hn he) rfl)) (qss_nil))
      (qss_one (qs_ret (qe_gl G_GAP))), ?_⟩
    obtain ⟨b, p, n, rfl, hq⟩ := hy.top
    walk_at "r"
    refine s_ix_tup hq rfl ?_
    walk_at "r"
    by_cases hw : t.wd = "gap"
    · rw [hw, decide_eq_true (Eq.refl _)]
      walk_at "r"
      exact ⟨by show 1 ≤ sizeLine; decide, e (if_pos hw)⟩
    · rw [decide_eq_false (fun h => hw (V.str.inj h))]
      walk_at "r"
      exact q _ (if_neg hw)
end
end K21

set_option Elab.async false
set_option linter.all false
set_option maxRecDepth 100000
set_option maxHeartbeats 4000000
namespace K21
open PySem L2 K10
section
variable {P : Program} {w : World} {K : PySem.W.Frag} {mg : Str → Option Value} {base : Heap}
noncomputable def sp_initG (K : PySem.W.Frag) (c : Cs) (NF : Addr) : Sp := fun vs H Q E => ∃ a dx y, vs = [.ref a, y] ∧ H a = some (.ins c.g dx []) ∧
  ((∃ t, FF K H y t ∧ ∀ H', Same H H' → Q .non (upd H' a (.ins c.g dx [("form", y)]))) ∨ (NoF K H y ∧ ∀ H', Same H H' → E (.ref NF) none H'))
theorem sc_Change_init : FnScope ["self", "form"] ["self", "form"] (defScope s_Change_init) := ⟨rfl, rfl, rfl, by decide +kernel, rfl, by decide +kernel, by decide +kernel⟩
theorem ok_Ginit {c : Cs} {N_NoForm : Addr} {f : Addr} {fd : FuncData} (F : Fun K "__init__" "Change.__init__" s_Change_init f fd) (T : Txt K mg) (O : Own K mg "Change" c.g) (C_refuse_no_form : CalleeX P w K mg base 6 "refuse_no_form" ["thing"] (sp_refF K N_NoForm)) : FnOk P w K mg base (CXR P w) 7 f fd ["self", "form"] (sp_initG K c N_NoForm) := by
  refine F.okx sc_Change_init (fun vs H Q E h => ?_) (fun cdv A outer s H vs Q E hr h => ?_)
  · obtain ⟨a, dx, y, rfl, _⟩ := h
    rfl
  · obtain ⟨a, dx, y, rfl, ha, h⟩ := h
    refine ⟨_, qss_cons (qs_expr (qe_fnx C_refuse_no_form (hr.mono (by decide)) (passes_cx (fun _ _ _ h => h)) (qa_cons (qv 1) qa_nil)))
      (qss_one (qs_fldK K (qv 0) (qv 1))), ?_⟩
    walk_at "r"
    rcases h with ⟨t, ht, q⟩ | ⟨hb, x⟩
    · refine ⟨y, rfl, .inl ⟨t, ht, fun H1 s1 => ?_⟩⟩
      walk_at "r"
      refine ⟨_, rfl, _, rfl, a, c.g, dx, [], rfl, s1 _ _ ha, O.cl, O.nf, by simp, ?_⟩
      exact q H1 s1
    · exact ⟨y, rfl, .inr ⟨hb, fun H1 s1 => x H1 s1⟩⟩
end
end K21

set_option Elab.async false
set_option linter.all false
set_option maxRecDepth 100000
set_option maxHeartbeats 4000000
namespace K21
open PySem L2 K10
section
variable {P : Program} {w : World} {K : PySem.W.Frag} {mg : Str → Option Value} {base : Heap}
theorem sc_Cut_back : FnScope ["self", "form"] ["self", "form"] (defScope s_Cut_back) := ⟨rfl, rfl, rfl, by decide +kernel, rfl, by decide +kernel, by decide +kernel⟩
theorem ok_Cback {c : Cs} {ag N_NoDeed N_NoForm : Addr} {f : Addr} {fd : FuncData} (A : c.Apart) (F : Fun K "back" "Cut.back" s_Cut_back f fd) (T : Txt K mg) (M : MethX (CXR P w) P w K mg base 2 c.c "done" ["self", "form"] (sp_done K c ag N_NoDeed c.c)) (MK_Fill : MakeX (CXR P w) P w K mg base 7 "Fill" c.f ["self", "form"] (sp_initF K c N_NoForm)) : FnOk P w K mg base (CXR P w) 9 f fd ["self", "form"] (sp_back K c ag N_NoDeed c.c) := by
  refine F.okx sc_Cut_back (fun vs H Q E h => ?_) (fun cdv A' outer s H vs Q E hr h => ?_)
  · obtain ⟨x, d, y, t, rfl, _⟩ := h
    rfl
  · obtain ⟨x, d, y, t, rfl, hx, hc, hy, q, e⟩ := h
    obtain rfl := Dd.is_cut A hc
    have hx' := hx
    obtain ⟨a, dx, rfl, ha⟩ := hx
    refine ⟨_, qss_cons (qs_expr (qe_methD (k := 2) K (CXR P w) ["self", "form"] (qv 0) (hr.mono (by decide)) (passes_cx (fun _ _ _ h => h)) (qa_cons (qv 1) qa_nil)))
      (qss_one (qs_ret (qe_new MK_Fill (hr.mono (by decide)) (passes_cx (fun _ _ _ h => h)) (qa_cons (qv 1) qa_nil)))), ?_⟩
    walk_at "r"
    refine ⟨_, rfl, a, c.c, dx, _, _, rfl, ha, rfl, M, ?_⟩
    walk_at "r"
    refine ⟨_, .cut, y, t, rfl, hx', rfl, hy, fun z hz => ?_, fun hz => e hz H (Same.refl _)⟩
    have hw : t.wd ≠ "gap" := fun h => by rw [show doneV ag y t.wd .cut = none from if_pos h] at hz; cases hz
    walk_at "r"
    refine ⟨y, rfl, fun a1 d1 h1 h2 h3 => ?_⟩
    have s1 := Same.made (C := c.f) (fs := []) h1 h2 h3
    refine ⟨a1, d1, y, rfl, upd_same, .inl ⟨t, hy.same s1, fun _ H' s' => ⟨rfl, ?_⟩, fun h => absurd h hw⟩⟩
    exact q z hz _ _ ((s1.trans s').over h1) ⟨a1, d1, rfl, upd_same⟩
end
end K21

set_option Elab.async false
set_option linter.all false
set_option maxRecDepth 100000
set_option maxHeartbeats 4000000
namespace K21
open PySem L2 K10
section
variable {P : Program} {w : World} {K : PySem.W.Frag} {mg : Str → Option Value} {base : Heap}
theorem sc_Change_done : FnScope ["self", "form"] ["self", "form"] (defScope s_Change_done) := ⟨rfl, rfl, rfl, by decide +kernel, rfl, by decide +kernel, by decide +kernel⟩
theorem ok_Gdone {c : Cs} {ag ND : Addr} {f : Addr} {fd : FuncData} (A : c.Apart) (F : Fun K "done" "Change.done" s_Change_done f fd) (T : Txt K mg) (O : Own K mg "Change" c.g) : FnOk P w K mg base (CXR P w) 2 f fd ["self", "form"] (sp_done K c ag ND c.g) := by
  refine F.okx sc_Change_done (fun vs H Q E h => ?_) (fun cdv A' outer s H vs Q E hr h => ?_)
  · obtain ⟨x, d, y, t, rfl, _⟩ := h
    rfl
  · obtain ⟨x, d, y, t, rfl, hx, hc, hy, q, e⟩ := h
    obtain ⟨v, rfl⟩ := Dd.is_chg A hc
    obtain ⟨a, dx, rfl, ha⟩ := hx
    refine ⟨_, qss_one (qs_ret (qe_fldK K (qv 0))), ?_⟩
    walk_at "r"
    exact ⟨_, rfl, a, c.g, dx, _, v, rfl, ha, O.cl, O.nf, rfl, q v rfl⟩
end
end K21

set_option Elab.async false
set_option linter.all false
set_option maxRecDepth 100000
set_option maxHeartbeats 4000000
namespace K21
open PySem L2 K10
section
variable {P : Program} {w : World} {K : PySem.W.Frag} {mg : Str → Option Value} {base : Heap}
theorem sc_Change_back : FnScope ["self", "form"] ["self", "form"] (defScope s_Change_back) := ⟨rfl, rfl, rfl, by decide +kernel, rfl, by decide +kernel, by decide +kernel⟩
theorem ok_Gback {c : Cs} {ag N_NoDeed N_NoForm : Addr} {f : Addr} {fd : FuncData} (A : c.Apart) (F : Fun K "back" "Change.back" s_Change_back f fd) (T : Txt K mg) (MK_Change : MakeX (CXR P w) P w K mg base 7 "Change" c.g ["self", "form"] (sp_initG K c N_NoForm)) : FnOk P w K mg base (CXR P w) 9 f fd ["self", "form"] (sp_back K c ag N_NoDeed c.g) := by
  refine F.okx sc_Change_back (fun vs H Q E h => ?_) (fun cdv A' outer s H vs Q E hr h => ?_)
  · obtain ⟨x, d, y, t, rfl, _⟩ := h
    rfl
  · obtain ⟨x, d, y, t, rfl, hx, hc, hy, q, e⟩ := h
    obtain ⟨v, rfl⟩ := Dd.is_chg A hc
    refine ⟨_, qss_one (qs_ret (qe_new MK_Change (hr.mono (by decide)) (passes_cx (fun _ _ _ h => h)) (qa_cons (qv 1) qa_nil))), ?_⟩
    walk_at "r"
    refine ⟨y, rfl, fun a1 d1 h1 h2 h3 => ?_⟩
    have s1 := Same.made (C := c.g) (fs := []) h1 h2 h3
    refine ⟨a1, d1, y, rfl, upd_same, .inl ⟨t, hy.same s1, fun H' s' => ⟨rfl, ?_⟩⟩⟩
    exact q v rfl _ _ ((s1.trans s').over h1) ⟨a1, d1, rfl, upd_same⟩
end
end K21

set_option Elab.async false
set_option linter.all false
set_option maxRecDepth 100000
set_option maxHeartbeats 4000000
namespace K21
open PySem L2 K10
section
variable {P : Program} {w : World} {K : PySem.W.Frag} {mg : Str → Option Value} {base : Heap}
noncomputable def sp_class (K : PySem.W.Frag) (NF ND : Addr) : Sp := fun vs H Q _ => ∃ (a C : Addr) (od : Option Addr) (t : Str), vs = [.ref a] ∧ H a = some (exk a (.ref C) od) ∧ (∀ d, od = some d → ∃ fs, H d = some (.xd fs)) ∧ ((C = NF ∧ t = "form") ∨ (C = ND ∧ t = "deed")) ∧ ∀ (p : Addr) (H' : Hp), Same H H' → H' p = some (.lst [.bl true, .str t]) → Q (.ref p) H'
theorem sc_law_class : FnScope ["_law_e", "_law_found"] ["_law_e"] (defScope s_law_class) := ⟨rfl, rfl, rfl, by decide +kernel, rfl, by decide +kernel, by decide +kernel⟩
structure KdC (K : PySem.W.Frag) (mg : Str → Option Value) (NF ND NP : Addr) : Prop where
  nF : ExN K NF
  nD : ExN K ND
  gF : mg "NoForm" = some (.ref NF)
  gD : mg "NoDeed" = some (.ref ND)
  gP : mg "NoPlace" = some (.ref NP)
  vF : PySem.W.kitOne K (.ref NF) (.type "ValueError") = some true
  vD : PySem.W.kitOne K (.ref ND) (.type "ValueError") = some true
  fD : PySem.W.kitOne K (.ref NF) (.ref ND) = some false
  dF : PySem.W.kitOne K (.ref ND) (.ref NF) = some false
  fP : PySem.W.kitOne K (.ref NF) (.ref NP) = some false
  dP : PySem.W.kitOne K (.ref ND) (.ref NP) = some false
theorem ok_class {N_NoForm N_NoDeed N_NoPlace : Addr} {f : Addr} {fd : FuncData} (F : Fun K "_law_class" "_law_class" s_law_class f fd) (T : Txt K mg) (D : KdC K mg N_NoForm N_NoDeed N_NoPlace) : FnOkN P w K mg base 1 f fd ["_law_e"] (sp_class K N_NoForm N_NoDeed) := by
  have G_NoForm := D.gF
  have G_NoDeed := D.gD
  have G_NoPlace := D.gP
  refine F.okN sc_law_class (fun vs H Q E h => ?_) (fun cdv A outer s H vs Q E hr h => ?_)
  · obtain ⟨a, C, od, t, rfl, _⟩ := h
    rfl
  · obtain ⟨a, C, od, t, rfl, e, hd, hc, q⟩ := h
    refine ⟨_, qss_cons (qs_set (i := 1) sc_law_class.nd rfl (Or.inl rfl) (qe_lst (qa_cons (qe_callB (k_isYT (K := K) "ValueError") (by rfl) T.isinstance (by decide +kernel) (qa_cons (qv 0) (qa_cons (qe_bltn (v := .ty "ValueError") (by rfl) T.ValueError (by decide +kernel) rfl) qa_nil))) qa_nil)))
      (qss_cons (qs_if (qt_val (qe_callB (k_isY (K := K)) (by rfl) T.isinstance (by decide +kernel) (qa_cons (qv 0) (qa_cons (qe_glob (v := .ref N_NoForm) (by rfl) G_NoForm rfl) qa_nil)))) (qss_one (qs_expr (qe_bmK K PySem.F.plainAttrs_list PySem.F.slot_list_append PySem.F.type_list_append mt_append (qv 1) (qa_cons (qe_str) qa_nil)))) (qss_nil))
      (qss_cons (qs_if (qt_val (qe_callB (k_isY (K := K)) (by rfl) T.isinstance (by decide +kernel) (qa_cons (qv 0) (qa_cons (qe_glob (v := .ref N_NoDeed) (by rfl) G_NoDeed rfl) qa_nil)))) (qss_one (qs_expr (qe_bmK K PySem.F.plainAttrs_list PySem.F.slot_list_append PySem.F.type_list_append mt_append (qv 1) (qa_cons (qe_str) qa_nil)))) (qss_nil))
      (qss_cons (qs_if (qt_val (qe_callB (k_isY (K := K)) (by rfl) T.isinstance (by decide +kernel) (qa_cons (qv 0) (qa_cons (qe_glob (v := .ref N_NoPlace) (by rfl) G_NoPlace rfl) qa_nil)))) (qss_one (qs_expr (qe_bmK K PySem.F.plainAttrs_list PySem.F.slot_list_append PySem.F.type_list_append mt_append (qv 1) (qa_cons (qe_str) qa_nil)))) (qss_nil))
      (qss_one (qs_ret (qv 1)))))), ?_⟩
    walk_at "r"
    rcases hc with ⟨rfl, rfl⟩ | ⟨rfl, rfl⟩
    · refine ⟨a, _, od, _, rfl, e, hd, D.nF, D.vF, ?_⟩
      walk_at "r"
      refine ⟨by show 1 ≤ sizeLine; decide, fun p hp => ?_⟩
      have s1 := Same.upd (o := .lst [.bl true]) hp
      have e1 : upd H p (.lst [.bl true]) p = some (.lst [.bl true]) := upd_same
      have q1 : ∀ (H' : Hp), Same H H' → H' p = some (.lst [.bl true, .str "form"]) → Q (.ref p) H' := fun H' h => q p H' h
      have hd1 : ∀ d, od = some d → ∃ fs, upd H p (.lst [.bl true]) d = some (.xd fs) := fun d h => by obtain ⟨fs, z⟩ := hd d h; exact ⟨fs, s1 _ _ z⟩
      walk_at "r"
      refine ⟨a, _, _, od, true, rfl, s1 _ _ e, hd1, D.nF, kit_self, ?_⟩
      walk_at "r"
      refine s_tyL (SqL.of e1) ?_
      walk_at "r"
      refine s_app e1 (by decide) ?_
      have s2 : Same H (upd (upd H p (.lst [.bl true])) p (.lst ([.bl true] ++ [.str "form"]))) := s1.over hp
      have hd2 : ∀ d, od = some d → ∃ fs, upd (upd H p (.lst [.bl true])) p (.lst ([.bl true] ++ [.str "form"])) d = some (.xd fs) := fun d h => by obtain ⟨fs, z⟩ := hd d h; exact ⟨fs, s2 _ _ z⟩
      walk_at "r"
      refine ⟨a, _, _, od, false, rfl, s2 _ _ e, hd2, D.nF, D.fD, ?_⟩
      walk_at "r"
      refine ⟨a, _, _, od, false, rfl, s2 _ _ e, hd2, D.nF, D.fP, ?_⟩
      walk_at "r"
      exact q1 _ s2 upd_same
    · refine ⟨a, _, od, _, rfl, e, hd, D.nD, D.vD, ?_⟩
      walk_at "r"
      refine ⟨by show 1 ≤ sizeLine; decide, fun p hp => ?_⟩
      have s1 := Same.upd (o := .lst [.bl true]) hp
      have e1 : upd H p (.lst [.bl true]) p = some (.lst [.bl true]) := upd_same
      have q1 : ∀ (H' : Hp), Same H H' → H' p = some (.lst [.bl true, .str "deed"]) → Q (.ref p) H' := fun H' h => q p H' h
      have hd1 : ∀ d, od = some d → ∃ fs, upd H p (.lst [.bl true]) d = some (.xd fs) := fun d h => by obtain ⟨fs, z⟩ := hd d h; exact ⟨fs, s1 _ _ z⟩
      walk_at "r"
      refine ⟨a, _, _, od, false, rfl, s1 _ _ e, hd1, D.nD, D.dF, ?_⟩
      walk_at "r"
      refine ⟨a, _, _, od, true, rfl, s1 _ _ e, hd1, D.nD, kit_self, ?_⟩
      walk_at "r"
      refine s_tyL (SqL.of e1) ?_
      walk_at "r"
      refine s_app e1 (by decide) ?_
      have s2 : Same H (upd (upd H p (.lst [.bl true])) p (.lst ([.bl true] ++ [.str "deed"]))) := s1.over hp
      have hd2 : ∀ d, od = some d → ∃ fs, upd (upd H p (.lst [.bl true])) p (.lst ([.bl true] ++ [.str "deed"])) d = some (.xd fs) := fun d h => by obtain ⟨fs, z⟩ := hd d h; exact ⟨fs, s2 _ _ z⟩
      walk_at "r"
      refine ⟨a, _, _, od, false, rfl, s2 _ _ e, hd2, D.nD, D.dP, ?_⟩
      walk_at "r"
      exact q1 _ s2 upd_same
end
end K21

set_option Elab.async false
set_option linter.all false
set_option maxRecDepth 100000
set_option maxHeartbeats 4000000
namespace K21
open PySem L2 K10
section
variable {P : Program} {w : World} {K : PySem.W.Frag} {mg : Str → Option Value} {base : Heap}
noncomputable def Told (H : Hp) (v : V) (t : Str) : Prop := ∃ p, v = .ref p ∧ H p = some (.lst [.bl true, .str t])
theorem Told.same {H H' : Hp} {v : V} {t : Str} (h : Told H v t) (e : Same H H') : Told H' v t := by
  obtain ⟨p, h1, h2⟩ := h
  exact ⟨p, h1, e _ _ h2⟩
noncomputable def sp_ldone (K : PySem.W.Frag) (c : Cs) (ag : Addr) : Sp := fun vs H Q _ => ∃ x d y t, vs = [x, y] ∧ DdAt c H x d ∧ FF K H y t ∧ (∀ v, doneV ag y t.wd d = some v → Q v H) ∧ (doneV ag y t.wd d = none → ∀ v H', Same H H' → Told H' v "deed" → Q v H')
theorem sc_law_done : FnScope ["_law_deed", "_law_form_here", "_law_told", "_law_e"] ["_law_deed", "_law_form_here"] (defScope s_law_done) := ⟨rfl, rfl, rfl, by decide +kernel, rfl, by decide +kernel, by decide +kernel⟩
theorem ok_ldone {c : Cs} {ag N_NoForm N_NoDeed N_GapError : Addr} {f : Addr} {fd : FuncData} (F : Fun K "_law_done" "_law_done" s_law_done f fd) (T : Txt K mg) (M : ∀ d : Dd, MethX (CXR P w) P w K mg base 2 (d.cls c) "done" ["self", "form"] (sp_done K c ag N_NoDeed (d.cls c))) (C__law_class : CalleeN P w K mg base 1 "_law_class" ["_law_e"] (sp_class K N_NoForm N_NoDeed))
    (X_GapError : ExcC K N_GapError) (G_GapError : mg "GapError" = some (.ref N_GapError)) (hsub : PySem.W.subIn K (.ref N_NoDeed) (.ref N_GapError) = some true) : FnOk P w K mg base CX0 3 f fd ["_law_deed", "_law_form_here"] (sp_ldone K c ag) := by
  refine F.okq sc_law_done (fun vs H Q E h => ?_) (fun cdv A outer s H vs Q E hr h => ?_)
  · obtain ⟨x, d, y, t, rfl, _⟩ := h
    rfl
  · obtain ⟨x, d, y, t, rfl, hx, hy, q, e⟩ := h
    have hx' := hx
    obtain ⟨a, dx, rfl, ha⟩ := hx
    have nl : d.fs.lookup ("done" : Str) = none := by cases d <;> rfl
    refine ⟨_, qss_cons (qs_set (i := 2) sc_law_done.nd rfl (Or.inl rfl) (qe_non))
      (qss_cons (qs_tryM (i := 3) sc_law_done.nd rfl rfl X_GapError G_GapError rfl rfl (qxs_set (i := 2) sc_law_done.nd rfl (Or.inl rfl) (qx_methD (k := 2) K ["self", "form"] (fun _ => qv 0) (hr.mono (by decide)) (fun _ => qa_cons (qv 1) qa_nil))) (fun _ _ => qss_one (qs_set (i := 2) sc_law_done.nd rfl (Or.inl rfl) (qe_fnN C__law_class (RoomN.mark (RoomN.mono (Room.n hr) (by decide)) _) (qa_cons (qv 3) qa_nil)))))
      (qss_one (qs_ret (qv 2)))), ?_⟩
    walk_at "r"
    refine ⟨_, rfl, a, d.cls c, dx, _, _, rfl, ha, nl, M d, ?_⟩
    refine ⟨_, rfl, ?_⟩
    refine ⟨_, d, y, t, rfl, hx', rfl, hy, fun v hv => ?_, fun hv => ⟨⟨N_NoDeed, rfl, hsub⟩, fun a1 ha1 => ?_⟩⟩
    · walk_at "r"
      exact q v hv
    · walk_at "r"
      refine ⟨a1, N_NoDeed, none, "deed", rfl, upd_same, (fun d hd => nomatch hd), .inr ⟨rfl, rfl⟩, fun p1 H1 s1 f1 => ?_⟩
      walk_at "r"
      dsimp only [Ends.gone]
      walk_at "r"
      exact e hv _ _ ((Same.upd ha1).trans s1) ⟨p1, rfl, f1⟩
end
end K21

set_option Elab.async false
set_option linter.all false
set_option maxRecDepth 100000
set_option maxHeartbeats 4000000
namespace K21
open PySem L2 K10
section
variable {P : Program} {w : World} {K : PySem.W.Frag} {mg : Str → Option Value} {base : Heap}
noncomputable def sp_lback (K : PySem.W.Frag) (c : Cs) (ag : Addr) : Sp := fun vs H Q _ => ∃ x d y t, vs = [x, y] ∧ DdAt c H x d ∧ FF K H y t ∧ (∀ v, doneV ag y t.wd d = some v → ∀ x H1, Same H H1 → DdAt c H1 x (backV y d) → Q x H1) ∧ (doneV ag y t.wd d = none → ∀ v H', Same H H' → Told H' v "deed" → Q v H')
theorem sc_law_back : FnScope ["_law_deed", "_law_form_here", "_law_told", "_law_e"] ["_law_deed", "_law_form_here"] (defScope s_law_back) := ⟨rfl, rfl, rfl, by decide +kernel, rfl, by decide +kernel, by decide +kernel⟩
theorem ok_lback {c : Cs} {ag N_NoForm N_NoDeed N_GapError : Addr} {f : Addr} {fd : FuncData} (F : Fun K "_law_back" "_law_back" s_law_back f fd) (T : Txt K mg) (M : ∀ d : Dd, MethX (CXR P w) P w K mg base 9 (d.cls c) "back" ["self", "form"] (sp_back K c ag N_NoDeed (d.cls c))) (C__law_class : CalleeN P w K mg base 1 "_law_class" ["_law_e"] (sp_class K N_NoForm N_NoDeed))
    (X_GapError : ExcC K N_GapError) (G_GapError : mg "GapError" = some (.ref N_GapError)) (hsub : PySem.W.subIn K (.ref N_NoDeed) (.ref N_GapError) = some true) : FnOk P w K mg base CX0 10 f fd ["_law_deed", "_law_form_here"] (sp_lback K c ag) := by
  refine F.okq sc_law_back (fun vs H Q E h => ?_) (fun cdv A outer s H vs Q E hr h => ?_)
  · obtain ⟨x, d, y, t, rfl, _⟩ := h
    rfl
  · obtain ⟨x, d, y, t, rfl, hx, hy, q, e⟩ := h
    have hx' := hx
    obtain ⟨a, dx, rfl, ha⟩ := hx
    have nl : d.fs.lookup ("back" : Str) = none := by cases d <;> rfl
    refine ⟨_, qss_cons (qs_set (i := 2) sc_law_back.nd rfl (Or.inl rfl) (qe_non))
      (qss_cons (qs_tryM (i := 3) sc_law_back.nd rfl rfl X_GapError G_GapError rfl rfl (qxs_set (i := 2) sc_law_back.nd rfl (Or.inl rfl) (qx_methD (k := 9) K ["self", "form"] (fun _ => qv 0) (hr.mono (by decide)) (fun _ => qa_cons (qv 1) qa_nil))) (fun _ _ => qss_one (qs_set (i := 2) sc_law_back.nd rfl (Or.inl rfl) (qe_fnN C__law_class (RoomN.mark (RoomN.mono (Room.n hr) (by decide)) _) (qa_cons (qv 3) qa_nil)))))
      (qss_one (qs_ret (qv 2)))), ?_⟩
    walk_at "r"
    refine ⟨_, rfl, a, d.cls c, dx, _, _, rfl, ha, nl, M d, ?_⟩
    refine ⟨_, rfl, ?_⟩
    refine ⟨_, d, y, t, rfl, hx', rfl, hy, fun v hv x1 H1 s1 hd1 => ?_, fun hv H0 s0 => ⟨⟨N_NoDeed, rfl, hsub⟩, fun a1 ha1 => ?_⟩⟩
    · walk_at "r"
      exact q v hv x1 H1 s1 hd1
    · walk_at "r"
      refine ⟨a1, N_NoDeed, none, "deed", rfl, upd_same, (fun d hd => nomatch hd), .inr ⟨rfl, rfl⟩, fun p1 H1 s1 f1 => ?_⟩
      walk_at "r"
      dsimp only [Ends.gone]
      walk_at "r"
      exact e hv _ _ (s0.trans ((Same.upd ha1).trans s1)) ⟨p1, rfl, f1⟩
end
end K21

set_option Elab.async false
set_option linter.all false
set_option maxRecDepth 100000
set_option maxHeartbeats 4000000
namespace K21
open PySem L2 K10
section
variable {P : Program} {w : World} {K : PySem.W.Frag} {mg : Str → Option Value} {base : Heap}
noncomputable def mkV (b : Bool) (y : V) : Dd := if b then .fill y else .chg y
noncomputable def sp_made (K : PySem.W.Frag) (c : Cs) : Sp := fun vs H Q _ => ∃ y b, vs = [y, .bl b] ∧ ((∃ t, FF K H y t ∧ (¬ (b = true ∧ t.wd = "gap") → ∀ x H', Same H H' → DdAt c H' x (mkV b y) → Q x H') ∧ ((b = true ∧ t.wd = "gap") → ∀ v H', Same H H' → Told H' v "form" → Q v H')) ∨ (NoF K H y ∧ ∀ v H', Same H H' → Told H' v "form" → Q v H'))
theorem sc_law_made : FnScope ["_law_form_here", "_law_fill", "_law_told", "_law_e"] ["_law_form_here", "_law_fill"] (defScope s_law_made) := ⟨rfl, rfl, rfl, by decide +kernel, rfl, by decide +kernel, by decide +kernel⟩
theorem ok_made {c : Cs} {N_NoForm N_NoDeed N_GapError : Addr} {f : Addr} {fd : FuncData} (F : Fun K "_law_made" "_law_made" s_law_made f fd) (T : Txt K mg) (MK_Fill : MakeX (CXR P w) P w K mg base 7 "Fill" c.f ["self", "form"] (sp_initF K c N_NoForm)) (MK_Change : MakeX (CXR P w) P w K mg base 7 "Change" c.g ["self", "form"] (sp_initG K c N_NoForm)) (C__law_class : CalleeN P w K mg base 1 "_law_class" ["_law_e"] (sp_class K N_NoForm N_NoDeed))
    (X_GapError : ExcC K N_GapError) (G_GapError : mg "GapError" = some (.ref N_GapError)) (hsub : PySem.W.subIn K (.ref N_NoForm) (.ref N_GapError) = some true) : FnOk P w K mg base CX0 10 f fd ["_law_form_here", "_law_fill"] (sp_made K c) := by
  refine F.okq sc_law_made (fun vs H Q E h => ?_) (fun cdv A outer s H vs Q E hr h => ?_)
  · obtain ⟨y, b, rfl, _⟩ := h
    rfl
  · obtain ⟨y, b, rfl, h⟩ := h
    refine ⟨_, qss_cons (qs_set (i := 2) sc_law_made.nd rfl (Or.inl rfl) (qe_non))
      (qss_cons (qs_tryM (i := 3) sc_law_made.nd rfl rfl X_GapError G_GapError rfl rfl (qxs_if (fun _ => qt_truthK K (qv 1) (by intro _; rfl)) (qxs_set (i := 2) sc_law_made.nd rfl (Or.inl rfl) (qx_new MK_Fill (hr.mono (by decide)) (fun _ => qa_cons (qv 0) qa_nil))) (qxs_set (i := 2) sc_law_made.nd rfl (Or.inl rfl) (qx_new MK_Change (hr.mono (by decide)) (fun _ => qa_cons (qv 0) qa_nil)))) (fun _ _ => qss_one (qs_set (i := 2) sc_law_made.nd rfl (Or.inl rfl) (qe_fnN C__law_class (RoomN.mark (RoomN.mono (Room.n hr) (by decide)) _) (qa_cons (qv 3) qa_nil)))))
      (qss_one (qs_ret (qv 2)))), ?_⟩
    walk_at "r"
    cases b with
    | true =>
      refine ⟨_, rfl, true, rfl, ?_⟩
      refine ⟨y, rfl, fun a1 d1 h1 h2 h3 => ?_⟩
      have s1 := Same.made (C := c.f) (fs := []) h1 h2 h3
      rcases h with ⟨t, ht, q, x⟩ | ⟨hb, x⟩
      · refine ⟨a1, d1, y, rfl, upd_same, .inl ⟨t, ht.same s1, fun hw H' s' => ⟨rfl, ?_⟩, fun hw H0 s0 => ⟨⟨N_NoForm, rfl, hsub⟩, fun a2 ha2 => ?_⟩⟩⟩
        · walk_at "r"
          exact q (fun h => hw h.2) _ _ ((s1.trans s').over h1) ⟨a1, d1, rfl, upd_same⟩
        · walk_at "r"
          refine ⟨a2, N_NoForm, none, "form", rfl, upd_same, (fun d hd => nomatch hd), .inl ⟨rfl, rfl⟩, fun p1 H1 s2 f1 => ?_⟩
          walk_at "r"
          dsimp only [Ends.gone]
          walk_at "r"
          exact x ⟨rfl, hw⟩ _ _ (s1.trans (s0.trans ((Same.upd ha2).trans s2))) ⟨p1, rfl, f1⟩
      · refine ⟨a1, d1, y, rfl, upd_same, .inr ⟨hb.same s1, fun H0 s0 => ⟨⟨N_NoForm, rfl, hsub⟩, fun a2 ha2 => ?_⟩⟩⟩
        walk_at "r"
        refine ⟨a2, N_NoForm, none, "form", rfl, upd_same, (fun d hd => nomatch hd), .inl ⟨rfl, rfl⟩, fun p1 H1 s2 f1 => ?_⟩
        walk_at "r"
        dsimp only [Ends.gone]
        walk_at "r"
        exact x _ _ (s1.trans (s0.trans ((Same.upd ha2).trans s2))) ⟨p1, rfl, f1⟩
    | false =>
      refine ⟨_, rfl, false, rfl, ?_⟩
      refine ⟨y, rfl, fun a1 d1 h1 h2 h3 => ?_⟩
      have s1 := Same.made (C := c.g) (fs := []) h1 h2 h3
      rcases h with ⟨t, ht, q, x⟩ | ⟨hb, x⟩
      · refine ⟨a1, d1, y, rfl, upd_same, .inl ⟨t, ht.same s1, fun H' s' => ⟨rfl, ?_⟩⟩⟩
        walk_at "r"
        exact q (fun h => nomatch h.1) _ _ ((s1.trans s').over h1) ⟨a1, d1, rfl, upd_same⟩
      · refine ⟨a1, d1, y, rfl, upd_same, .inr ⟨hb.same s1, fun H0 s0 => ⟨⟨N_NoForm, rfl, hsub⟩, fun a2 ha2 => ?_⟩⟩⟩
        walk_at "r"
        refine ⟨a2, N_NoForm, none, "form", rfl, upd_same, (fun d hd => nomatch hd), .inl ⟨rfl, rfl⟩, fun p1 H1 s2 f1 => ?_⟩
        walk_at "r"
        dsimp only [Ends.gone]
        walk_at "r"
        exact x _ _ (s1.trans (s0.trans ((Same.upd ha2).trans s2))) ⟨p1, rfl, f1⟩
end
end K21

set_option Elab.async false
set_option linter.all false
set_option maxRecDepth 100000
set_option maxHeartbeats 4000000
namespace K21
open PySem L2 K10
section
variable {P : Program} {w : World} {K : PySem.W.Frag} {mg : Str → Option Value} {base : Heap}
mutual
noncomputable def trD : Tr → Dt
  | .mk w n ps => .tup [.flat (.str w), n, .tup (trDs ps)]
noncomputable def trDs : List Tr → List Dt
  | [] => []
  | t :: r => trD t :: trDs r
end
theorem trDs_len : ∀ ts : List Tr, (trDs ts).length = ts.length
  | [] => by rw [trDs]; rfl
  | t :: r => by rw [trDs, List.length_cons, trDs_len r, List.length_cons]
theorem trDs_get : ∀ (ts : List Tr) (j : Nat), (trDs ts)[j]? = (ts[j]?).map trD
  | [], j => by rw [trDs]; simp
  | t :: r, 0 => by rw [trDs]; simp
  | t :: r, j + 1 => by rw [trDs, List.getElem?_cons_succ, List.getElem?_cons_succ, trDs_get r j]
theorem size_get : ∀ {ts : List Tr} {j : Nat} {t : Tr}, ts[j]? = some t → t.size ≤ sizes ts
  | [], j, t, h => by simp at h
  | x :: r, 0, t, h => by simp at h; subst h; rw [sizes]; omega
  | x :: r, j + 1, t, h => by have := size_get (ts := r) (j := j) (by simpa using h); rw [sizes]; omega
theorem tr_isD {K : PySem.W.Frag} {H : Hp} {v : V} {t : Tr} (h : TrAt K H v t) : ∀ {n : Nat}, 2 * t.size ≤ n → IsD K H n v (trD t) := by
  induction h with
  | @mk a p wd nv nt vs ts q hn qp l hc ih =>
    intro n hd
    rw [Tr.size] at hd
    obtain ⟨m, rfl⟩ : ∃ m, n = m + 1 + 1 := ⟨n - 2, by omega⟩
    rw [trD]
    refine .tup q rfl fun j v d f1 f2 => ?_
    match j, f1, f2 with
    | 0, f1, f2 => cases f1; cases f2; exact .flat rfl
    | 1, f1, f2 => cases f1; cases f2; exact hn.d.up (by omega)
    | 2, f1, f2 =>
      cases f1; cases f2
      refine .tup qp (by rw [trDs_len]; exact l) fun j v d f1 f2 => ?_
      rw [trDs_get] at f2
      cases e : ts[j]? with
      | none => rw [e] at f2; cases f2
      | some t =>
        rw [e] at f2
        cases f2
        have := size_get e
        exact ih j v t f1 e (by omega)
theorem told_isD {K : PySem.W.Frag} {H : Hp} {p : Addr} {t : Str} (h : H p = some (.lst [.bl true, .str t])) : IsD K H 1 (.ref p) (.lst [.flat (.bl true), .flat (.str t)]) := by
  refine .lst (SqL.of h) rfl fun j v d f1 f2 => ?_
  match j, f1, f2 with
  | 0, f1, f2 => cases f1; cases f2; exact .flat rfl
  | 1, f1, f2 => cases f1; cases f2; exact .flat rfl
theorem tr_ref {K : PySem.W.Frag} {H : Hp} {v : V} {t : Tr} (h : TrAt K H v t) : ∃ (a p : Addr) (n : V), v = .ref a ∧ SqT K H a [.str t.wd, n, .ref p] := by
  cases h with
  | mk q hn qp l hs => exact ⟨_, _, _, rfl, q⟩
theorem not_ref {K : PySem.W.Frag} {H : Hp} {v : V} {t : Tr} (h : TrAt K H v t) : ∃ a, v = .ref a := by
  obtain ⟨a, _, _, e, _⟩ := tr_ref h
  exact ⟨a, e⟩
noncomputable def sp_fits (K : PySem.W.Frag) (c : Cs) (ag : Addr) : Sp := fun vs H Q _ => ∃ x d y t z u v v2, vs = [x, y, z] ∧ DdAt c H x d ∧ FF K H y t ∧ FF K H z u ∧ doneV ag y t.wd d = some v ∧ TrAt K H v u ∧ doneV ag z u.wd (backV y d) = some v2 ∧ TrAt K H v2 t ∧ ∀ H', Same H H' → Q (.bl true) H'
theorem sc_law_fits : FnScope ["_law_deed", "_law_form_here", "_law_due", "_law_k", "_law_found", "_law_back_here"] ["_law_deed", "_law_form_here", "_law_due"] (defScope s_law_fits) := ⟨rfl, rfl, rfl, by decide +kernel, rfl, by decide +kernel, by decide +kernel⟩
theorem ok_fits {c : Cs} {ag : Addr} {f : Addr} {fd : FuncData} (F : Fun K "_law_fits" "_law_fits" s_law_fits f fd) (T : Txt K mg) (L : Kl K mg c) (C__law_done : Callee P w K mg base 3 "_law_done" ["_law_deed", "_law_form_here"] (sp_ldone K c ag)) (C__law_back : Callee P w K mg base 10 "_law_back" ["_law_deed", "_law_form_here"] (sp_lback K c ag)) : FnOk P w K mg base CX0 11 f fd ["_law_deed", "_law_form_here", "_law_due"] (sp_fits K c ag) := by
  refine F.okq sc_law_fits (fun vs H Q E h => ?_) (fun cdv A outer s H vs Q E hr h => ?_)
  · obtain ⟨x, d, y, t, z, u, v, v2, rfl, _⟩ := h
    rfl
  · obtain ⟨x, d, y, t, z, u, v, v2, rfl, hx, hy, hz, hv, tv, hv2, tv2, q⟩ := h
    obtain ⟨N_Deed, eD⟩ : ∃ N, N = c.d := ⟨_, rfl⟩
    have G_Deed : mg "Deed" = some (.ref N_Deed) := by rw [eD]; exact L.od.at_
    have kd : ∀ d : Dd, PySem.W.kitOne K (.ref (d.cls c)) (.ref N_Deed) = some true := fun d => by rw [eD]; exact L.deed d
    refine ⟨_, qss_cons (qs_if (qt_not (qt_val (qe_callB (k_isI (K := K)) (by rfl) T.isinstance (by decide +kernel) (qa_cons (qv 0) (qa_cons (qe_glob (v := .ref N_Deed) (by rfl) G_Deed rfl) qa_nil))))) (qss_one (qs_ret (qe_bl))) (qss_nil))
      (qss_cons (qs_for PassesOwn.never rfl (qi_range1 rfl T.range (qa_cons (qe_int) qa_nil)) (qg_name (i := 3) sc_law_fits.nd rfl (Or.inl rfl)) (qss_cons (qs_set (i := 4) sc_law_fits.nd rfl (Or.inl rfl) (qe_fn C__law_done (hr.mono (by decide)) (qa_cons (qv 0) (qa_cons (qv 1) qa_nil))))
      (qss_cons (qs_set (i := 5) sc_law_fits.nd rfl (Or.inl rfl) (qe_fn C__law_back (hr.mono (by decide)) (qa_cons (qv 0) (qa_cons (qv 1) qa_nil))))
      (qss_cons (qs_if (QW.qt (qw_or (qt_not (qt_val (qe_callB (k_isi K "tuple") (by rfl) T.isinstance (by decide +kernel) (qa_cons (qv 4) (qa_cons (qe_bltn (v := .ty "tuple") (by rfl) T.tuple (by decide +kernel) rfl) qa_nil))))) (qw_or (qt_cmpR (k_ne K hr.u200) (qv 4) (qv 2) (nomark _)) (qw_or1 (qt_not (qt_val (qe_callB (k_isI (K := K)) (by rfl) T.isinstance (by decide +kernel) (qa_cons (qv 5) (qa_cons (qe_glob (v := .ref N_Deed) (by rfl) G_Deed rfl) qa_nil))))))))) (qss_one (qs_ret (qe_bl))) (qss_nil))
      (qss_one (qs_if (qt_cmpR (k_ne K hr.u200) (qe_fn C__law_done (hr.mono (by decide)) (qa_cons (qv 5) (qa_cons (qv 2) qa_nil))) (qv 1) (nomark _)) (qss_one (qs_ret (qe_bl))) (qss_nil)))))))
      (qss_one (qs_ret (qe_bl)))), ?_⟩
    walk_at "r"
    refine s_isI (b := true) (L.ty hx) (kd d) ?_
    walk_at "r"
    refine ⟨by decide, by decide, ?_⟩
    refine for_range (n := (2 : Int).toNat) (fun i σ H' => ∃ v3 v4 v5, σ = [some x, some y, some z, v3, v4, v5] ∧ Same H H') ⟨_, _, _, rfl, Same.refl _⟩ ?_ ?_
    · rintro i σ H1 hi ⟨v3, v4, v5, rfl, s1⟩
      walk_at "r"
      refine ⟨x, d, y, t, rfl, hx.same s1, hy.same s1, fun v' e' => ?_, fun e' => by rw [hv] at e'; cases e'⟩
      rw [hv] at e'
      cases e'
      walk_at "r"
      refine ⟨x, d, y, t, rfl, hx.same s1, hy.same s1, fun v' e' x' H2 s2 hd' => ?_, fun e' => by rw [hv] at e'; cases e'⟩
      have s02 := s1.trans s2
      have tv' := tv.same s02
      have hz' := hz.same s02
      have tv2' := tv2.same s02
      have hy' := hy.same s02
      obtain ⟨ra, rp, rn, er, qr⟩ := tr_ref tv'
      subst er
      obtain ⟨za, ez⟩ := not_ref hz'.1
      obtain ⟨ya, ey⟩ := not_ref hy'.1
      obtain ⟨wa, ew⟩ := not_ref tv2'
      subst ez ey ew
      walk_at "r"
      refine s_isiT (b := true) qr kit_same ?_
      walk_at "r"
      refine s_neD (n := 190) (Nat.le_refl _) (tr_isD tv' (by have := hz.2.2; omega)) (tr_isD hz'.1 (by have := hz.2.2; omega)) ?_
      walk_at "r"
      refine s_isI (b := true) (L.ty hd') (kd _) ?_
      walk_at "r"
      refine ⟨x', _, _, u, rfl, hd', hz', fun v' e' => ?_, fun e' => by rw [hv2] at e'; cases e'⟩
      rw [hv2] at e'
      cases e'
      walk_at "r"
      refine s_neD (n := 190) (Nat.le_refl _) (tr_isD tv2' (by have := hy.2.2; omega)) (tr_isD hy'.1 (by have := hy.2.2; omega)) ?_
      walk_at "r"
      exact ⟨_, _, _, rfl, s02⟩
    · rintro σ H1 ⟨v3, v4, v5, rfl, s1⟩
      walk_at "r"
      exact q H1 s1
end
end K21

set_option Elab.async false
set_option linter.all false
set_option maxRecDepth 100000
set_option maxHeartbeats 4000000
namespace K21
open PySem L2 K10
section
variable {P : Program} {w : World} {K : PySem.W.Frag} {mg : Str → Option Value} {base : Heap}
noncomputable def sp_nodeed (K : PySem.W.Frag) (c : Cs) (ag : Addr) : Sp := fun vs H Q _ => ∃ x d y t, vs = [x, y] ∧ DdAt c H x d ∧ FF K H y t ∧ doneV ag y t.wd d = none ∧ ∀ H', Same H H' → Q (.bl true) H'
theorem sc_law_no_deed : FnScope ["_law_deed", "_law_form_here"] ["_law_deed", "_law_form_here"] (defScope s_law_no_deed) := ⟨rfl, rfl, rfl, by decide +kernel, rfl, by decide +kernel, by decide +kernel⟩
theorem ok_nodeed {c : Cs} {ag : Addr} {f : Addr} {fd : FuncData} (F : Fun K "_law_no_deed" "_law_no_deed" s_law_no_deed f fd) (T : Txt K mg) (C__law_done : Callee P w K mg base 3 "_law_done" ["_law_deed", "_law_form_here"] (sp_ldone K c ag)) (C__law_back : Callee P w K mg base 10 "_law_back" ["_law_deed", "_law_form_here"] (sp_lback K c ag)) : FnOk P w K mg base CX0 11 f fd ["_law_deed", "_law_form_here"] (sp_nodeed K c ag) := by
  refine F.okq sc_law_no_deed (fun vs H Q E h => ?_) (fun cdv A outer s H vs Q E hr h => ?_)
  · obtain ⟨x, d, y, t, rfl, _⟩ := h
    rfl
  · obtain ⟨x, d, y, t, rfl, hx, hy, hn, q⟩ := h
    refine ⟨_, qss_one (qs_ret (qe_and (qe_cmpR (k_eq K hr.u200) (qe_fn C__law_done (hr.mono (by decide)) (qa_cons (qv 0) (qa_cons (qv 1) qa_nil))) (qe_lst (qa_cons (qe_bl) (qa_cons (qe_str) qa_nil))) (nomark _)) (qe_one (qe_cmpR (k_eq K hr.u200) (qe_fn C__law_back (hr.mono (by decide)) (qa_cons (qv 0) (qa_cons (qv 1) qa_nil))) (qe_lst (qa_cons (qe_bl) (qa_cons (qe_str) qa_nil))) (nomark _))))), ?_⟩
    walk_at "r"
    refine ⟨x, d, y, t, rfl, hx, hy, (fun v e => by rw [hn] at e; cases e), fun _ v1 H1 s1 h1 => ?_⟩
    obtain ⟨p1, rfl, e1⟩ := h1
    walk_at "r"
    refine ⟨by show 2 ≤ sizeLine; decide, fun p2 hp2 => ?_⟩
    have s2 := Same.upd (o := .lst [.bl true, .str "deed"]) hp2
    refine s_eqD (n := 1) (by decide) (told_isD (s2 _ _ e1)) (told_isD upd_same) ?_
    have s02 := s1.trans s2
    walk_at "r"
    refine ⟨x, d, y, t, rfl, hx.same s02, hy.same s02, (fun v e => by rw [hn] at e; cases e), fun _ v3 H3 s3 h3 => ?_⟩
    obtain ⟨p3, rfl, e3⟩ := h3
    walk_at "r"
    refine ⟨by show 2 ≤ sizeLine; decide, fun p4 hp4 => ?_⟩
    have s4 := Same.upd (o := .lst [.bl true, .str "deed"]) hp4
    refine s_eqD (n := 1) (by decide) (told_isD (s4 _ _ e3)) (told_isD upd_same) ?_
    exact q _ (s02.trans (s3.trans s4))
end
end K21

set_option Elab.async false
set_option linter.all false
set_option maxRecDepth 100000
set_option maxHeartbeats 4000000
namespace K21
open PySem L2 K10
section
variable {P : Program} {w : World} {K : PySem.W.Frag} {mg : Str → Option Value} {base : Heap}
inductive At : Tr → List Nat → Tr → Prop where
  | nil (t : Tr) : At t [] t
  | cons {w : Str} {n : Dt} {ts : List Tr} {j : Nat} {t u : Tr} {r : List Nat} (h : ts[j]? = some t) (s : At t r u) : At (.mk w n ts) (j :: r) u
mutual
theorem walk_At : ∀ (t : Tr) (x : List Nat × Tr), x ∈ walk [] t → At t x.1 x.2
  | .mk w n ps, x, h => by
    rw [walk] at h
    rcases List.mem_cons.mp h with rfl | h
    · exact .nil _
    · obtain ⟨j, t, r, e1, e2, e3⟩ := walks_At 0 ps x h
      rw [e2, Nat.zero_add]
      exact .cons e1 e3
theorem walks_At : ∀ (i : Nat) (ts : List Tr) (x : List Nat × Tr), x ∈ walks [] i ts → ∃ (j : Nat) (t : Tr) (r : List Nat), ts[j]? = some t ∧ x.1 = (i + j) :: r ∧ At t r x.2
  | _, [], x, h => by rw [walks] at h; cases h
  | i, t :: q, x, h => by
    rw [walks] at h
    rcases List.mem_append.mp h with h | h
    · rw [walk_at_pl] at h
      obtain ⟨y, hy, rfl⟩ := List.mem_map.mp h
      exact ⟨0, t, y.1, rfl, rfl, walk_At t y hy⟩
    · obtain ⟨j, t', r, e1, e2, e3⟩ := walks_At (i + 1) q x h
      exact ⟨j + 1, t', r, by simpa using e1, by rw [e2]; congr 1; omega, e3⟩
end
theorem At.det {t u u' : Tr} {pl : List Nat} (h : At t pl u) (h' : At t pl u') : u = u' := by
  induction h with
  | nil t => cases h'; rfl
  | cons e _ ih =>
    cases h' with
    | cons e' s' =>
      rw [e] at e'
      cases e'
      exact ih s'
theorem At.split {t u : Tr} : ∀ {a b : List Nat}, At t (a ++ b) u → ∃ m, At t a m ∧ At m b u := by
  intro a
  induction a generalizing t with
  | nil => intro b h; exact ⟨t, .nil _, h⟩
  | cons j r ih =>
    intro b h
    cases h with
    | cons e s =>
      obtain ⟨m, h1, h2⟩ := ih s
      exact ⟨m, .cons e h1, h2⟩
theorem At.app {t m u : Tr} {a b : List Nat} (h : At t a m) (h' : At m b u) : At t (a ++ b) u := by
  induction h with
  | nil t => exact h'
  | cons e _ ih => exact .cons e (ih h')
theorem At.ok {t u : Tr} {pl : List Nat} (h : At t pl u) : TrOk t → TrOk u ∧ u.size ≤ t.size := by
  induction h with
  | nil t => exact fun o => ⟨o, Nat.le_refl _⟩
  | cons e _ ih =>
    intro o
    cases o with
    | mk _ _ _ hs =>
      have h1 := ih (hs _ (List.mem_of_getElem? e))
      have h2 := sizes_get e
      rw [Tr.size]
      exact ⟨h1.1, by omega⟩
theorem At.step {t u : Tr} {pl : List Nat} (h : At t pl u) {k j : Nat} (hk : pl[k]? = some j) : ∃ (w : Str) (n : Dt) (ts : List Tr) (m : Tr), At t (pl.take k) (.mk w n ts) ∧ ts[j]? = some m ∧ At t (pl.take (k + 1)) m := by
  have hl := (List.getElem?_eq_some_iff.mp hk).1
  have hd : pl.drop k = j :: pl.drop (k + 1) := by
    rw [List.drop_eq_getElem_cons hl]
    rw [List.getElem?_eq_getElem hl] at hk
    rw [Option.some.inj hk]
  have h0 : At t (pl.take k ++ (j :: pl.drop (k + 1))) u := by rw [← hd, List.take_append_drop]; exact h
  obtain ⟨m, h1, h2⟩ := h0.split
  cases h2 with
  | cons e s =>
    refine ⟨_, _, _, _, h1, e, ?_⟩
    rw [List.take_succ, hk]
    exact h1.app (.cons e (.nil _))
theorem plV_at {pl : List Nat} {i : Nat} {v : V} (h : (plV pl)[i]? = some v) : ∃ k, v = .int (k : Nat) ∧ pl[i]? = some k := by
  unfold plV at h
  rw [List.getElem?_map] at h
  cases e : pl[i]? with
  | none => rw [e] at h; cases h
  | some x => rw [e] at h; exact ⟨x, (Option.some.inj h).symm, rfl⟩
theorem plV_len (pl : List Nat) : (plV pl).length = pl.length := by unfold plV; simp
theorem plV_take (pl : List Nat) (k : Nat) : (plV pl).take k = plV (pl.take k) := by unfold plV; rw [List.map_take]
noncomputable def sp_lform (K : PySem.W.Frag) : Sp := fun vs H Q _ => ∃ (v : V) (p : Addr) (t u : Tr) (pl : List Nat), vs = [v, .ref p] ∧ TrAt K H v t ∧ SqT K H p (plV pl) ∧ At t pl u ∧ ∀ v', TrAt K H v' u → Q v' H
theorem sc_law_form : FnScope ["_law_tree_here", "_law_place", "_law_form_here", "_law_k"] ["_law_tree_here", "_law_place"] (defScope s_law_form) := ⟨rfl, rfl, rfl, by decide +kernel, rfl, by decide +kernel, by decide +kernel⟩
theorem ok_lform {f : Addr} {fd : FuncData} (F : Fun K "_law_form" "_law_form" s_law_form f fd) (T : Txt K mg) : FnOk P w K mg base CX0 1 f fd ["_law_tree_here", "_law_place"] (sp_lform K) := by
  refine F.okq sc_law_form (fun vs H Q E h => ?_) (fun cdv A outer s H vs Q E hr h => ?_)
  · obtain ⟨v, p, t, u, pl, rfl, _⟩ := h
    rfl
  · obtain ⟨v, p, t, u, pl, rfl, ht, hp, ha, q⟩ := h
    refine ⟨_, qss_cons (qs_set (i := 2) sc_law_form.nd rfl (Or.inl rfl) (qv 0))
      (qss_cons (qs_for PassesOwn.never rfl (qi_anyK K (qv 1)) (qg_name (i := 3) sc_law_form.nd rfl (Or.inl rfl)) (qss_one (qs_set (i := 2) sc_law_form.nd rfl (Or.inl rfl) (qe_ix (k_ix K) (qe_ix (k_ix K) (qv 2) (qe_int) (fun _ _ => rfl)) (qv 3) (fun _ _ => rfl)))))
      (qss_one (qs_ret (qv 2)))), ?_⟩
    walk_at "r"
    refine .inr (.inl ⟨p, rfl, ⟨_, hp⟩, ?_⟩)
    refine for_tup (K := K) (a := p) (xs := plV pl) (fun i σ' H' => ∃ v' w3 m, σ' = [some v, some (.ref p), some v', w3] ∧ H' = H ∧ At t (pl.take i) m ∧ TrAt K H v' m) ⟨v, none, t, rfl, rfl, .nil _, ht⟩ ?_ ?_ ?_
    · rintro i σ' H' _ ⟨_, _, _, _, rfl, _⟩
      exact hp
    · rintro i x σ' H' hx ⟨v', w3, m, rfl, rfl, hm, hv⟩
      obtain ⟨k, rfl, hk⟩ := plV_at hx
      obtain ⟨w', n', ts, m', a1, a2, a3⟩ := ha.step hk
      cases hm.det a1
      cases hv with
      | @mk b pp _ nv _ us _ qb hn qp l hch =>
      have hku : k < us.length := by rw [l]; exact (List.getElem?_eq_some_iff.mp a2).1
      walk_at "r"
      refine s_ix_tup qb rfl ?_
      walk_at "r"
      refine s_ix_tup qp (atI_nat (List.getElem?_eq_getElem hku)) ?_
      walk_at "r"
      exact ⟨_, _, m', rfl, rfl, a3, hch k _ m' (List.getElem?_eq_getElem hku) a2⟩
    · rintro σ' H' ⟨v', w3, m, rfl, rfl, hm, hv⟩
      walk_at "r"
      rw [plV_len, List.take_length] at hm
      cases hm.det ha
      exact q v' hv
end
end K21

set_option Elab.async false
set_option linter.all false
set_option maxRecDepth 100000
set_option maxHeartbeats 4000000
namespace K21
open PySem L2 K10
section
variable {P : Program} {w : World} {K : PySem.W.Frag} {mg : Str → Option Value} {base : Heap}
theorem set_split {α : Type} {xs : List α} {k : Nat} {x : α} (h : k < xs.length) : xs.take k ++ [x] ++ xs.drop (k + 1) = xs.set k x := by
  rw [List.set_eq_take_append_cons_drop, if_pos h, List.append_assoc]
  rfl
theorem atI_ok {α : Type} {xs : List α} {i : Int} {x : α} (j : Nat) (hj : (j : Int) = i) (h : xs[j]? = some x) : atI xs i = some x := by
  have hl := (List.getElem?_eq_some_iff.mp h).1
  subst hj
  unfold atI ixN
  rw [if_pos (by omega), if_pos (by omega)]
  simpa using h
theorem Brk.put {K : PySem.W.Frag} {H : Hp} {N : Nat} {a pp p8 : Addr} {wd : Str} {nv : V} {n : Dt} {vs : List V} {ts : List Tr} {tj : Tr} {j : Nat} {x : V} (qp : SqT K H pp vs) (hn : IsN K H nv n) (l : vs.length = ts.length) (hch : ∀ (j : Nat) (v : V) (t : Tr), vs[j]? = some v → ts[j]? = some t → TrAt K H v t) (ok : TrOk (.mk wd n ts)) (hj : ts[j]? = some tj) (b : Brk K H (tj.size + N) x)
    (q : SqT K H a [.str wd, nv, .ref p8]) (q8 : SqT K H p8 (vs.set j x)) : Brk K H ((Tr.mk wd n ts).size + N) (.ref a) := by
  cases ok with
  | @mk _ _ nt _ hps hdn hnb hos =>
  have hnt := IsN.nt hn hdn
  have hwl : wd.length ≤ 1000 := by have := many_one hps; omega
  have hjl : j < vs.length := by rw [l]; exact (List.getElem?_eq_some_iff.mp hj).1
  obtain ⟨fm, f1, f2, f3⟩ := b
  have hfj : (ts.map toFm)[j]? = some (toFm tj) := by rw [List.getElem?_map, hj]; rfl
  refine ⟨.nd ((ts.map toFm).set j fm), .nd q q8 ?_ (by rw [List.length_set, List.length_set, List.length_map]; exact l) (fun i x y g1 g2 => ?_), ?_, ?_⟩
  · have := TopD.many (K := K) (H := H) q hwl hnt q8
    rw [hps, hnb, List.length_set, l] at this
    simpa using this
  · by_cases hij : j = i
    · subst hij
      rw [List.getElem?_set_self hjl] at g1
      rw [List.getElem?_set_self (by rw [List.length_map, ← l]; exact hjl)] at g2
      cases g1
      cases g2
      exact f1
    · rw [List.getElem?_set_ne hij] at g1
      rw [List.getElem?_set_ne hij, List.getElem?_map] at g2
      cases e3 : ts[i]? with
      | none => rw [e3] at g2; cases g2
      | some ti =>
        rw [e3] at g2
        cases g2
        exact (hch i x ti g1 e3).fm (hos ti (List.mem_of_getElem? e3))
  · rw [Fm.good]
    exact goods_set (by rw [List.length_map, ← l]; exact hjl) f2
  · have h1 := fsizes_set (f := fm) hfj
    have h2 := toFms_size ts
    rw [toFms_map] at h2
    rw [toFm_size] at h1
    rw [Fm.size, Tr.size]
    omega
noncomputable def sp_lwith (K : PySem.W.Frag) : Sp := fun vs H Q _ => ∃ (v : V) (p : Addr) (x : V) (t u : Tr) (pl : List Nat) (N : Nat), vs = [v, .ref p, x] ∧ TrAt K H v t ∧ TrOk t ∧ t.size ≤ 95 ∧ SqT K H p (plV pl) ∧ pl.length ≤ 95 ∧ At t pl u ∧ Brk K H (u.size + N) x ∧ ∀ v' H', Same H H' → Brk K H' (t.size + N) v' → Q v' H'
theorem nd_law_with_1 : (["_law_k", "_law_place"] : List Str).Nodup := by decide +kernel
theorem sc_law_with : FnScope ["_law_tree_here", "_law_place", "_law_form_here", "_law_spots", "_law_spot", "_law_above", "_law_k"] ["_law_tree_here", "_law_place", "_law_form_here"] (defScope s_law_with) := ⟨rfl, rfl, rfl, by decide +kernel, rfl, by decide +kernel, by decide +kernel⟩
theorem ok_lwith {f : Addr} {fd : FuncData} (F : Fun K "_law_with" "_law_with" s_law_with f fd) (T : Txt K mg) (C__law_form : Callee P w K mg base 1 "_law_form" ["_law_tree_here", "_law_place"] (sp_lform K)) : FnOk P w K mg base CX0 2 f fd ["_law_tree_here", "_law_place", "_law_form_here"] (sp_lwith K) := by
  refine F.okq sc_law_with (fun vs H Q E h => ?_) (fun cdv A outer s H vs Q E hr h => ?_)
  · obtain ⟨v, p, x, t, u, pl, N, rfl, _⟩ := h
    rfl
  · obtain ⟨v, p, x, t, u, pl, N, rfl, ht, ok, hsz, hp, hpl, ha, hx, q⟩ := h
    refine ⟨_, qss_cons (qs_setC (i := 3) (N := ["_law_k", "_law_place"]) (σ0 := capSt 1 [1]) rfl (cscope_fn rfl (by decide +kernel) (by decide +kernel) (by decide +kernel)) (qi_range1 rfl T.range (qa_cons (qe_callB (k_len K) (by rfl) T.len (by decide +kernel) (qa_cons (qv 1) qa_nil)) qa_nil)) (takes_in rfl (by rfl)) (fun _ _ _ _ => qg_name (i := 0) nd_law_with_1 rfl (Or.inl rfl)) (fun _ _ _ _ => qts_nil) (fun _ _ _ _ => qe_slice (k_slB K) (qv 1) (qo_none) (qo_some (qv 0))) sc_law_with.nd rfl (Or.inl rfl))
      (qss_cons (qs_for PassesOwn.never rfl (qi_revK K rfl T.reversed (qa_cons (qv 3) qa_nil)) (qg_name (i := 4) sc_law_with.nd rfl (Or.inl rfl)) (qss_cons (qs_set (i := 5) sc_law_with.nd rfl (Or.inl rfl) (qe_fn C__law_form (hr.mono (by decide)) (qa_cons (qv 0) (qa_cons (qv 4) qa_nil))))
      (qss_cons (qs_set (i := 6) sc_law_with.nd rfl (Or.inl rfl) (qe_ix (k_ix K) (qv 1) (qe_callB (k_len K) (by rfl) T.len (by decide +kernel) (qa_cons (qv 4) qa_nil)) (fun _ _ => rfl)))
      (qss_one (qs_set (i := 2) sc_law_with.nd rfl (Or.inl rfl) (qe_tup (qa_cons (qe_ix (k_ix K) (qv 5) (qe_int) (fun _ _ => rfl)) (qa_cons (qe_ix (k_ix K) (qv 5) (qe_int) (fun _ _ => rfl)) (qa_cons (qe_op (k_add K) (qe_op (k_add K) (qe_slice (k_slB K) (qe_ix (k_ix K) (qv 5) (qe_int) (fun _ _ => rfl)) (qo_none) (qo_some (qv 6))) (qe_tup (qa_cons (qv 2) qa_nil))) (qe_slice (k_slB K) (qe_ix (k_ix K) (qv 5) (qe_int) (fun _ _ => rfl)) (qo_some (qe_op (k_add K) (qv 6) (qe_int))) (qo_none))) qa_nil)))))))))
      (qss_one (qs_ret (qv 2)))), ?_⟩
    have bg := big
    walk_at "r"
    refine s_len_tup hp ?_
    have hpn : ((plV pl).length : Int) = (pl.length : Nat) := by rw [plV_len]
    rw [hpn]
    walk_at "r"
    refine ⟨by omega, by omega, fun S hS => ?_⟩
    refine comp_range (n := ((pl.length : Nat) : Int).toNat) (Pv := fun i ys σ' H' => ∃ kv, σ' = [kv, some (.ref p)] ∧ ys.length = i ∧ (∀ k, k < i → ∃ a, ys[k]? = some (.ref a) ∧ SqT K H' a (plV (pl.take k))) ∧ Same H H') ⟨none, rfl, rfl, (fun k h => by omega), Same.upd hS⟩ ?_ ?_
    · rintro i ys σ' H' hi hys ⟨kv, rfl, hl, hall, sm⟩
      walk_at "r"
      refine s_slb_tup (sm.tup hp) fun r1 H1 s1 q1 => ?_
      rw [Int.zero_add, cutV_to, plV_take] at q1
      walk_at "r"
      refine ⟨_, s1 _ _ hys, by omega, _, upd_same, ?_⟩
      have st := SameT.set (o := .lst (ys ++ [.ref r1])) (s1 _ _ hys)
      refine ⟨_, rfl, by simp [hl], fun k hk => ?_, (sm.trans s1).over hS⟩
      by_cases e : k = i
      · subst e
        exact ⟨r1, by rw [List.getElem?_append_right (by omega), hl]; simp, st.tup q1⟩
      · obtain ⟨a, h1, h2⟩ := hall k (by omega)
        exact ⟨a, by rw [List.getElem?_append_left (by omega)]; exact h1, st.tup (s1.tup h2)⟩
    · rintro zs σ' H1 hzs ⟨kv, rfl, hl, hall, s1⟩
      have hl : zs.length = pl.length := by omega
      walk_at "r"
      refine ⟨S, zs, rfl, SqL.of hzs, ?_⟩
      refine for_rev (K := K) (a := S) (xs := zs) (fun i σ' H' => ∃ x' w4 w5 w6 m, σ' = [some v, some (.ref p), some x', some (.ref S), w4, w5, w6] ∧ At t (pl.take (pl.length - i)) m ∧ Brk K H' (m.size + N) x' ∧ Same H1 H') ⟨x, _, _, _, u, rfl, by rw [Nat.sub_zero, List.take_length]; exact ha, hx.sameL s1.l, Same.refl _⟩ ?_ ?_ ?_
      · rintro i σ' H2 _ ⟨_, _, _, _, _, _, _, _, s2⟩
        exact SqL.of (s2 _ _ hzs)
      · rintro i y σ' H2 hi hy ⟨x', w4, w5, w6, m, rfl, hm, hb, s2⟩
        have hk0 : zs.length - 1 - i < pl.length := by omega
        obtain ⟨k, hk⟩ : ∃ k, k = zs.length - 1 - i := ⟨_, rfl⟩
        rw [← hk] at hy hk0
        obtain ⟨a, h1, h2⟩ := hall k (by omega)
        rw [hy] at h1
        cases h1
        have s02 := s1.trans s2
        have hpk : pl[k]? = some pl[k] := List.getElem?_eq_getElem hk0
        obtain ⟨w', n', ts, m', a1, a2, a3⟩ := ha.step hpk
        rw [show pl.length - i = k + 1 by omega] at hm
        cases hm.det a3
        have oka := (a1.ok ok).1
        have hsa := (a1.ok ok).2
        walk_at "r"
        refine ⟨v, a, t, _, pl.take k, rfl, ht.same s02, s2.tup h2, a1, fun v' hv' => ?_⟩
        cases hv' with
        | @mk b pp _ nv _ us _ qb hn qp l hch =>
        have hku : pl[k] < us.length := by rw [l]; exact (List.getElem?_eq_some_iff.mp a2).1
        have hul : us.length ≤ 95 := by have := sizes_len ts; rw [Tr.size] at hsa; omega
        walk_at "r"
        refine s_len_tup (s2.tup h2) ?_
        walk_at "r"
        refine s_ix_tup (v := .int (pl[k] : Nat)) (s02.tup hp) (atI_ok k (by rw [plV_len, List.length_take]; omega) (by unfold plV; rw [List.getElem?_map, hpk]; rfl)) ?_
        walk_at "r"
        refine s_ix_tup qb rfl ?_
        walk_at "r"
        refine s_ix_tup qb rfl ?_
        walk_at "r"
        refine s_ix_tup qb rfl ?_
        walk_at "r"
        refine s_slb_tup qp fun r1 H3 s3 q3 => ?_
        rw [cutV_to] at q3
        walk_at "r"
        refine ⟨by show 1 ≤ sizeLine; decide, fun p4 h4 => ?_⟩
        have s4 := Same.upd (o := .tup [x']) h4
        refine s_add_tup (s4.tup q3) (SqT.of upd_same) (by rw [List.length_take]; show _ + 1 ≤ sizeLine; omega) fun r5 H5 s5 q5 => ?_
        have s25 := s3.trans (s4.trans s5)
        walk_at "r"
        refine s_ix_tup (s25.tup qb) rfl ?_
        walk_at "r"
        refine s_slb_tup (s25.tup qp) fun r6 H6 s6 q6 => ?_
        have ek : ((pl[k] : Nat) : Int) + 1 = ((pl[k] + 1 : Nat) : Int) := by omega
        rw [ek, cutV_from] at q6
        refine s_add_tup (s6.tup q5) q6 (by rw [List.length_append, List.length_take, List.length_drop]; show _ + 1 + _ ≤ sizeLine; omega) fun r7 H7 s7 q7 => ?_
        rw [set_split (by omega)] at q7
        walk_at "r"
        refine ⟨by show 3 ≤ sizeLine; decide, fun p8 h8 => ?_⟩
        have s8 := Same.upd (o := .tup [.str w', nv, .ref r7]) h8
        have s28 := s25.trans (s6.trans (s7.trans s8))
        walk_at "r"
        refine ⟨.ref p8, _, _, _, .mk w' n' ts, rfl, by rw [show pl.length - (i + 1) = k by omega]; exact a1, ?_, s2.trans s28⟩
        exact Brk.put (s28.tup qp) (hn.same s28.t) l (fun j v t e1 e2 => (hch j v t e1 e2).same s28) oka a2 (hb.sameL s28.l) (SqT.of upd_same) (s8.tup q7)
      · rintro σ' H2 ⟨x', w4, w5, w6, m, rfl, hm, hb, s2⟩
        rw [show pl.length - zs.length = 0 by omega, List.take_zero] at hm
        cases hm
        walk_at "r"
        exact q x' H2 (s1.trans s2) hb
end
end K21

set_option Elab.async false
set_option linter.all false
set_option maxRecDepth 100000
set_option maxHeartbeats 4000000
namespace K21
open PySem L2 K10
section
variable {P : Program} {w : World} {K : PySem.W.Frag} {mg : Str → Option Value} {base : Heap}
theorem Brk.mono {K : PySem.W.Frag} {H : Hp} {N M : Nat} {v : V} (h : Brk K H N v) (l : N ≤ M) : Brk K H M v := by
  obtain ⟨fm, h1, h2, h3⟩ := h
  exact ⟨fm, h1, h2, by omega⟩
theorem note_x (wd : Str) : noteB wd (.tp [.str "x"]) = false := by
  unfold noteB
  repeat' split
  all_goals rfl
noncomputable def sp_noform (K : PySem.W.Frag) : Sp := fun vs H Q _ => ∃ (v : V) (c : Int) (t : Tr), vs = [v, .int c] ∧ FF K H v t ∧ ∀ v' H', Same H H' → NoF K H' v' → Q v' H'
theorem sc_law_no_form : FnScope ["_law_tree_here", "_law_cell_here", "_law_rows", "_law_place", "_law_form_here", "_law_some"] ["_law_tree_here", "_law_cell_here"] (defScope s_law_no_form) := ⟨rfl, rfl, rfl, by decide +kernel, rfl, by decide +kernel, by decide +kernel⟩
theorem ok_noform {f : Addr} {fd : FuncData} (F : Fun K "_law_no_form" "_law_no_form" s_law_no_form f fd) (T : Txt K mg) (C__law_walk : Callee P w K mg base 1 "_law_walk" ["_law_tree_here"] (sp_placed K)) (C__law_with : Callee P w K mg base 2 "_law_with" ["_law_tree_here", "_law_place", "_law_form_here"] (sp_lwith K)) : FnOk P w K mg base CX0 3 f fd ["_law_tree_here", "_law_cell_here"] (sp_noform K) := by
  refine F.okq sc_law_no_form (fun vs H Q E h => ?_) (fun cdv A outer s H vs Q E hr h => ?_)
  · obtain ⟨v, c, t, rfl, _⟩ := h
    rfl
  · obtain ⟨v, c, t, rfl, ⟨ht, ok, hsz⟩, q⟩ := h
    refine ⟨_, qss_cons (qs_set (i := 2) sc_law_no_form.nd rfl (Or.inl rfl) (qe_fn C__law_walk (hr.mono (by decide)) (qa_cons (qv 0) qa_nil)))
      (qss_cons (qs_asg (qe_ix (k_ix K) (qv 2) (qe_op op_mod (qe_op op_fdiv (qv 1) (qe_int)) (qe_callB (k_len K) (by rfl) T.len (by decide +kernel) (qa_cons (qv 2) qa_nil))) (fun _ _ => rfl)) (qg_tupK K (n := 2) rfl (qgs_cons (qg_name (i := 3) sc_law_no_form.nd rfl (Or.inl rfl)) (qgs_cons (qg_name (i := 4) sc_law_no_form.nd rfl (Or.inl rfl)) (qgs_nil)))))
      (qss_cons (qs_set (i := 5) sc_law_no_form.nd rfl (Or.inl rfl) (qe_lst (qa_cons (qe_tup (qa_cons (qe_ix (k_ix K) (qv 4) (qe_int) (fun _ _ => rfl)) (qa_cons (qe_ix (k_ix K) (qv 4) (qe_int) (fun _ _ => rfl)) (qa_cons (qe_op (k_add K) (qe_ix (k_ix K) (qv 4) (qe_int) (fun _ _ => rfl)) (qe_tup (qa_cons (qv 0) qa_nil))) qa_nil)))) (qa_cons (qe_lst (qa_cons (qe_ix (k_ix K) (qv 4) (qe_int) (fun _ _ => rfl)) (qa_cons (qe_ix (k_ix K) (qv 4) (qe_int) (fun _ _ => rfl)) (qa_cons (qe_ix (k_ix K) (qv 4) (qe_int) (fun _ _ => rfl)) qa_nil)))) (qa_cons (qe_tup (qa_cons (qe_ix (k_ix K) (qv 4) (qe_int) (fun _ _ => rfl)) (qa_cons (qe_ix (k_ix K) (qv 4) (qe_int) (fun _ _ => rfl)) qa_nil))) qa_nil)))))
      (qss_cons (qs_set (i := 5) sc_law_no_form.nd rfl (Or.inl rfl) (qe_op (k_add K) (qv 5) (qe_lst (qa_cons (qe_tup (qa_cons (qe_ix (k_ix K) (qv 4) (qe_int) (fun _ _ => rfl)) (qa_cons (qe_ix (k_ix K) (qv 4) (qe_int) (fun _ _ => rfl)) (qa_cons (qe_callTy (k_list K) (by rfl) T.list (by decide +kernel) (qa_cons (qe_ix (k_ix K) (qv 4) (qe_int) (fun _ _ => rfl)) qa_nil)) qa_nil)))) (qa_cons (qe_tup (qa_cons (qe_ix (k_ix K) (qv 4) (qe_int) (fun _ _ => rfl)) (qa_cons (qe_tup (qa_cons (qe_str) qa_nil)) (qa_cons (qe_ix (k_ix K) (qv 4) (qe_int) (fun _ _ => rfl)) qa_nil)))) (qa_cons (qe_ix (k_ix K) (qv 4) (qe_int) (fun _ _ => rfl)) (qa_cons (qe_non) qa_nil)))))))
      (qss_one (qs_ret (qe_fn C__law_with (hr.mono (by decide)) (qa_cons (qv 0) (qa_cons (qv 3) (qa_cons (qe_ix (k_ix K) (qv 5) (qe_op op_mod (qv 1) (qe_int)) (fun _ _ => rfl)) qa_nil))))))))), ?_⟩
    have bg := big
    walk_at "r"
    refine ⟨v, t, rfl, ht, by omega, fun p0 rows H0 s0 _ e0 al => ?_⟩
    have hlen : rows.length = t.size := by rw [al.1, walk_len]
    have hpos : 0 < t.size := by cases t; rw [Tr.size]; omega
    walk_at "r"
    refine s_len_lst (SqL.of e0) ?_
    walk_at "r"
    refine ⟨_, _, rfl, rfl, by show (0 : Int) < _; omega, ?_⟩
    obtain ⟨rv, hrv, mrv⟩ := atI_in (xs := rows) (i := c / 7 % (rows.length : Int)) (Int.emod_nonneg _ (by omega)) (Int.emod_lt_of_pos _ (by omega))
    refine s_ix_lst (SqL.of e0) hrv ?_
    obtain ⟨jr, hjr⟩ := List.getElem?_of_mem mrv
    obtain ⟨xw, hxw, hrow⟩ : ∃ xw, (walk [] t)[jr]? = some xw ∧ RowAt K H0 rv xw := by
      have hl := (List.getElem?_eq_some_iff.mp hjr).1
      have hl2 : jr < (walk [] t).length := by rw [← al.1]; exact hl
      exact ⟨_, List.getElem?_eq_getElem hl2, al.2 jr _ _ hjr (List.getElem?_eq_getElem hl2)⟩
    have mxw := List.mem_of_getElem? hxw
    have hat := walk_At t xw mxw
    have hdp := walk_depth [] t xw mxw
    obtain ⟨oku, hus⟩ := hat.ok ok
    obtain ⟨pl, tu⟩ := xw
    obtain ⟨ra, pq, u, rfl, qr, qpl, hu⟩ := hrow
    walk_at "r"
    refine s_gtup qr rfl ?_
    walk_at "r"
    have oku' := oku
    cases hu with
    | @mk b pp wd nv nd vs ts qb hn qp l hch =>
    cases oku' with
    | @mk _ _ nt _ hps hdn hnb hos =>
    have hnt := IsN.nt hn hdn
    have hmo := many_one hps
    have hwl : wd.length ≤ 1000 := by omega
    have hvl : vs.length ≤ 3 := by omega
    have N1 : 1 ≤ (Tr.mk wd nd ts).size := by rw [Tr.size]; omega
    refine s_ix_tup qb rfl ?_
    walk_at "r"
    refine s_ix_tup qb rfl ?_
    walk_at "r"
    refine s_ix_tup qb rfl ?_
    walk_at "r"
    refine ⟨by show 1 ≤ sizeLine; decide, fun p1 h1 => ?_⟩
    have s1 : Same H0 (upd H0 p1 (.tup [v])) := Same.upd h1
    have e1 : upd H0 p1 (.tup [v]) p1 = some (.tup [v]) := upd_same
    revert s1 e1
    generalize upd H0 p1 (.tup [v]) = H1
    intro s1 e1
    refine s_add_tup (s1.tup qp) (SqT.of e1) (by show vs.length + 1 ≤ sizeLine; omega) fun p2 H2 s2 e2 => ?_
    walk_at "r"
    refine ⟨by show 3 ≤ sizeLine; decide, fun p3 h3 => ?_⟩
    have s3 : Same H2 (upd H2 p3 (.tup [.str wd, nv, .ref p2])) := Same.upd h3
    have e3 : upd H2 p3 (.tup [.str wd, nv, .ref p2]) p3 = some (.tup [.str wd, nv, .ref p2]) := upd_same
    revert s3 e3
    generalize upd H2 p3 (.tup [.str wd, nv, .ref p2]) = H3
    intro s3 e3
    walk_at "r"
    refine s_ix_tup ((s1.trans (s2.trans s3)).tup qb) rfl ?_
    walk_at "r"
    refine s_ix_tup ((s1.trans (s2.trans s3)).tup qb) rfl ?_
    walk_at "r"
    refine s_ix_tup ((s1.trans (s2.trans s3)).tup qb) rfl ?_
    walk_at "r"
    refine ⟨by show 3 ≤ sizeLine; decide, fun p4 h4 => ?_⟩
    have s4 : Same H3 (upd H3 p4 (.lst [.str wd, nv, .ref pp])) := Same.upd h4
    have e4 : upd H3 p4 (.lst [.str wd, nv, .ref pp]) p4 = some (.lst [.str wd, nv, .ref pp]) := upd_same
    revert s4 e4
    generalize upd H3 p4 (.lst [.str wd, nv, .ref pp]) = H4
    intro s4 e4
    walk_at "r"
    refine s_ix_tup ((s1.trans (s2.trans (s3.trans s4))).tup qb) rfl ?_
    walk_at "r"
    refine s_ix_tup ((s1.trans (s2.trans (s3.trans s4))).tup qb) rfl ?_
    walk_at "r"
    refine ⟨by show 2 ≤ sizeLine; decide, fun p5 h5 => ?_⟩
    have s5 : Same H4 (upd H4 p5 (.tup [.str wd, nv])) := Same.upd h5
    have e5 : upd H4 p5 (.tup [.str wd, nv]) p5 = some (.tup [.str wd, nv]) := upd_same
    revert s5 e5
    generalize upd H4 p5 (.tup [.str wd, nv]) = H5
    intro s5 e5
    walk_at "r"
    refine ⟨by show 3 ≤ sizeLine; decide, fun p6 h6 => ?_⟩
    have s6 : Same H5 (upd H5 p6 (.lst [.ref p3, .ref p4, .ref p5])) := Same.upd h6
    have e6 : upd H5 p6 (.lst [.ref p3, .ref p4, .ref p5]) p6 = some (.lst [.ref p3, .ref p4, .ref p5]) := upd_same
    revert s6 e6
    generalize upd H5 p6 (.lst [.ref p3, .ref p4, .ref p5]) = H6
    intro s6 e6
    walk_at "r"
    refine s_ix_tup ((s1.trans (s2.trans (s3.trans (s4.trans (s5.trans s6))))).tup qb) rfl ?_
    walk_at "r"
    refine s_ix_tup ((s1.trans (s2.trans (s3.trans (s4.trans (s5.trans s6))))).tup qb) rfl ?_
    walk_at "r"
    refine s_ix_tup ((s1.trans (s2.trans (s3.trans (s4.trans (s5.trans s6))))).tup qb) rfl ?_
    walk_at "r"
    refine ⟨pp, vs, rfl, .inr ((s1.trans (s2.trans (s3.trans (s4.trans (s5.trans s6))))).tup qp), fun p7 h7 => ?_⟩
    have s7 : Same H6 (upd H6 p7 (.lst vs)) := Same.upd h7
    have e7 : upd H6 p7 (.lst vs) p7 = some (.lst vs) := upd_same
    revert s7 e7
    generalize upd H6 p7 (.lst vs) = H7
    intro s7 e7
    walk_at "r"
    refine ⟨by show 3 ≤ sizeLine; decide, fun p8 h8 => ?_⟩
    have s8 : Same H7 (upd H7 p8 (.tup [.str wd, nv, .ref p7])) := Same.upd h8
    have e8 : upd H7 p8 (.tup [.str wd, nv, .ref p7]) p8 = some (.tup [.str wd, nv, .ref p7]) := upd_same
    revert s8 e8
    generalize upd H7 p8 (.tup [.str wd, nv, .ref p7]) = H8
    intro s8 e8
    walk_at "r"
    refine s_ix_tup ((s1.trans (s2.trans (s3.trans (s4.trans (s5.trans (s6.trans (s7.trans s8))))))).tup qb) rfl ?_
    walk_at "r"
    refine ⟨by show 1 ≤ sizeLine; decide, fun p9 h9 => ?_⟩
    have s9 : Same H8 (upd H8 p9 (.tup [.str "x"])) := Same.upd h9
    have e9 : upd H8 p9 (.tup [.str "x"]) p9 = some (.tup [.str "x"]) := upd_same
    revert s9 e9
    generalize upd H8 p9 (.tup [.str "x"]) = H9
    intro s9 e9
    walk_at "r"
    refine s_ix_tup ((s1.trans (s2.trans (s3.trans (s4.trans (s5.trans (s6.trans (s7.trans (s8.trans s9)))))))).tup qb) rfl ?_
    walk_at "r"
    refine ⟨by show 3 ≤ sizeLine; decide, fun p10 h10 => ?_⟩
    have s10 : Same H9 (upd H9 p10 (.tup [.str wd, .ref p9, .ref pp])) := Same.upd h10
    have e10 : upd H9 p10 (.tup [.str wd, .ref p9, .ref pp]) p10 = some (.tup [.str wd, .ref p9, .ref pp]) := upd_same
    revert s10 e10
    generalize upd H9 p10 (.tup [.str wd, .ref p9, .ref pp]) = H10
    intro s10 e10
    walk_at "r"
    refine s_ix_tup ((s1.trans (s2.trans (s3.trans (s4.trans (s5.trans (s6.trans (s7.trans (s8.trans (s9.trans s10))))))))).tup qb) rfl ?_
    walk_at "r"
    refine ⟨by show 4 ≤ sizeLine; decide, fun p11 h11 => ?_⟩
    have s11 : Same H10 (upd H10 p11 (.lst [.ref p8, .ref p10, .str wd, .non])) := Same.upd h11
    have e11 : upd H10 p11 (.lst [.ref p8, .ref p10, .str wd, .non]) p11 = some (.lst [.ref p8, .ref p10, .str wd, .non]) := upd_same
    revert s11 e11
    generalize upd H10 p11 (.lst [.ref p8, .ref p10, .str wd, .non]) = H11
    intro s11 e11
    refine s_add_lst ((s7.trans (s8.trans (s9.trans (s10.trans s11)))) _ _ e6) e11 (by show 7 ≤ sizeLine; decide) fun p12 h12 => ?_
    have s12 : Same H11 (upd H11 p12 (.lst ([.ref p3, .ref p4, .ref p5] ++ [.ref p8, .ref p10, .str wd, .non]))) := Same.upd h12
    have e12 : upd H11 p12 (.lst ([.ref p3, .ref p4, .ref p5] ++ [.ref p8, .ref p10, .str wd, .non])) p12 = some (.lst ([.ref p3, .ref p4, .ref p5] ++ [.ref p8, .ref p10, .str wd, .non])) := upd_same
    revert s12 e12
    generalize upd H11 p12 (.lst ([.ref p3, .ref p4, .ref p5] ++ [.ref p8, .ref p10, .str wd, .non])) = H12
    intro s12 e12
    walk_at "r"
    obtain ⟨xv, hxv, mxv⟩ := atI_in (xs := ([.ref p3, .ref p4, .ref p5, .ref p8, .ref p10, .str wd, .non] : List V)) (i := c % 7) (Int.emod_nonneg _ (by decide)) (Int.emod_lt_of_pos _ (by decide))
    refine s_ix_lst (SqL.of e12) hxv ?_
    have sm := (s1.trans (s2.trans (s3.trans (s4.trans (s5.trans (s6.trans (s7.trans (s8.trans (s9.trans (s10.trans (s11.trans s12)))))))))))
    have hbx : Brk K H12 ((Tr.mk wd nd ts).size + 0) xv := by
      refine .bad ?_ N1
      simp only [List.mem_cons, List.not_mem_nil, or_false] at mxv
      rcases mxv with rfl | rfl | rfl | rfl | rfl | rfl | rfl
      · exact top_many ((s4.trans (s5.trans (s6.trans (s7.trans (s8.trans (s9.trans (s10.trans (s11.trans s12)))))))).tup (SqT.of e3)) hwl (hnt.same sm) ((s3.trans (s4.trans (s5.trans (s6.trans (s7.trans (s8.trans (s9.trans (s10.trans (s11.trans s12))))))))).tup e2) hps (by rw [List.length_append, l]; simp)
      · exact .kind (.lst (SqL.of ((s5.trans (s6.trans (s7.trans (s8.trans (s9.trans (s10.trans (s11.trans s12))))))) _ _ e4))) rfl
      · exact .len ((s6.trans (s7.trans (s8.trans (s9.trans (s10.trans (s11.trans s12)))))).tup (SqT.of e5)) (by simp)
      · exact .parts ((s9.trans (s10.trans (s11.trans s12))).tup (SqT.of e8)) hwl (hnt.same sm) (.lst (SqL.of ((s8.trans (s9.trans (s10.trans (s11.trans s12)))) _ _ e7))) rfl
      · exact .note ((s11.trans s12).tup (SqT.of e10)) hwl (nt := .tp [.str "x"]) ⟨p9, rfl, (s10.trans (s11.trans s12)).tup (SqT.of e9), fun x hx => by rw [List.mem_singleton.mp hx]; exact ⟨_, .str _ (by decide)⟩⟩ (note_x wd)
      · exact .kind (.str _ hwl) rfl
      · exact .kind .non rfl
    refine ⟨v, pq, xv, t, _, pl, 0, rfl, ht.same (s0.trans sm), ok, hsz, sm.tup qpl, by simp only [List.length_nil] at hdp; omega, hat, hbx, fun v' H13 s13 hb => ?_⟩
    exact q v' H13 (s0.trans (sm.trans s13)) (Brk.mono hb (by omega))
end
end K21

set_option Elab.async false
set_option linter.all false
set_option maxRecDepth 100000
set_option maxHeartbeats 4000000
namespace K21
open PySem L2 K10
section
variable {P : Program} {w : World} {K : PySem.W.Frag} {mg : Str → Option Value} {base : Heap}
structure GapAt (K : PySem.W.Frag) (ag : Addr) : Prop where
  at_ : ∀ H, TrAt K H (.ref ag) gapT
theorem FF.gap {K : PySem.W.Frag} {H : Hp} {v : V} (h : TrAt K H v gapT) : FF K H v gapT := ⟨h, TrOk.gap, by rw [gapT_size]; omega⟩
theorem dfill_gap {ag : Addr} {y z : V} : doneV ag z gapT.wd (.fill y) = some y := by show (if gapT.wd = ("gap" : Str) then some y else none) = some y; exact if_pos rfl
theorem dcut_gap {ag : Addr} {z : V} : doneV ag z gapT.wd .cut = none := by show (if gapT.wd = ("gap" : Str) then none else some (V.ref ag)) = none; exact if_pos rfl
theorem dfill_ne {ag : Addr} {y z : V} {wd : Str} (h : wd ≠ "gap") : doneV ag z wd (.fill y) = none := by show (if wd = ("gap" : Str) then some y else none) = none; exact if_neg h
theorem dcut_ne {ag : Addr} {z : V} {wd : Str} (h : wd ≠ "gap") : doneV ag z wd .cut = some (.ref ag) := by show (if wd = ("gap" : Str) then none else some (V.ref ag)) = some (.ref ag); exact if_neg h
noncomputable def sp_good (K : PySem.W.Frag) : Sp := fun vs H Q _ => ∃ (y o : V) (n : Int) (t u : Tr), vs = [y, o, .int n] ∧ FF K H y t ∧ t.wd ≠ "gap" ∧ FF K H o u ∧ u.wd ≠ "gap" ∧ ∀ H', Same H H' → Q (.bl true) H'
theorem sc_law_good : FnScope ["_law_tree_here", "_law_other", "_law_cell_here", "_law_gap", "_law_deed", "_law_change", "_law_cut", "_law_nothing", "_law_form_here", "_law_bad"] ["_law_tree_here", "_law_other", "_law_cell_here"] (defScope s_law_good) := ⟨rfl, rfl, rfl, by decide +kernel, rfl, by decide +kernel, by decide +kernel⟩
theorem ok_good {c : Cs} {ag : Addr} {f : Addr} {fd : FuncData} (F : Fun K "_law_good" "_law_good" s_law_good f fd) (T : Txt K mg) (L : Kl K mg c) (GA : GapAt K ag) (MK_Cut : Make0 K mg "Cut" c.c) (MK_Deed : Make0 K mg "Deed" c.d)
    (C__law_made : Callee P w K mg base 10 "_law_made" ["_law_form_here", "_law_fill"] (sp_made K c)) (C__law_fits : Callee P w K mg base 11 "_law_fits" ["_law_deed", "_law_form_here", "_law_due"] (sp_fits K c ag)) (C__law_no_deed : Callee P w K mg base 11 "_law_no_deed" ["_law_deed", "_law_form_here"] (sp_nodeed K c ag))
    (C__law_done : Callee P w K mg base 3 "_law_done" ["_law_deed", "_law_form_here"] (sp_ldone K c ag)) (C__law_back : Callee P w K mg base 10 "_law_back" ["_law_deed", "_law_form_here"] (sp_lback K c ag)) (C__law_no_form : Callee P w K mg base 3 "_law_no_form" ["_law_tree_here", "_law_cell_here"] (sp_noform K)) : FnOk P w K mg base CX0 12 f fd ["_law_tree_here", "_law_other", "_law_cell_here"] (sp_good K) := by
  refine F.okq sc_law_good (fun vs H Q E h => ?_) (fun cdv A outer s H vs Q E hr h => ?_)
  · obtain ⟨y, o, n, t, u, rfl, _⟩ := h
    rfl
  · obtain ⟨y, o, n, t, u, rfl, hy, wy, ho, wo, q⟩ := h
    obtain ⟨N_Fill, eF⟩ : ∃ N, N = c.f := ⟨_, rfl⟩
    have G_Fill : mg "Fill" = some (.ref N_Fill) := by rw [eF]; exact L.of.at_
    obtain ⟨N_Change, eG⟩ : ∃ N, N = c.g := ⟨_, rfl⟩
    have G_Change : mg "Change" = some (.ref N_Change) := by rw [eG]; exact L.og.at_
    refine ⟨_, qss_cons (qs_set (i := 3) sc_law_good.nd rfl (Or.inl rfl) (qe_tup (qa_cons (qe_str) (qa_cons (qe_non) (qa_cons (qe_tup (qa_nil)) qa_nil)))))
      (qss_cons (qs_set (i := 4) sc_law_good.nd rfl (Or.inl rfl) (qe_fn C__law_made (hr.mono (by decide)) (qa_cons (qv 0) (qa_cons (qe_bl) qa_nil))))
      (qss_cons (qs_set (i := 5) sc_law_good.nd rfl (Or.inl rfl) (qe_fn C__law_made (hr.mono (by decide)) (qa_cons (qv 0) (qa_cons (qe_bl) qa_nil))))
      (qss_cons (qs_set (i := 6) sc_law_good.nd rfl (Or.inl rfl) (qe_new0 MK_Cut))
      (qss_cons (qs_set (i := 7) sc_law_good.nd rfl (Or.inl rfl) (qe_new0 MK_Deed))
      (qss_cons (qs_if (QW.qt (qw_or (qt_not (qt_val (qe_callB (k_isI (K := K)) (by rfl) T.isinstance (by decide +kernel) (qa_cons (qv 4) (qa_cons (qe_glob (v := .ref N_Fill) (by rfl) G_Fill rfl) qa_nil))))) (qw_or1 (qt_not (qt_val (qe_callB (k_isI (K := K)) (by rfl) T.isinstance (by decide +kernel) (qa_cons (qv 5) (qa_cons (qe_glob (v := .ref N_Change) (by rfl) G_Change rfl) qa_nil)))))))) (qss_one (qs_ret (qe_bl))) (qss_nil))
      (qss_cons (qs_if (QW.qt (qw_or (qt_not (qt_val (qe_fn C__law_fits (hr.mono (by decide)) (qa_cons (qv 4) (qa_cons (qv 3) (qa_cons (qv 0) qa_nil)))))) (qw_or (qt_not (qt_val (qe_fn C__law_no_deed (hr.mono (by decide)) (qa_cons (qv 4) (qa_cons (qv 1) qa_nil))))) (qw_or1 (qt_not (qt_val (qe_fn C__law_fits (hr.mono (by decide)) (qa_cons (qv 4) (qa_cons (qv 3) (qa_cons (qv 0) qa_nil)))))))))) (qss_one (qs_ret (qe_bl))) (qss_nil))
      (qss_cons (qs_if (QW.qt (qw_or (qt_not (qt_val (qe_fn C__law_no_deed (hr.mono (by decide)) (qa_cons (qv 6) (qa_cons (qv 3) qa_nil))))) (qw_or (qt_not (qt_val (qe_fn C__law_fits (hr.mono (by decide)) (qa_cons (qv 6) (qa_cons (qv 0) (qa_cons (qv 3) qa_nil)))))) (qw_or1 (qt_not (qt_val (qe_fn C__law_no_deed (hr.mono (by decide)) (qa_cons (qv 6) (qa_cons (qv 3) qa_nil))))))))) (qss_one (qs_ret (qe_bl))) (qss_nil))
      (qss_cons (qs_for PassesOwn.never rfl (qi_anyK K (qe_lst (qa_cons (qv 3) (qa_cons (qv 1) (qa_cons (qv 0) qa_nil))))) (qg_name (i := 8) sc_law_good.nd rfl (Or.inl rfl)) (qss_cons (qs_if (QW.qt (qw_or (qt_not (qt_val (qe_fn C__law_fits (hr.mono (by decide)) (qa_cons (qv 5) (qa_cons (qv 8) (qa_cons (qv 0) qa_nil)))))) (qw_or1 (qt_not (qt_val (qe_fn C__law_fits (hr.mono (by decide)) (qa_cons (qv 7) (qa_cons (qv 8) (qa_cons (qv 8) qa_nil))))))))) (qss_one (qs_ret (qe_bl))) (qss_nil))
      (qss_one (qs_if (qt_cmpR (k_ne K hr.u200) (qe_fn C__law_done (hr.mono (by decide)) (qa_cons (qe_fn C__law_back (hr.mono (by decide)) (qa_cons (qv 7) (qa_cons (qv 8) qa_nil))) (qa_cons (qv 1) qa_nil))) (qv 1) (nomark _)) (qss_one (qs_ret (qe_bl))) (qss_nil)))))
      (qss_cons (qs_set (i := 9) sc_law_good.nd rfl (Or.inl rfl) (qe_fn C__law_no_form (hr.mono (by decide)) (qa_cons (qv 0) (qa_cons (qv 2) qa_nil))))
      (qss_one (qs_ret (qe_and (qe_cmpR (k_eq K hr.u200) (qe_fn C__law_made (hr.mono (by decide)) (qa_cons (qv 9) (qa_cons (qe_bl) qa_nil))) (qe_lst (qa_cons (qe_bl) (qa_cons (qe_str) qa_nil))) (nomark _)) (qe_one (qe_cmpR (k_eq K hr.u200) (qe_fn C__law_made (hr.mono (by decide)) (qa_cons (qv 9) (qa_cons (qe_bl) qa_nil))) (qe_lst (qa_cons (qe_bl) (qa_cons (qe_str) qa_nil))) (nomark _))))))))))))))), ?_⟩
    have bg := big
    have wg : gapT.wd = ("gap" : Str) := rfl
    walk_at "r"
    refine ⟨by show 0 ≤ sizeLine; decide, fun pe he => ?_⟩
    have s1 := Same.upd (o := .tup []) he
    walk_at "r"
    refine ⟨by show 3 ≤ sizeLine; decide, fun pg hg => ?_⟩
    have s2 := Same.upd (o := .tup [.str "gap", .non, .ref pe]) hg
    have tg : TrAt K (upd (upd H pe (.tup [])) pg (.tup [.str "gap", .non, .ref pe])) (.ref pg) gapT := TrAt.gap (SqT.of upd_same) (s2.tup (SqT.of upd_same))
    have s02 := s1.trans s2
    revert s02 tg
    generalize upd (upd H pe (.tup [])) pg (.tup [.str "gap", .non, .ref pe]) = H2
    intro tg s02
    have fg : ∀ {H'}, Same H2 H' → FF K H' (.ref pg) gapT := fun e => FF.gap (tg.same e)
    have fy : ∀ {H'}, Same H2 H' → FF K H' y t := fun e => hy.same (s02.trans e)
    have fo : ∀ {H'}, Same H2 H' → FF K H' o u := fun e => ho.same (s02.trans e)
    walk_at "r"
    refine ⟨y, true, rfl, .inl ⟨t, fy (Same.refl _), fun _ x1 H3 s3 d1 => ?_, fun h => absurd h.2 wy⟩⟩
    walk_at "r"
    refine ⟨y, false, rfl, .inl ⟨t, fy s3, fun _ x2 H4 s4 d2 => ?_, fun h => nomatch h.1⟩⟩
    have m4 := s3.trans s4
    walk_at "r"
    refine fun a3 b3 h1 h2 h3 => ?_
    have s5 := Same.made (C := c.c) (fs := []) h1 h2 h3
    have d3 : DdAt c (upd (upd H4 b3 (.own a3)) a3 (.ins c.c b3 [])) (.ref a3) .cut := ⟨a3, b3, rfl, upd_same⟩
    revert s5 d3
    generalize upd (upd H4 b3 (.own a3)) a3 (.ins c.c b3 []) = H5
    intro s5 d3
    walk_at "r"
    refine fun a4 b4 h1 h2 h3 => ?_
    have s6 := Same.made (C := c.d) (fs := []) h1 h2 h3
    have d4 : DdAt c (upd (upd H5 b4 (.own a4)) a4 (.ins c.d b4 [])) (.ref a4) .no := ⟨a4, b4, rfl, upd_same⟩
    revert s6 d4
    generalize upd (upd H5 b4 (.own a4)) a4 (.ins c.d b4 []) = H6
    intro s6 d4
    have d1 := (d1.same s4).same (s5.trans s6)
    have d2 := d2.same (s5.trans s6)
    have d3 := d3.same s6
    have m6 := m4.trans (s5.trans s6)
    walk_at "r"
    refine s_isI (b := true) (L.ty d1) (by rw [eF]; exact kit_self) ?_
    walk_at "r"
    refine s_isI (b := true) (L.ty d2) (by rw [eG]; exact kit_self) ?_
    walk_at "r"
    refine ⟨x1, .fill y, .ref pg, gapT, y, t, y, .ref ag, rfl, d1, fg m6, fy m6, dfill_gap, (fy m6).1, dcut_ne wy, GA.at_ _, fun H7 s7 => ?_⟩
    have m7 := m6.trans s7
    walk_at "r"
    refine ⟨x1, .fill y, o, u, rfl, d1.same s7, fo m7, dfill_ne wo, fun H8 s8 => ?_⟩
    have m8 := m7.trans s8
    have n8 := s7.trans s8
    walk_at "r"
    refine ⟨x1, .fill y, .ref pg, gapT, y, t, y, .ref ag, rfl, d1.same n8, fg m8, fy m8, dfill_gap, (fy m8).1, dcut_ne wy, GA.at_ _, fun H9 s9 => ?_⟩
    have m9 := m8.trans s9
    have n9 := n8.trans s9
    walk_at "r"
    refine ⟨.ref a3, .cut, .ref pg, gapT, rfl, d3.same n9, fg m9, dcut_gap, fun H10 s10 => ?_⟩
    have m10 := m9.trans s10
    have n10 := n9.trans s10
    walk_at "r"
    refine ⟨.ref a3, .cut, y, t, .ref pg, gapT, .ref ag, y, rfl, d3.same n10, fy m10, fg m10, dcut_ne wy, GA.at_ _, dfill_gap, (fy m10).1, fun H11 s11 => ?_⟩
    have m11 := m10.trans s11
    have n11 := n10.trans s11
    walk_at "r"
    refine ⟨.ref a3, .cut, .ref pg, gapT, rfl, d3.same n11, fg m11, dcut_gap, fun H12 s12 => ?_⟩
    have m12 := m11.trans s12
    have n12 := n11.trans s12
    walk_at "r"
    refine ⟨by show 3 ≤ sizeLine; decide, fun pl hpl => ?_⟩
    have s13 : Same H12 (upd H12 pl (.lst [.ref pg, o, y])) := Same.upd hpl
    have e13 : upd H12 pl (.lst [.ref pg, o, y]) pl = some (.lst [.ref pg, o, y]) := upd_same
    revert s13 e13
    generalize upd H12 pl (.lst [.ref pg, o, y]) = H13
    intro s13 e13
    have m13 := m12.trans s13
    have n13 := n12.trans s13
    refine .inl ⟨pl, rfl, ⟨_, SqL.of e13⟩, ?_⟩
    refine for_list (K := K) (a := pl) (xs := [.ref pg, o, y]) (fun i σ' H' => ∃ v8, σ' = [some y, some o, some (.int n), some (.ref pg), some x1, some x2, some (.ref a3), some (.ref a4), v8, none] ∧ Same H13 H') ⟨none, rfl, Same.refl _⟩ ?_ ?_ ?_
    · rintro i σ' H' _ ⟨_, _, sm⟩
      exact SqL.of (sm _ _ e13)
    · rintro i z σ' H14 hz ⟨v8, rfl, s14⟩
      have m14 := m13.trans s14
      have n14 := n13.trans s14
      obtain ⟨tz, fz⟩ : ∃ tz, ∀ {H'}, Same H2 H' → FF K H' z tz := by
        have mz := List.mem_of_getElem? hz
        simp only [List.mem_cons, List.not_mem_nil, or_false] at mz
        rcases mz with rfl | rfl | rfl
        · exact ⟨_, fg⟩
        · exact ⟨_, fo⟩
        · exact ⟨_, fy⟩
      walk_at "r"
      refine ⟨x2, .chg y, z, tz, y, t, y, z, rfl, d2.same n14, fz m14, fy m14, rfl, (fy m14).1, rfl, (fz m14).1, fun H15 s15 => ?_⟩
      have m15 := m14.trans s15
      have n15 := n14.trans s15
      walk_at "r"
      refine ⟨.ref a4, .no, z, tz, z, tz, z, z, rfl, d4.same n15, fz m15, fz m15, rfl, (fz m15).1, rfl, (fz m15).1, fun H16 s16 => ?_⟩
      have m16 := m15.trans s16
      have n16 := n15.trans s16
      walk_at "r"
      refine ⟨.ref a4, .no, z, tz, rfl, d4.same n16, fz m16, fun v' e' x' H17 s17 hd' => ?_, fun e' => nomatch e'⟩
      have m17 := m16.trans s17
      walk_at "r"
      refine ⟨x', .no, o, u, rfl, hd', fo m17, fun v' e' => ?_, fun e' => nomatch e'⟩
      cases e'
      obtain ⟨oa, eo⟩ := not_ref ho.1
      subst eo
      walk_at "r"
      refine s_neD (n := 190) (Nat.le_refl _) (tr_isD (fo m17).1 (by have := ho.2.2; omega)) (tr_isD (fo m17).1 (by have := ho.2.2; omega)) ?_
      walk_at "r"
      exact ⟨_, rfl, s14.trans (s15.trans (s16.trans s17))⟩
    · rintro σ' H14 ⟨v8, rfl, s14⟩
      have m14 := m13.trans s14
      walk_at "r"
      refine ⟨y, n, t, rfl, fy m14, fun vb H15 s15 hb => ?_⟩
      have m15 := m14.trans s15
      walk_at "r"
      refine ⟨vb, true, rfl, .inr ⟨hb, fun v1 H16 s16 hT => ?_⟩⟩
      obtain ⟨p1, rfl, e1⟩ := hT
      walk_at "r"
      refine ⟨by show 2 ≤ sizeLine; decide, fun p2 hp2 => ?_⟩
      have s17 := Same.upd (o := .lst [.bl true, .str "form"]) hp2
      refine s_eqD (n := 1) (by decide) (told_isD (s17 _ _ e1)) (told_isD upd_same) ?_
      have n17 := s16.trans s17
      walk_at "r"
      refine ⟨vb, false, rfl, .inr ⟨hb.same n17, fun v3 H18 s18 hT => ?_⟩⟩
      obtain ⟨p3, rfl, e3⟩ := hT
      walk_at "r"
      refine ⟨by show 2 ≤ sizeLine; decide, fun p4 hp4 => ?_⟩
      have s19 := Same.upd (o := .lst [.bl true, .str "form"]) hp4
      refine s_eqD (n := 1) (by decide) (told_isD (s19 _ _ e3)) (told_isD upd_same) ?_
      exact q _ (s02.trans (m15.trans (n17.trans (s18.trans s19))))
end
end K21

set_option Elab.async false
set_option linter.all false
set_option maxRecDepth 100000
set_option maxHeartbeats 4000000
namespace K21
open PySem L2 K10
section
variable {P : Program} {w : World} {K : PySem.W.Frag} {mg : Str → Option Value} {base : Heap}
theorem tr_parts {K : PySem.W.Frag} {H : Hp} {v : V} {t : Tr} (h : TrAt K H v t) : ∃ (a p : Addr) (n : V) (vs : List V), v = .ref a ∧ SqT K H a [.str t.wd, n, .ref p] ∧ (flatV n = true ∨ ∃ (b : Addr) (xs : List V), n = .ref b ∧ SqT K H b xs) ∧ SqT K H p vs := by
  cases h with
  | mk q hn qp l hs =>
    refine ⟨_, _, _, _, rfl, q, ?_, qp⟩
    rcases hn with ⟨h, _⟩ | ⟨a, vs, h1, h2, _⟩
    · exact .inl h
    · exact .inr ⟨a, vs, h1, h2⟩
theorem non_only {nt : Nt} (h : nonN nt = true) : nt = .fl .non := by
  unfold nonN at h
  split at h
  · rfl
  · cases h
theorem gap_only {t : Tr} (ok : TrOk t) (h : t.wd = "gap") : t = gapT := by
  cases ok with
  | @mk wd d nt ts hp hd hn hs =>
    have h : wd = "gap" := h
    subst h
    have h0 : partsOf ("gap" : Str) = some 0 := by decide +kernel
    rw [h0] at hp
    have hl : ts = [] := List.eq_nil_of_length_eq_zero (Option.some.inj hp).symm
    subst hl
    have hn : nonN nt = true := hn
    have e := non_only hn
    subst e
    cases hd with
    | fl hv => rfl
noncomputable def letT (u : Str) : Tr := .mk "let" (.flat (.str u)) [gapT, gapT]
theorem letT_size (u : Str) : (letT u).size = 3 := by unfold letT; rw [Tr.size, sizes, sizes, sizes, gapT_size]
theorem letT_wd (u : Str) : (letT u).wd ≠ "gap" := by show ("let" : Str) ≠ "gap"; decide
theorem cut_ms (ns : List Int) (j k : Nat) : ∃ ms : List Int, cutV (ns.map V.int) (some (j : Int)) (some (k : Int)) = ms.map V.int ∧ ms.length ≤ k - j := by
  refine ⟨(ns.drop j).take (k - j), ?_, ?_⟩
  · rw [cutV_fromto, List.map_take, List.map_drop]
  · rw [List.length_take]
    omega
noncomputable def sp_law (K : PySem.W.Frag) : Sp := fun vs H Q _ => ∃ (a : Addr) (ns : List Int), vs = [.ref a] ∧ SqL K H a (ns.map V.int) ∧ ns.length ≤ 63 ∧ ∀ H', Q (.bl true) H'
theorem sc_law : FnScope ["_law_script", "_law_gap", "_law_names_here", "_law_trees", "_law_k", "_law_change"] ["_law_script"] (defScope s_law) := ⟨rfl, rfl, rfl, by decide +kernel, rfl, by decide +kernel, by decide +kernel⟩
theorem ok_law {c : Cs} {ag : Addr} {f : Addr} {fd : FuncData} (F : Fun K "law" "law" s_law f fd) (T : Txt K mg) (C__law_names : Callee P w K mg base 1 "_law_names" ["_law_one", "_law_other"] sp_names) (C__law_cell : Callee P w K mg base 1 "_law_cell" ["_law_script", "_law_k"] (sp_cell K)) (C__law_tree : Callee P w K mg base 3 "_law_tree" ["_law_cells", "_law_names_here"] (sp_tree K))
    (C__law_good : Callee P w K mg base 12 "_law_good" ["_law_tree_here", "_law_other", "_law_cell_here"] (sp_good K)) (C__law_made : Callee P w K mg base 10 "_law_made" ["_law_form_here", "_law_fill"] (sp_made K c)) (C__law_fits : Callee P w K mg base 11 "_law_fits" ["_law_deed", "_law_form_here", "_law_due"] (sp_fits K c ag)) : FnOk P w K mg base CX0 13 f fd ["_law_script"] (sp_law K) := by
  refine F.okq sc_law (fun vs H Q E h => ?_) (fun cdv A outer s H vs Q E hr h => ?_)
  · obtain ⟨a, ns, rfl, _⟩ := h
    rfl
  · obtain ⟨a, ns, rfl, hS, hn, q⟩ := h
    have S : Script K H a := ⟨ns, hS, hn⟩
    refine ⟨_, qss_cons (qs_set (i := 1) sc_law.nd rfl (Or.inl rfl) (qe_tup (qa_cons (qe_str) (qa_cons (qe_non) (qa_cons (qe_tup (qa_nil)) qa_nil)))))
      (qss_cons (qs_set (i := 2) sc_law.nd rfl (Or.inl rfl) (qe_fn C__law_names (hr.mono (by decide)) (qa_cons (qe_fn C__law_cell (hr.mono (by decide)) (qa_cons (qv 0) (qa_cons (qe_int) qa_nil))) (qa_cons (qe_fn C__law_cell (hr.mono (by decide)) (qa_cons (qv 0) (qa_cons (qe_int) qa_nil))) qa_nil))))
      (qss_cons (qs_set (i := 3) sc_law.nd rfl (Or.inl rfl) (qe_lst (qa_cons (qe_fn C__law_tree (hr.mono (by decide)) (qa_cons (qe_slice (k_sl K) (qv 0) (qo_some (qe_int)) (qo_some (qe_int))) (qa_cons (qv 2) qa_nil))) (qa_cons (qe_fn C__law_tree (hr.mono (by decide)) (qa_cons (qe_slice (k_sl K) (qv 0) (qo_some (qe_int)) (qo_some (qe_int))) (qa_cons (qv 2) qa_nil))) qa_nil))))
      (qss_cons (qs_for PassesOwn.never rfl (qi_range1 rfl T.range (qa_cons (qe_int) qa_nil)) (qg_name (i := 4) sc_law.nd rfl (Or.inl rfl)) (qss_one (qs_if (qt_cmpR (k_eqG K hr.u200) (qe_ix (k_ix K) (qv 3) (qv 4) (fun _ _ => rfl)) (qv 1) (nomark _)) (qss_one (qs_asg (qe_tup (qa_cons (qe_str) (qa_cons (qe_ix (k_ix K) (qv 2) (qe_int) (fun _ _ => rfl)) (qa_cons (qe_tup (qa_cons (qv 1) (qa_cons (qv 1) qa_nil))) qa_nil)))) (qg_sub (qv 3) (qv 4) set_list))) (qss_nil))))
      (qss_cons (qs_for PassesOwn.never rfl (qi_range1 rfl T.range (qa_cons (qe_int) qa_nil)) (qg_name (i := 4) sc_law.nd rfl (Or.inl rfl)) (qss_one (qs_if (qt_not (qt_val (qe_fn C__law_good (hr.mono (by decide)) (qa_cons (qe_ix (k_ix K) (qv 3) (qv 4) (fun _ _ => rfl)) (qa_cons (qe_ix (k_ix K) (qv 3) (qe_op op_sub (qe_int) (qv 4)) (fun _ _ => rfl)) (qa_cons (qe_fn C__law_cell (hr.mono (by decide)) (qa_cons (qv 0) (qa_cons (qe_int) qa_nil))) qa_nil)))))) (qss_one (qs_ret (qe_bl))) (qss_nil))))
      (qss_cons (qs_set (i := 5) sc_law.nd rfl (Or.inl rfl) (qe_fn C__law_made (hr.mono (by decide)) (qa_cons (qv 1) (qa_cons (qe_bl) qa_nil))))
      (qss_one (qs_ret (qe_and (qe_cmpR (k_eqG K hr.u200) (qe_fn C__law_made (hr.mono (by decide)) (qa_cons (qv 1) (qa_cons (qe_bl) qa_nil))) (qe_lst (qa_cons (qe_bl) (qa_cons (qe_str) qa_nil))) (nomark _)) (qe_one (qe_fn C__law_fits (hr.mono (by decide)) (qa_cons (qv 5) (qa_cons (qe_ix (k_ix K) (qv 3) (qe_int) (fun _ _ => rfl)) (qa_cons (qv 1) qa_nil))))))))))))), ?_⟩
    have bg := big
    walk_at "r"
    refine ⟨by show 0 ≤ sizeLine; decide, fun pe he => ?_⟩
    have s1 := Same.upd (o := .tup []) he
    walk_at "r"
    refine ⟨by show 3 ≤ sizeLine; decide, fun pg hg => ?_⟩
    have s2 := Same.upd (o := .tup [.str "gap", .non, .ref pe]) hg
    have qg : SqT K (upd (upd H pe (.tup [])) pg (.tup [.str "gap", .non, .ref pe])) pg [.str "gap", .non, .ref pe] := SqT.of upd_same
    have qe : SqT K (upd (upd H pe (.tup [])) pg (.tup [.str "gap", .non, .ref pe])) pe [] := s2.tup (SqT.of upd_same)
    have s02 := s1.trans s2
    revert qg qe s02
    generalize upd (upd H pe (.tup [])) pg (.tup [.str "gap", .non, .ref pe]) = H2
    intro qg qe s02
    walk_at "r"
    refine ⟨a, 0, rfl, S.same s02, by decide, fun z0 => ?_⟩
    walk_at "r"
    refine ⟨a, 1, rfl, S.same s02, by decide, fun z1 => ?_⟩
    walk_at "r"
    refine ⟨z0, z1, rfl, fun p t0 t1 t2 H3 n0 n1 n2 s3 hp0 hp => ?_⟩
    have m3 := s02.trans s3
    walk_at "r"
    refine s_sl_lst (m3.seq hS) fun pc hpc => ?_
    walk_at "r"
    obtain ⟨ms, hms, hml⟩ := cut_ms ns 3 19
    rw [show cutV (ns.map V.int) (some 3) (some 19) = ms.map V.int from hms]
    have s4 := Same.upd (o := .lst (ms.map V.int)) hpc
    refine ⟨pc, p, ms, t0, t1, t2, rfl, SqL.of upd_same, by omega, SqL.of (s4 _ _ hp), n0, n1, n2, fun y1 u1 H5 s5 ty1 oy1 sz1 => ?_⟩
    have n5 := s4.trans s5
    have m5 := m3.trans n5
    have f1 : FF K H5 y1 u1 := ⟨ty1, oy1, by omega⟩
    walk_at "r"
    refine s_sl_lst (m5.seq hS) fun pd hpd => ?_
    walk_at "r"
    obtain ⟨ks, hks, hkl⟩ := cut_ms ns 19 35
    rw [show cutV (ns.map V.int) (some 19) (some 35) = ks.map V.int from hks]
    have s6 := Same.upd (o := .lst (ks.map V.int)) hpd
    refine ⟨pd, p, ks, t0, t1, t2, rfl, SqL.of upd_same, by omega, SqL.of (s6 _ _ (n5 _ _ hp)), n0, n1, n2, fun y2 u2 H7 s7 ty2 oy2 sz2 => ?_⟩
    have n7 := s6.trans s7
    have m7 := m5.trans n7
    have f1 := f1.same n7
    have f2 : FF K H7 y2 u2 := ⟨ty2, oy2, by omega⟩
    have e7 : H7 p = some (.lst [.str t0, .str t1, .str t2]) := n7 _ _ (n5 _ _ hp)
    have k7 : Same H2 H7 := s3.trans (n5.trans n7)
    have qg7 := k7.tup qg
    have qe7 := k7.tup qe
    walk_at "r"
    refine ⟨by show 2 ≤ sizeLine; decide, fun pt hpt => ?_⟩
    have s8 : Same H7 (upd H7 pt (.lst [y1, y2])) := Same.upd hpt
    have e8 : upd H7 pt (.lst [y1, y2]) pt = some (.lst [y1, y2]) := upd_same
    have g1 := f1.same s8
    have g2 := f2.same s8
    revert s8 e8 g1 g2
    generalize upd H7 pt (.lst [y1, y2]) = H8
    intro s8 e8 g1 g2
    walk_at "r"
    refine ⟨by decide, by decide, ?_⟩
    refine for_range (n := (2 : Int).toNat) (fun i σ' H' => ∃ w4 x1 x2 v1 v2, σ' = [some (.ref a), some (.ref pg), some (.ref p), some (.ref pt), w4, none] ∧ H' pt = some (.lst [x1, x2]) ∧ FF K H' x1 v1 ∧ FF K H' x2 v2 ∧ (0 < i → v1.wd ≠ "gap") ∧ (1 < i → v2.wd ≠ "gap") ∧ Same H7 H') ⟨none, y1, y2, u1, u2, rfl, e8, g1, g2, (fun h => by omega), (fun h => by omega), s8⟩ ?_ ?_
    · rintro i σ' H9 hi ⟨w4, x1, x2, v1, v2, rfl, e9, h1, h2, c1, c2, s9⟩
      have qg9 := s9.tup qg7
      have qe9 := s9.tup qe7
      have tg9 : TrAt K H9 (.ref pg) gapT := TrAt.gap qg9 qe9
      walk_at "r"
      have hi : i = 0 ∨ i = 1 := by have : i < 2 := hi; omega
      rcases hi with rfl | rfl
      · refine s_ix_lst (v := x1) (SqL.of e9) rfl ?_
        walk_at "r"
        by_cases hw : v1.wd = "gap"
        · have hv : v1 = gapT := gap_only h1.2.1 hw
          obtain ⟨xa, ex⟩ := not_ref h1.1
          have ti : TrAt K H9 (.ref xa) gapT := by rw [← ex, ← hv]; exact h1.1
          rw [ex]
          refine s_eqfD (n := 190) (Nat.le_refl _) (tr_isD ti (by rw [gapT_size]; omega)) (tr_isD tg9 (by rw [gapT_size]; omega)) ?_
          walk_at "r"
          refine s_ix_lst (SqL.of (s9 _ _ e7)) rfl ?_
          walk_at "r"
          refine ⟨by show 2 ≤ sizeLine; decide, fun q1 hq1 => ?_⟩
          have r1 := Same.upd (o := .tup [.ref pg, .ref pg]) hq1
          walk_at "r"
          refine ⟨by show 3 ≤ sizeLine; decide, fun q2 hq2 => ?_⟩
          have r2 := Same.upd (o := .tup [.str "let", .str t0, .ref q1]) hq2
          have r12 := r1.trans r2
          have k1 := r2.tup (SqT.of (K := K) (upd_same (H := H9) (a := q1) (o := .tup [.ref pg, .ref pg])))
          have k2 := SqT.of (K := K) (upd_same (H := upd H9 q1 (.tup [.ref pg, .ref pg])) (a := q2) (o := .tup [.str "let", .str t0, .ref q1]))
          revert r12 k1 k2
          generalize upd (upd H9 q1 (.tup [.ref pg, .ref pg])) q2 (.tup [.str "let", .str t0, .ref q1]) = H10
          intro r12 k1 k2
          have e10 := r12 _ _ e9
          have tg10 := tg9.same r12
          walk_at "r"
          refine s_setL e10 (j := 0) rfl ?_
          have st : SameT H10 (upd H10 pt (.lst [.ref q2, x2])) := SameT.set e10
          have FL : FF K (upd H10 pt (.lst [.ref q2, x2])) (.ref q2) (letT t0) := by
            refine ⟨TrAt.sameT (.mk k2 (.inl ⟨rfl, rfl⟩) k1 rfl fun j v y f1 f2 => ?_) st, TrOk.let n0 TrOk.gap TrOk.gap, by rw [letT_size]; omega⟩
            match j, f1, f2 with
            | 0, f1, f2 => cases f1; cases f2; exact tg10
            | 1, f1, f2 => cases f1; cases f2; exact tg10
          have OT := h2.same r12
          have OT : FF K (upd H10 pt (.lst [.ref q2, x2])) _ _ := ⟨OT.1.sameT st, OT.2⟩
          exact ⟨_, (.ref q2), x2, letT t0, v2, rfl, upd_same, FL, OT, (fun _ => letT_wd t0), (fun h => by omega), (s9.trans r12).over hpt⟩
        · obtain ⟨xa, xp, xn, xs, ex, qx, nx, qxp⟩ := tr_parts h1.1
          rw [ex]
          refine s_eqfG qx nx qxp qg9 qe9 hw ?_
          walk_at "r"
          exact ⟨_, x1, x2, v1, v2, rfl, e9, h1, h2, (fun _ => hw), (fun h => by omega), s9⟩
      · refine s_ix_lst (v := x2) (SqL.of e9) rfl ?_
        walk_at "r"
        by_cases hw : v2.wd = "gap"
        · have hv : v2 = gapT := gap_only h2.2.1 hw
          obtain ⟨xa, ex⟩ := not_ref h2.1
          have ti : TrAt K H9 (.ref xa) gapT := by rw [← ex, ← hv]; exact h2.1
          rw [ex]
          refine s_eqfD (n := 190) (Nat.le_refl _) (tr_isD ti (by rw [gapT_size]; omega)) (tr_isD tg9 (by rw [gapT_size]; omega)) ?_
          walk_at "r"
          refine s_ix_lst (SqL.of (s9 _ _ e7)) rfl ?_
          walk_at "r"
          refine ⟨by show 2 ≤ sizeLine; decide, fun q1 hq1 => ?_⟩
          have r1 := Same.upd (o := .tup [.ref pg, .ref pg]) hq1
          walk_at "r"
          refine ⟨by show 3 ≤ sizeLine; decide, fun q2 hq2 => ?_⟩
          have r2 := Same.upd (o := .tup [.str "let", .str t0, .ref q1]) hq2
          have r12 := r1.trans r2
          have k1 := r2.tup (SqT.of (K := K) (upd_same (H := H9) (a := q1) (o := .tup [.ref pg, .ref pg])))
          have k2 := SqT.of (K := K) (upd_same (H := upd H9 q1 (.tup [.ref pg, .ref pg])) (a := q2) (o := .tup [.str "let", .str t0, .ref q1]))
          revert r12 k1 k2
          generalize upd (upd H9 q1 (.tup [.ref pg, .ref pg])) q2 (.tup [.str "let", .str t0, .ref q1]) = H10
          intro r12 k1 k2
          have e10 := r12 _ _ e9
          have tg10 := tg9.same r12
          walk_at "r"
          refine s_setL e10 (j := 1) rfl ?_
          have st : SameT H10 (upd H10 pt (.lst [x1, .ref q2])) := SameT.set e10
          have FL : FF K (upd H10 pt (.lst [x1, .ref q2])) (.ref q2) (letT t0) := by
            refine ⟨TrAt.sameT (.mk k2 (.inl ⟨rfl, rfl⟩) k1 rfl fun j v y f1 f2 => ?_) st, TrOk.let n0 TrOk.gap TrOk.gap, by rw [letT_size]; omega⟩
            match j, f1, f2 with
            | 0, f1, f2 => cases f1; cases f2; exact tg10
            | 1, f1, f2 => cases f1; cases f2; exact tg10
          have OT := h1.same r12
          have OT : FF K (upd H10 pt (.lst [x1, .ref q2])) _ _ := ⟨OT.1.sameT st, OT.2⟩
          exact ⟨_, x1, (.ref q2), v1, letT t0, rfl, upd_same, OT, FL, (fun _ => c1 (by omega)), (fun _ => letT_wd t0), (s9.trans r12).over hpt⟩
        · obtain ⟨xa, xp, xn, xs, ex, qx, nx, qxp⟩ := tr_parts h2.1
          rw [ex]
          refine s_eqfG qx nx qxp qg9 qe9 hw ?_
          walk_at "r"
          exact ⟨_, x1, x2, v1, v2, rfl, e9, h1, h2, (fun _ => c1 (by omega)), (fun _ => hw), s9⟩
    · rintro σ' H9 ⟨w4, x1, x2, v1, v2, rfl, e9, h1, h2, c1, c2, s9⟩
      have c1 := c1 (by decide)
      have c2 := c2 (by decide)
      have qg9 := s9.tup qg7
      have qe9 := s9.tup qe7
      have tg9 : TrAt K H9 (.ref pg) gapT := TrAt.gap qg9 qe9
      have S9 := S.same (m7.trans s9)
      walk_at "r"
      refine ⟨by decide, by decide, ?_⟩
      refine for_range (n := (2 : Int).toNat) (fun i σ' H' => ∃ w4, σ' = [some (.ref a), some (.ref pg), some (.ref p), some (.ref pt), w4, none] ∧ Same H9 H') ⟨w4, rfl, Same.refl _⟩ ?_ ?_
      · rintro i σ' H10 hi ⟨w4', rfl, s10⟩
        have e10 := s10 _ _ e9
        walk_at "r"
        have hi : i = 0 ∨ i = 1 := by have : i < 2 := hi; omega
        rcases hi with rfl | rfl
        · refine s_ix_lst (v := x1) (SqL.of e10) rfl ?_
          walk_at "r"
          refine s_ix_lst (v := x2) (SqL.of e10) rfl ?_
          walk_at "r"
          refine ⟨a, 2, rfl, S9.same s10, by decide, fun z2 => ?_⟩
          walk_at "r"
          refine ⟨x1, x2, z2, v1, v2, rfl, h1.same s10, c1, h2.same s10, c2, fun H11 s11 => ?_⟩
          walk_at "r"
          exact ⟨_, rfl, s10.trans s11⟩
        · refine s_ix_lst (v := x2) (SqL.of e10) rfl ?_
          walk_at "r"
          refine s_ix_lst (v := x1) (SqL.of e10) rfl ?_
          walk_at "r"
          refine ⟨a, 2, rfl, S9.same s10, by decide, fun z2 => ?_⟩
          walk_at "r"
          refine ⟨x2, x1, z2, v2, v1, rfl, h2.same s10, c2, h1.same s10, c1, fun H11 s11 => ?_⟩
          walk_at "r"
          exact ⟨_, rfl, s10.trans s11⟩
      · rintro σ' H10 ⟨w4', rfl, s10⟩
        have e10 := s10 _ _ e9
        have fg : ∀ {H'}, Same H10 H' → FF K H' (.ref pg) gapT := fun e => FF.gap (tg9.same (s10.trans e))
        walk_at "r"
        refine ⟨.ref pg, false, rfl, .inl ⟨gapT, fg (Same.refl _), fun _ xc H11 s11 dc => ?_, fun h => nomatch h.1⟩⟩
        walk_at "r"
        refine ⟨.ref pg, true, rfl, .inl ⟨gapT, fg s11, fun h => absurd ⟨rfl, rfl⟩ h, fun _ v3 H12 s12 hT => ?_⟩⟩
        obtain ⟨p3, rfl, e3⟩ := hT
        walk_at "r"
        refine ⟨by show 2 ≤ sizeLine; decide, fun p4 hp4 => ?_⟩
        have s13 := Same.upd (o := .lst [.bl true, .str "form"]) hp4
        refine s_eqfD (n := 1) (by decide) (told_isD (s13 _ _ e3)) (told_isD upd_same) ?_
        have k12 := s12.trans s13
        have k11 := s11.trans k12
        walk_at "r"
        refine s_ix_lst (v := x1) (SqL.of (k11 _ _ e10)) rfl ?_
        walk_at "r"
        exact ⟨xc, .chg (.ref pg), x1, v1, .ref pg, gapT, .ref pg, x1, rfl, dc.same k12, h1.same (s10.trans k11), fg k11, rfl, (fg k11).1, rfl, (h1.same (s10.trans k11)).1, fun H' _ => q H'⟩
end
end K21

set_option Elab.async false
set_option linter.all false
set_option maxRecDepth 100000
set_option maxHeartbeats 8000000
namespace K21
open PySem L2
noncomputable def w0 : Stmt := let +zeta a := _; let +zeta b := _; let +zeta c := _; have +usedOnly q : top 0 = .Assign a b c := rfl; .Assign a b c
noncomputable def w1 : Stmt := let +zeta a := _; let +zeta b := _; let +zeta c := _; let +zeta d := _; let +zeta e := _; let +zeta f := _; let +zeta g := _; let +zeta h := _; let +zeta i := _; let +zeta j := _; let +zeta k := _; have +usedOnly q : top 1 = .ClassDef a b c d e f g h i j k := rfl; .ClassDef a b c d e f g h i j k
noncomputable def w2 : Stmt := let +zeta a := _; let +zeta b := _; let +zeta c := _; let +zeta d := _; let +zeta e := _; let +zeta f := _; let +zeta g := _; let +zeta h := _; let +zeta i := _; let +zeta j := _; let +zeta k := _; have +usedOnly q : top 2 = .ClassDef a b c d e f g h i j k := rfl; .ClassDef a b c d e f g h i j k
noncomputable def w3 : Stmt := let +zeta a := _; let +zeta b := _; let +zeta c := _; let +zeta d := _; let +zeta e := _; let +zeta f := _; let +zeta g := _; let +zeta h := _; let +zeta i := _; let +zeta j := _; let +zeta k := _; have +usedOnly q : top 3 = .ClassDef a b c d e f g h i j k := rfl; .ClassDef a b c d e f g h i j k
noncomputable def w4 : Stmt := let +zeta a := _; let +zeta b := _; let +zeta c := _; let +zeta d := _; let +zeta e := _; let +zeta f := _; let +zeta g := _; let +zeta h := _; let +zeta i := _; let +zeta j := _; let +zeta k := _; have +usedOnly q : top 4 = .ClassDef a b c d e f g h i j k := rfl; .ClassDef a b c d e f g h i j k
noncomputable def w5 : Stmt := let +zeta a := _; let +zeta b := _; let +zeta c := _; have +usedOnly q : top 5 = .Assign a b c := rfl; .Assign a b c
noncomputable def w6 : Stmt := let +zeta a := _; let +zeta b := _; let +zeta c := _; have +usedOnly q : top 6 = .Assign a b c := rfl; .Assign a b c
noncomputable def w7 : Stmt := let +zeta a := _; let +zeta b := _; let +zeta c := _; have +usedOnly q : top 7 = .Assign a b c := rfl; .Assign a b c
noncomputable def w8 : Stmt := let +zeta a := _; let +zeta b := _; let +zeta c := _; have +usedOnly q : top 8 = .Assign a b c := rfl; .Assign a b c
noncomputable def w9 : Stmt := let +zeta a := _; let +zeta b := _; let +zeta c := _; have +usedOnly q : top 9 = .Assign a b c := rfl; .Assign a b c
noncomputable def w10 : Stmt := let +zeta a := _; let +zeta b := _; let +zeta c := _; have +usedOnly q : top 10 = .Assign a b c := rfl; .Assign a b c
noncomputable def w11 : Stmt := let +zeta a := _; let +zeta b := _; let +zeta c := _; have +usedOnly q : top 11 = .Assign a b c := rfl; .Assign a b c
noncomputable def w12 : Stmt := let +zeta a := _; let +zeta b := _; let +zeta c := _; let +zeta d := _; let +zeta e := _; let +zeta f := _; let +zeta g := _; let +zeta h := _; let +zeta i := _; let +zeta j := _; have +usedOnly q : top 12 = .FunctionDef a b c d e f g h i j := rfl; .FunctionDef a b c d e f g h i j
noncomputable def w13 : Stmt := let +zeta a := _; let +zeta b := _; let +zeta c := _; let +zeta d := _; let +zeta e := _; let +zeta f := _; let +zeta g := _; let +zeta h := _; let +zeta i := _; let +zeta j := _; have +usedOnly q : top 13 = .FunctionDef a b c d e f g h i j := rfl; .FunctionDef a b c d e f g h i j
noncomputable def w14 : Stmt := let +zeta a := _; let +zeta b := _; let +zeta c := _; let +zeta d := _; let +zeta e := _; let +zeta f := _; let +zeta g := _; let +zeta h := _; let +zeta i := _; let +zeta j := _; have +usedOnly q : top 14 = .FunctionDef a b c d e f g h i j := rfl; .FunctionDef a b c d e f g h i j
noncomputable def w15 : Stmt := let +zeta a := _; let +zeta b := _; let +zeta c := _; let +zeta d := _; let +zeta e := _; let +zeta f := _; let +zeta g := _; let +zeta h := _; let +zeta i := _; let +zeta j := _; have +usedOnly q : top 15 = .FunctionDef a b c d e f g h i j := rfl; .FunctionDef a b c d e f g h i j
noncomputable def w16 : Stmt := let +zeta a := _; let +zeta b := _; let +zeta c := _; let +zeta d := _; let +zeta e := _; let +zeta f := _; let +zeta g := _; let +zeta h := _; let +zeta i := _; let +zeta j := _; have +usedOnly q : top 16 = .FunctionDef a b c d e f g h i j := rfl; .FunctionDef a b c d e f g h i j
noncomputable def w17 : Stmt := let +zeta a := _; let +zeta b := _; let +zeta c := _; let +zeta d := _; let +zeta e := _; let +zeta f := _; let +zeta g := _; let +zeta h := _; let +zeta i := _; let +zeta j := _; have +usedOnly q : top 17 = .FunctionDef a b c d e f g h i j := rfl; .FunctionDef a b c d e f g h i j
noncomputable def w18 : Stmt := let +zeta a := _; let +zeta b := _; let +zeta c := _; let +zeta d := _; let +zeta e := _; let +zeta f := _; let +zeta g := _; let +zeta h := _; let +zeta i := _; let +zeta j := _; have +usedOnly q : top 18 = .FunctionDef a b c d e f g h i j := rfl; .FunctionDef a b c d e f g h i j
noncomputable def w19 : Stmt := let +zeta a := _; let +zeta b := _; let +zeta c := _; let +zeta d := _; let +zeta e := _; let +zeta f := _; let +zeta g := _; let +zeta h := _; let +zeta i := _; let +zeta j := _; have +usedOnly q : top 19 = .FunctionDef a b c d e f g h i j := rfl; .FunctionDef a b c d e f g h i j
noncomputable def w20 : Stmt := let +zeta a := _; let +zeta b := _; let +zeta c := _; let +zeta d := _; let +zeta e := _; let +zeta f := _; let +zeta g := _; let +zeta h := _; let +zeta i := _; let +zeta j := _; have +usedOnly q : top 20 = .FunctionDef a b c d e f g h i j := rfl; .FunctionDef a b c d e f g h i j
noncomputable def w21 : Stmt := let +zeta a := _; let +zeta b := _; let +zeta c := _; let +zeta d := _; let +zeta e := _; let +zeta f := _; let +zeta g := _; let +zeta h := _; let +zeta i := _; let +zeta j := _; have +usedOnly q : top 21 = .FunctionDef a b c d e f g h i j := rfl; .FunctionDef a b c d e f g h i j
noncomputable def w22 : Stmt := let +zeta a := _; let +zeta b := _; let +zeta c := _; have +usedOnly q : top 22 = .Assign a b c := rfl; .Assign a b c
noncomputable def w23 : Stmt := let +zeta a := _; let +zeta b := _; let +zeta c := _; let +zeta d := _; let +zeta e := _; let +zeta f := _; let +zeta g := _; let +zeta h := _; let +zeta i := _; let +zeta j := _; have +usedOnly q : top 23 = .FunctionDef a b c d e f g h i j := rfl; .FunctionDef a b c d e f g h i j
noncomputable def w24 : Stmt := let +zeta a := _; let +zeta b := _; let +zeta c := _; let +zeta d := _; let +zeta e := _; let +zeta f := _; let +zeta g := _; let +zeta h := _; let +zeta i := _; let +zeta j := _; have +usedOnly q : top 24 = .FunctionDef a b c d e f g h i j := rfl; .FunctionDef a b c d e f g h i j
noncomputable def w25 : Stmt := let +zeta a := _; let +zeta b := _; let +zeta c := _; let +zeta d := _; let +zeta e := _; let +zeta f := _; let +zeta g := _; let +zeta h := _; let +zeta i := _; let +zeta j := _; let +zeta k := _; have +usedOnly q : top 25 = .ClassDef a b c d e f g h i j k := rfl; .ClassDef a b c d e f g h i j k
noncomputable def w26_0 : Stmt := let +zeta a := _; let +zeta b := _; let +zeta c := _; let +zeta d := _; let +zeta e := _; let +zeta f := _; let +zeta g := _; let +zeta h := _; let +zeta i := _; let +zeta j := _; have +usedOnly q : (match top 26 with | .ClassDef _ _ _ b _ _ _ _ _ _ _ => b.getD 0 (.Pass ⟨0, 0, 0, 0⟩) | s => s) = .FunctionDef a b c d e f g h i j := rfl; .FunctionDef a b c d e f g h i j
noncomputable def w26_1 : Stmt := let +zeta a := _; let +zeta b := _; let +zeta c := _; let +zeta d := _; let +zeta e := _; let +zeta f := _; let +zeta g := _; let +zeta h := _; let +zeta i := _; let +zeta j := _; have +usedOnly q : (match top 26 with | .ClassDef _ _ _ b _ _ _ _ _ _ _ => b.getD 1 (.Pass ⟨0, 0, 0, 0⟩) | s => s) = .FunctionDef a b c d e f g h i j := rfl; .FunctionDef a b c d e f g h i j
noncomputable def w26_2 : Stmt := let +zeta a := _; let +zeta b := _; let +zeta c := _; let +zeta d := _; let +zeta e := _; let +zeta f := _; let +zeta g := _; let +zeta h := _; let +zeta i := _; let +zeta j := _; have +usedOnly q : (match top 26 with | .ClassDef _ _ _ b _ _ _ _ _ _ _ => b.getD 2 (.Pass ⟨0, 0, 0, 0⟩) | s => s) = .FunctionDef a b c d e f g h i j := rfl; .FunctionDef a b c d e f g h i j
noncomputable def w26 : Stmt := let +zeta a := _; let +zeta b := _; let +zeta c := _; let +zeta d := _; let +zeta e := _; let +zeta f := _; let +zeta g := _; let +zeta h := _; let +zeta i := _; let +zeta j := _; let +zeta k := _; have +usedOnly q : top 26 = .ClassDef a b c d e f g h i j k := rfl; .ClassDef a b c [w26_0, w26_1, w26_2] e f g h i j k
noncomputable def w27 : Stmt := let +zeta a := _; let +zeta b := _; let +zeta c := _; let +zeta d := _; let +zeta e := _; let +zeta f := _; let +zeta g := _; let +zeta h := _; let +zeta i := _; let +zeta j := _; let +zeta k := _; have +usedOnly q : top 27 = .ClassDef a b c d e f g h i j k := rfl; .ClassDef a b c d e f g h i j k
noncomputable def w28_0 : Stmt := let +zeta a := _; let +zeta b := _; let +zeta c := _; let +zeta d := _; let +zeta e := _; let +zeta f := _; let +zeta g := _; let +zeta h := _; let +zeta i := _; let +zeta j := _; have +usedOnly q : (match top 28 with | .ClassDef _ _ _ b _ _ _ _ _ _ _ => b.getD 0 (.Pass ⟨0, 0, 0, 0⟩) | s => s) = .FunctionDef a b c d e f g h i j := rfl; .FunctionDef a b c d e f g h i j
noncomputable def w28_1 : Stmt := let +zeta a := _; let +zeta b := _; let +zeta c := _; let +zeta d := _; let +zeta e := _; let +zeta f := _; let +zeta g := _; let +zeta h := _; let +zeta i := _; let +zeta j := _; have +usedOnly q : (match top 28 with | .ClassDef _ _ _ b _ _ _ _ _ _ _ => b.getD 1 (.Pass ⟨0, 0, 0, 0⟩) | s => s) = .FunctionDef a b c d e f g h i j := rfl; .FunctionDef a b c d e f g h i j
noncomputable def w28_2 : Stmt := let +zeta a := _; let +zeta b := _; let +zeta c := _; let +zeta d := _; let +zeta e := _; let +zeta f := _; let +zeta g := _; let +zeta h := _; let +zeta i := _; let +zeta j := _; have +usedOnly q : (match top 28 with | .ClassDef _ _ _ b _ _ _ _ _ _ _ => b.getD 2 (.Pass ⟨0, 0, 0, 0⟩) | s => s) = .FunctionDef a b c d e f g h i j := rfl; .FunctionDef a b c d e f g h i j
noncomputable def w28 : Stmt := let +zeta a := _; let +zeta b := _; let +zeta c := _; let +zeta d := _; let +zeta e := _; let +zeta f := _; let +zeta g := _; let +zeta h := _; let +zeta i := _; let +zeta j := _; let +zeta k := _; have +usedOnly q : top 28 = .ClassDef a b c d e f g h i j k := rfl; .ClassDef a b c [w28_0, w28_1, w28_2] e f g h i j k
noncomputable def w29 : Stmt := let +zeta a := _; let +zeta b := _; let +zeta c := _; have +usedOnly q : top 29 = .Assign a b c := rfl; .Assign a b c
noncomputable def w30 : Stmt := let +zeta a := _; let +zeta b := _; let +zeta c := _; let +zeta d := _; let +zeta e := _; let +zeta f := _; let +zeta g := _; let +zeta h := _; let +zeta i := _; let +zeta j := _; have +usedOnly q : top 30 = .FunctionDef a b c d e f g h i j := rfl; .FunctionDef a b c d e f g h i j
noncomputable def w31 : Stmt := let +zeta a := _; let +zeta b := _; let +zeta c := _; let +zeta d := _; let +zeta e := _; let +zeta f := _; let +zeta g := _; let +zeta h := _; let +zeta i := _; let +zeta j := _; have +usedOnly q : top 31 = .FunctionDef a b c d e f g h i j := rfl; .FunctionDef a b c d e f g h i j
noncomputable def w32 : Stmt := let +zeta a := _; let +zeta b := _; let +zeta c := _; let +zeta d := _; let +zeta e := _; let +zeta f := _; let +zeta g := _; let +zeta h := _; let +zeta i := _; let +zeta j := _; have +usedOnly q : top 32 = .FunctionDef a b c d e f g h i j := rfl; .FunctionDef a b c d e f g h i j
noncomputable def w33 : Stmt := let +zeta a := _; let +zeta b := _; let +zeta c := _; let +zeta d := _; let +zeta e := _; let +zeta f := _; let +zeta g := _; let +zeta h := _; let +zeta i := _; let +zeta j := _; have +usedOnly q : top 33 = .FunctionDef a b c d e f g h i j := rfl; .FunctionDef a b c d e f g h i j
noncomputable def w34 : Stmt := let +zeta a := _; let +zeta b := _; let +zeta c := _; let +zeta d := _; let +zeta e := _; let +zeta f := _; let +zeta g := _; let +zeta h := _; let +zeta i := _; let +zeta j := _; have +usedOnly q : top 34 = .FunctionDef a b c d e f g h i j := rfl; .FunctionDef a b c d e f g h i j
noncomputable def w35 : Stmt := let +zeta a := _; let +zeta b := _; let +zeta c := _; let +zeta d := _; let +zeta e := _; let +zeta f := _; let +zeta g := _; let +zeta h := _; let +zeta i := _; let +zeta j := _; have +usedOnly q : top 35 = .FunctionDef a b c d e f g h i j := rfl; .FunctionDef a b c d e f g h i j
noncomputable def w36 : Stmt := let +zeta a := _; let +zeta b := _; let +zeta c := _; let +zeta d := _; let +zeta e := _; let +zeta f := _; let +zeta g := _; let +zeta h := _; let +zeta i := _; let +zeta j := _; have +usedOnly q : top 36 = .FunctionDef a b c d e f g h i j := rfl; .FunctionDef a b c d e f g h i j
noncomputable def w37 : Stmt := let +zeta a := _; let +zeta b := _; let +zeta c := _; let +zeta d := _; let +zeta e := _; let +zeta f := _; let +zeta g := _; let +zeta h := _; let +zeta i := _; let +zeta j := _; have +usedOnly q : top 37 = .FunctionDef a b c d e f g h i j := rfl; .FunctionDef a b c d e f g h i j
noncomputable def w38 : Stmt := let +zeta a := _; let +zeta b := _; let +zeta c := _; let +zeta d := _; let +zeta e := _; let +zeta f := _; let +zeta g := _; let +zeta h := _; let +zeta i := _; let +zeta j := _; have +usedOnly q : top 38 = .FunctionDef a b c d e f g h i j := rfl; .FunctionDef a b c d e f g h i j
noncomputable def w39 : Stmt := let +zeta a := _; let +zeta b := _; let +zeta c := _; let +zeta d := _; let +zeta e := _; let +zeta f := _; let +zeta g := _; let +zeta h := _; let +zeta i := _; let +zeta j := _; have +usedOnly q : top 39 = .FunctionDef a b c d e f g h i j := rfl; .FunctionDef a b c d e f g h i j
noncomputable def w40 : Stmt := let +zeta a := _; let +zeta b := _; let +zeta c := _; let +zeta d := _; let +zeta e := _; let +zeta f := _; let +zeta g := _; let +zeta h := _; let +zeta i := _; let +zeta j := _; have +usedOnly q : top 40 = .FunctionDef a b c d e f g h i j := rfl; .FunctionDef a b c d e f g h i j
noncomputable def w41 : Stmt := let +zeta a := _; let +zeta b := _; let +zeta c := _; let +zeta d := _; let +zeta e := _; let +zeta f := _; let +zeta g := _; let +zeta h := _; let +zeta i := _; let +zeta j := _; have +usedOnly q : top 41 = .FunctionDef a b c d e f g h i j := rfl; .FunctionDef a b c d e f g h i j
noncomputable def w42 : Stmt := let +zeta a := _; let +zeta b := _; let +zeta c := _; let +zeta d := _; let +zeta e := _; let +zeta f := _; let +zeta g := _; let +zeta h := _; let +zeta i := _; let +zeta j := _; have +usedOnly q : top 42 = .FunctionDef a b c d e f g h i j := rfl; .FunctionDef a b c d e f g h i j
noncomputable def w43 : Stmt := let +zeta a := _; let +zeta b := _; let +zeta c := _; let +zeta d := _; let +zeta e := _; let +zeta f := _; let +zeta g := _; let +zeta h := _; let +zeta i := _; let +zeta j := _; have +usedOnly q : top 43 = .FunctionDef a b c d e f g h i j := rfl; .FunctionDef a b c d e f g h i j
noncomputable def w44 : Stmt := let +zeta a := _; let +zeta b := _; let +zeta c := _; let +zeta d := _; let +zeta e := _; let +zeta f := _; let +zeta g := _; let +zeta h := _; let +zeta i := _; let +zeta j := _; have +usedOnly q : top 44 = .FunctionDef a b c d e f g h i j := rfl; .FunctionDef a b c d e f g h i j
noncomputable def w45 : Stmt := let +zeta a := _; let +zeta b := _; let +zeta c := _; let +zeta d := _; let +zeta e := _; let +zeta f := _; let +zeta g := _; let +zeta h := _; let +zeta i := _; let +zeta j := _; have +usedOnly q : top 45 = .FunctionDef a b c d e f g h i j := rfl; .FunctionDef a b c d e f g h i j
noncomputable def w46 : Stmt := let +zeta a := _; let +zeta b := _; let +zeta c := _; let +zeta d := _; let +zeta e := _; let +zeta f := _; let +zeta g := _; let +zeta h := _; let +zeta i := _; let +zeta j := _; have +usedOnly q : top 46 = .FunctionDef a b c d e f g h i j := rfl; .FunctionDef a b c d e f g h i j
noncomputable def w47 : Stmt := let +zeta a := _; let +zeta b := _; let +zeta c := _; let +zeta d := _; let +zeta e := _; let +zeta f := _; let +zeta g := _; let +zeta h := _; let +zeta i := _; let +zeta j := _; have +usedOnly q : top 47 = .FunctionDef a b c d e f g h i j := rfl; .FunctionDef a b c d e f g h i j
noncomputable def w48 : Stmt := let +zeta a := _; let +zeta b := _; let +zeta c := _; let +zeta d := _; let +zeta e := _; let +zeta f := _; let +zeta g := _; let +zeta h := _; let +zeta i := _; let +zeta j := _; have +usedOnly q : top 48 = .FunctionDef a b c d e f g h i j := rfl; .FunctionDef a b c d e f g h i j
noncomputable def PWc : Program := let +zeta a := _; let +zeta b := _; let +zeta c := _; let +zeta d := _; let +zeta e := _; let +zeta f := _; let +zeta g := _; let +zeta h := _; let +zeta i := _; let +zeta j := _; have +usedOnly q : PySem.Challenge.pw_gapscribe_k21_fills_cuts_changes = ⟨⟨a, b, c, d, e⟩, f, g, h, i, j⟩ := rfl; ⟨⟨[w0, w1, w2, w3, w4, w5, w6, w7, w8, w9, w10, w11, w12, w13, w14, w15, w16, w17, w18, w19, w20, w21, w22, w23, w24, w25, w26, w27, w28, w29, w30, w31, w32, w33, w34, w35, w36, w37, w38, w39, w40, w41, w42, w43, w44, w45, w46, w47, w48], b, c, d, e⟩, f, g, h, i, j⟩
theorem e_PW : PWc = PWc := rfl
name_quick x_PW for K21.PWc by K21.e_PW
end K21
noncomputable def PySem.W.Fast.tw404314107153023184 : PySem.Program := PySem.W.Fast.tw5913206854971593824
theorem PySem.W.Fast.te404314107153023184 : PySem.Challenge.pw_gapscribe_k21_fills_cuts_changes = PySem.W.Fast.tw404314107153023184 := (rfl : PySem.Challenge.pw_gapscribe_k21_fills_cuts_changes = K21.PWc).trans PySem.W.Fast.te5913206854971593824
namespace K21
open PySem L2
noncomputable def VWc : Program := { PySem.Challenge.pw_gapscribe_k21_fills_cuts_changes with main := { PySem.Challenge.pw_gapscribe_k21_fills_cuts_changes.main with body := [w1, w2, w3, w4, w6, w7, w8, w9, w10, w11, w12, w13, w14, w15, w16, w17, w18, w19, w20, w21, w23, w24, w25, w26, w27, w28, w30, w31, w32, w33, w34, w35, w36, w37, w38, w39, w40, w41, w42, w43, w44, w45, w46, w47, w48] } }
noncomputable def S0 : List Stmt := [w32, w33, w34, w35, w36, w37, w38, w39, w40, w41, w42, w43]
noncomputable def S1 : List Stmt := [w7, w8, w9, w10, w11, w12, w13, w14, w15, w16]
noncomputable def S2 : List Stmt := [w0, w1]
noncomputable def S3 : List Stmt := [w25]
noncomputable def S4 : List Stmt := [w17, w18, w19, w20, w21, w22, w23, w24]
noncomputable def S5 : List Stmt := [w4, w5, w6]
noncomputable def S6 : List Stmt := [w28, w29, w30, w31]
noncomputable def S7 : List Stmt := [w27]
noncomputable def S8 : List Stmt := [w3]
noncomputable def S9 : List Stmt := [w2]
noncomputable def S10 : List Stmt := [w44, w45, w46, w47, w48]
noncomputable def S11 : List Stmt := [w26]
noncomputable def SB : Program × List (List Stmt) := (VWc, [S0, S1, S2, S3, S4, S5, S6, S7, S8, S9, S10, S11])
theorem e_SB : SB = SB := rfl
name_quick x_SB for K21.SB by K21.e_SB
end K21
noncomputable def PySem.W.Fast.tw7832607137517167627 : PySem.Program := PySem.W.Fast.tw1068106983429566910
theorem PySem.W.Fast.te7832607137517167627 : K21.VWc = PySem.W.Fast.tw7832607137517167627 := PySem.W.Fast.te1068106983429566910
noncomputable def PySem.W.Fast.tw1394588006557267140 : List PySem.Stmt := PySem.W.Fast.tw5550625674174202634
theorem PySem.W.Fast.te1394588006557267140 : K21.S0 = PySem.W.Fast.tw1394588006557267140 := PySem.W.Fast.te5550625674174202634
noncomputable def PySem.W.Fast.tw3585166162769813126 : List PySem.Stmt := PySem.W.Fast.tw6505750596612929583
theorem PySem.W.Fast.te3585166162769813126 : K21.S1 = PySem.W.Fast.tw3585166162769813126 := PySem.W.Fast.te6505750596612929583
noncomputable def PySem.W.Fast.tw6535304662018368775 : List PySem.Stmt := PySem.W.Fast.tw1189923072216989568
theorem PySem.W.Fast.te6535304662018368775 : K21.S2 = PySem.W.Fast.tw6535304662018368775 := PySem.W.Fast.te1189923072216989568
noncomputable def PySem.W.Fast.tw9566621015046010764 : List PySem.Stmt := PySem.W.Fast.tw3650522304769023086
theorem PySem.W.Fast.te9566621015046010764 : K21.S3 = PySem.W.Fast.tw9566621015046010764 := PySem.W.Fast.te3650522304769023086
noncomputable def PySem.W.Fast.tw1112401161334257069 : List PySem.Stmt := PySem.W.Fast.tw3127585828756656515
theorem PySem.W.Fast.te1112401161334257069 : K21.S4 = PySem.W.Fast.tw1112401161334257069 := PySem.W.Fast.te3127585828756656515
noncomputable def PySem.W.Fast.tw242270213599605615 : List PySem.Stmt := PySem.W.Fast.tw1829058175370323691
theorem PySem.W.Fast.te242270213599605615 : K21.S5 = PySem.W.Fast.tw242270213599605615 := PySem.W.Fast.te1829058175370323691
noncomputable def PySem.W.Fast.tw17081540553126094000 : List PySem.Stmt := PySem.W.Fast.tw14301077047746457970
theorem PySem.W.Fast.te17081540553126094000 : K21.S6 = PySem.W.Fast.tw17081540553126094000 := PySem.W.Fast.te14301077047746457970
noncomputable def PySem.W.Fast.tw9551787973085709682 : List PySem.Stmt := PySem.W.Fast.tw16570420710961873906
theorem PySem.W.Fast.te9551787973085709682 : K21.S7 = PySem.W.Fast.tw9551787973085709682 := PySem.W.Fast.te16570420710961873906
noncomputable def PySem.W.Fast.tw10007568274436686837 : List PySem.Stmt := PySem.W.Fast.tw15488074538189749509
theorem PySem.W.Fast.te10007568274436686837 : K21.S8 = PySem.W.Fast.tw10007568274436686837 := PySem.W.Fast.te15488074538189749509
noncomputable def PySem.W.Fast.tw17144130213161752630 : List PySem.Stmt := PySem.W.Fast.tw4817605538577501054
theorem PySem.W.Fast.te17144130213161752630 : K21.S9 = PySem.W.Fast.tw17144130213161752630 := PySem.W.Fast.te4817605538577501054
noncomputable def PySem.W.Fast.tw12070058190761141591 : List PySem.Stmt := PySem.W.Fast.tw1252054187315128003
theorem PySem.W.Fast.te12070058190761141591 : K21.S10 = PySem.W.Fast.tw12070058190761141591 := PySem.W.Fast.te1252054187315128003
noncomputable def PySem.W.Fast.tw1498732043061893979 : List PySem.Stmt := PySem.W.Fast.tw17073740046830428358
theorem PySem.W.Fast.te1498732043061893979 : K21.S11 = PySem.W.Fast.tw1498732043061893979 := PySem.W.Fast.te17073740046830428358

set_option Elab.async false
set_option linter.all false
set_option maxRecDepth 100000
set_option maxHeartbeats 8000000
namespace K21
open PySem L2 PySem.W
noncomputable def ze (P : Params) (s : Str) (t : Tok) (v : Value) : DictEntry := ⟨PyData.keyHash P s, .str s t, v⟩
noncomputable abbrev B := PySem.W.BT
noncomputable def zl (o : Obj) : B := .node o .nil .nil
noncomputable def zm (o : Obj) (l : B) : B := .node o l .nil
noncomputable def zt (c : String) (d : Data) : Obj := ⟨.type c, none, d, #[]⟩
noncomputable def zf (n q : Str) (s : Stmt) (m : Str) (t : Tok) (c : Addr) : Obj := ⟨.type "function", none, .func (PySem.W.fnOf n q (defArgs s) (defBody s) (defScope s) .none .none .none (.str m t) none (.ref c) .none), #[]⟩
noncomputable def zh (n q : Str) (s : Stmt) : Obj := ⟨.none, none, .func ⟨n, q, defArgs s, .stmts (defBody s), defScope s, 0, [], .none, .none, .none, .none, none, .none, .none, 0⟩, #[]⟩
noncomputable def zk (n q f : Str) (t : Tok) (l a g : Int) (r : Addr) (b : Bool) (x : Value) (u : Int) (v : Tok) : Obj := ⟨.type "code", none, .fields #[.str n t, .str q (t + 1), .str f (t + 2), .int l 0, .int a 0, .int 0 0, .int 0 0, .int g 0, .ref r, .bool b, .int 181 0, .ref (r + 1), .none, .none, .none, x, .int u 0, .int l 0, .str f v], #[]⟩
noncomputable def zw : List (Int × Int × Addr) → List Value
  | [] => []
  | (a, b, c) :: t => .int a 0 :: .int b 0 :: .ref c :: zw t
noncomputable def zy (l : List (Int × Int × Addr)) : Obj := ⟨.none, none, .fields ⟨zw l⟩, #[]⟩
noncomputable def zc (n q f : Str) (t : Tok) (l a g : Int) (r : Addr) (u : Int) (v : Tok) : Obj := ⟨.type "code", none, .fields #[.str n t, .str q (t + 1), .str f (t + 2), .int l 0, .int a 0, .int 0 0, .int 0 0, .int g 0, .ref r, .bool true, .int 181 0, .ref (r + 1), .none, .ref (r + 2), .ref (r + 3), .ref (r + 4), .int u 0, .int l 0, .str f v], #[]⟩
noncomputable def z0 : Obj := zt "tuple" (.seq #[])
noncomputable def z1 : Obj := Obj.mk .none none (.fields #[]) #[]
noncomputable def z2 : Obj := zt "tuple" (.seq #[.str "self" 470, .str "form" 471])
noncomputable def z3 : Obj := zh "__init__" "NoPlace.__init__" (match top 4 with | .ClassDef _ _ _ b _ _ _ _ _ _ _ => b.getD 0 (.Pass ⟨0, 0, 0, 0⟩) | s => s)
noncomputable def z4 : Obj := zk "Deed" "Deed" "/claim/cut.py" 421 74 0 0 157 false .none 424 425
noncomputable def z5 : Obj := zt "tuple" (.seq #[.str "sign" 355])
noncomputable def z6 : Obj := Obj.mk (.type "type") none (.cls (ClassData.mk "Change" [.ref 177] [.ref 271, .ref 177, .type "object"] 270 "Change" true [] [] false none false)) #[some (.ref 241), none, some (.str "Change" 528), some (.str "Change" 536), some (.builtin "object.__new__"), some (.bool true)]
noncomputable def z7 : Obj := zh "back" "Fill.back" s_Fill_back
noncomputable def z8 : Obj := Obj.mk (.type "super") none (.fields #[.ref 238, .ref 238, .ref 238]) #[]
noncomputable def z9 : Obj := zf "is_word" "is_word" s_is_word "gapscribe.forms" 264 110
noncomputable def z10 : Obj := zt "tuple" (.seq #[.type "ValueError"])
noncomputable def q0 (P : Params) : B := .node z10 (.node z0 (.node z3 (zm z1 (zl z0)) (zl z2)) (.node z5 (zl z4) (zl z1))) (.node z0 (.node z0 (zm z0 (zl z6)) (zl z7)) (.node z9 (zl z0) (zl z8)))
noncomputable def z11 : Obj := zt "tuple" (.seq #[.str "thing" 397, .str "waiting" 398, .str "top" 399])
noncomputable def z12 : Obj := zf "done" "Deed.done" s_Deed_done "gapscribe.deeds" 403 166
noncomputable def z13 : Obj := zt "tuple" (.seq #[.str "self" 519, .str "form" 520])
noncomputable def z14 : Obj := zk "is_odd" "is_odd" "/claim/cut.py" 359 31 1 3 100 true (.ref 102) 362 363
noncomputable def z15 : Obj := Obj.mk (.type "builtin_function_or_method") none (.fields #[.builtin "object.__init_subclass__", .ref 37]) #[]
noncomputable def z16 : Obj := zc "_law_cell" "_law_cell" "/claim/cut.py" 571 118 2 3 274 578 579
noncomputable def z17 : Obj := zh "refuse_no_gap" "refuse_no_gap" s_refuse_no_gap
noncomputable def z18 : Obj := zt "tuple" (.seq #[.ref 177])
noncomputable def z19 : Obj := zf "is_name" "is_name" s_is_name "gapscribe.forms" 264 86
noncomputable def z20 : Obj := Obj.mk (.type "builtin_function_or_method") none (.fields #[.builtin "type.__prepare__", .type "type"]) #[]
noncomputable def z21 : Obj := Obj.mk (.type "frame") none Data.plain #[some (.ref 246), some (.ref 3), some (.ref 243), none, some (.str "gapscribe.deeds" 403), none, some (.ref 0)]
noncomputable def z22 (P : Params) : Obj := zt "dict" (.dict #[ze P "__module__" 196 (.str "gapscribe.errors" 187), ze P "__firstlineno__" 200 (.int 2 199), ze P "__static_attributes__" 201 (.ref 22), ze P "__weakref__" 203 (.ref 25), ze P "__doc__" 204 .none] 3)
noncomputable def q1 (P : Params) : B := .node (z22 P) (.node z15 (.node z0 (zm z11 (zl z1)) (zl z0)) (.node z14 (zl z12) (zl z13))) (.node z0 (.node z19 (zm z17 (zl z16)) (zl z18)) (.node z0 (zl z20) (zl z21)))
noncomputable def z23 : Obj := zh "done" "Change.done" s_Change_done
noncomputable def z24 : Obj := zc "is_top_of_form" "is_top_of_form" "/claim/cut.py" 387 53 1 3 126 391 392
noncomputable def z25 : Obj := zf "__init__" "Fill.__init__" s_Fill_init "gapscribe.deeds" 403 194
noncomputable def z26 (P : Params) : Obj := zt "dict" (.dict #[ze P "__module__" 246 (.str "gapscribe.errors" 187), ze P "__firstlineno__" 250 (.int 8 249), ze P "__init__" 258 (.ref 65), ze P "__static_attributes__" 260 (.ref 66), ze P "__doc__" 261 .none] 2)
noncomputable def z27 : Obj := zt "tuple" (.seq #[.str "self" 434, .str "form" 435])
noncomputable def z28 : Obj := zc "done" "Cut.done" "/claim/cut.py" 508 98 2 3 222 513 514
noncomputable def z29 : Obj := zf "is_odd_sign" "is_odd_sign" s_is_odd_sign "gapscribe.forms" 264 98
noncomputable def d0 (P : Params) : List DictEntry := [ze P "__module__" 462 (.str "gapscribe.deeds" 403), ze P "__firstlineno__" 466 (.int 81 465), ze P "__init__" 474 (.ref 195), ze P "done" 482 (.ref 202), ze P "back" 490 (.ref 209), ze P "__static_attributes__" 492 (.ref 210), ze P "__doc__" 493 .none]
noncomputable def z30 (P : Params) : Obj := zt "dict" (.dict ⟨d0 P⟩ 2)
noncomputable def z31 : Obj := Obj.mk (.type "getset_descriptor") none (.fields #[.str "__weakref__" 450, .ref 177, .builtin "ExceptionGroup.__weakref__", .none]) #[]
noncomputable def d1 (P : Params) : List DictEntry := [ze P "__module__" 535 (.str "gapscribe.deeds" 403), ze P "__qualname__" 537 (.str "Change" 536), ze P "__firstlineno__" 539 (.int 106 538), ze P "__init__" 547 (.ref 254), ze P "done" 555 (.ref 261), ze P "back" 563 (.ref 268), ze P "__static_attributes__" 565 (.ref 269)]
noncomputable def z32 (P : Params) : Obj := zt "dict" (.dict ⟨d1 P⟩ 7)
noncomputable def z33 : Obj := Obj.mk (.type "builtin_function_or_method") none (.fields #[.builtin "object.__init_subclass__", .ref 49]) #[]
noncomputable def q2 (P : Params) : B := .node z1 (.node z0 (.node (z26 P) (zm z24 (zl z23)) (zl z25)) (.node z29 (zl z27) (zl z28))) (.node z33 (.node z0 (zm z0 (zl z1)) (zl (z30 P))) (.node z0 (zl z31) (zl (z32 P))))
noncomputable def z34 : Obj := zc "back" "Change.back" "/claim/cut.py" 556 115 2 3 262 561 562
noncomputable def z35 : Obj := zf "is_form" "is_form" s_is_form "gapscribe.forms" 264 138
noncomputable def z36 : Obj := zt "tuple" (.seq #[.str "let" 322, .str "if" 323, .str "fn" 324, .str "rec" 325, .str "yes" 326, .str "no" 327, .str "?" 328, .str "+" 329, .str "-" 330, .str "<" 331])
noncomputable def z37 : Obj := zf "back" "Cut.back" s_Cut_back "gapscribe.deeds" 403 234
noncomputable def z38 : Obj := zt "tuple" (.seq #[.str "thing" 368])
noncomputable def z39 : Obj := zh "_law_names" "_law_names" s_law_names
noncomputable def z40 : Obj := zy [(98, 4, 227), (103, 4, 234)]
noncomputable def z41 : Obj := zk "is_figures" "is_figures" "/claim/cut.py" 346 25 1 3 88 true (.ref 90) 349 350
noncomputable def z42 : Obj := zk "Fill" "Fill" "/claim/cut.py" 457 81 0 0 185 false .none 460 461
noncomputable def z43 : Obj := zh "is_note" "is_note" s_is_note
noncomputable def z44 : Obj := Obj.mk (.type "builtin_function_or_method") none (.fields #[.builtin "object.__init_subclass__", .ref 24]) #[]
noncomputable def q3 (P : Params) : B := .node z44 (.node z0 (.node z36 (zm z35 (zl z34)) (zl z0)) (.node z38 (zl z0) (zl z37))) (.node z0 (.node z41 (zm z20 (zl z39)) (zl z40)) (.node z43 (zl z42) (zl z0)))
noncomputable def d2 (P : Params) : List DictEntry := [ze P "__name__" 165 (.str "law_gapscribe_k21_fills_cuts_changes" 569), ze P "__doc__" 166 .none, ze P "__package__" 167 .none, ze P "__loader__" 168 (.builtin "__main__.__loader__#opaque"), ze P "__spec__" 169 .none, ze P "__annotations__" 170 (.ref 6), ze P "__builtins__" 171 (.ref 4), ze P "__file__" 173 (.str "/claim/cut.py" 172), ze P "__cached__" 174 .none, ze P "GapError" 206 (.ref 24), ze P "NoForm" 222 (.ref 37), ze P "NoDeed" 238 (.ref 49), ze P "NoPlace" 263 (.ref 68), ze P "GAP" 267 (.ref 72), ze P "PARTS_OF_WORDS" 307 (.ref 73), ze P "NAME_SIGNS" 309 (.str "abcdefghijklmnopqrstuvwxyz_" 308), ze P "FIGURES" 311 (.str "0123456789" 310), ze P "WORDS_NO_NAMES" 321 (.ref 74), ze P "WORDS_NOT_ODD" 332 (.ref 75), ze P "is_whole" 339 (.ref 82), ze P "is_name" 345 (.ref 87), ze P "is_figures" 351 (.ref 92), ze P "is_odd_sign" 358 (.ref 99), ze P "is_odd" 364 (.ref 104), ze P "is_word" 371 (.ref 111), ze P "is_two_names" 378 (.ref 118), ze P "is_note" 386 (.ref 125), ze P "is_top_of_form" 393 (.ref 132), ze P "is_form" 402 (.ref 139), ze P "refuse_no_form" 411 (.ref 146), ze P "refuse_no_gap" 418 (.ref 153), ze P "Deed" 454 (.ref 177), ze P "Fill" 495 (.ref 212), ze P "Cut" 527 (.ref 238), ze P "Change" 568 (.ref 271), ze P "_law_cell" 580 (.ref 280), ze P "_law_names" 586 (.ref 285)]
noncomputable def z45 (P : Params) : Obj := zt "dict" (.dict ⟨d2 P⟩ 37)
noncomputable def z46 : Obj := zt "tuple" (.seq #[.str "self" 551, .str "form" 552])
noncomputable def z47 : Obj := zh "__init__" "Fill.__init__" s_Fill_init
noncomputable def z48 : Obj := zf "__init__" "NoPlace.__init__" (match top 4 with | .ClassDef _ _ _ b _ _ _ _ _ _ _ => b.getD 0 (.Pass ⟨0, 0, 0, 0⟩) | s => s) "gapscribe.errors" 187 64
noncomputable def z49 : Obj := zh "is_odd_sign" "is_odd_sign" s_is_odd_sign
noncomputable def z50 : Obj := zk "NoForm" "NoForm" "/claim/cut.py" 209 4 0 0 31 false .none 212 213
noncomputable def z51 : Obj := Obj.mk (.type "builtin_function_or_method") none (.fields #[.builtin "object.__init_subclass__", .ref 271]) #[]
noncomputable def z52 : Obj := zc "refuse_no_form" "refuse_no_form" "/claim/cut.py" 405 68 1 3 140 409 410
noncomputable def z53 : Obj := zf "back" "Fill.back" s_Fill_back "gapscribe.deeds" 403 208
noncomputable def z54 : Obj := zc "is_whole" "is_whole" "/claim/cut.py" 333 19 1 3 76 337 338
noncomputable def z55 : Obj := Obj.mk (.type "type") none (.cls (ClassData.mk "Deed" [.type "object"] [.ref 177, .type "object"] 176 "Deed" true [] [.ref 212, .ref 238, .ref 271] false none false)) #[none, none, some (.str "Deed" 419), some (.str "Deed" 427), some (.builtin "object.__new__"), some (.bool true)]
noncomputable def z56 : Obj := Obj.mk (.type "type") none (.cls (ClassData.mk "NoDeed" [.ref 24] [.ref 49, .ref 24, .type "ValueError", .type "Exception", .type "BaseException", .type "object"] 48 "NoDeed" true [] [] false none false)) #[some (.ref 40), none, some (.str "NoDeed" 223), some (.str "NoDeed" 231), some (.builtin "ValueError.__new__"), some (.bool true)]
noncomputable def z57 (P : Params) : Obj := zt "dict" (.dict #[ze P "__module__" 196 (.str "gapscribe.errors" 187), ze P "__qualname__" 198 (.str "GapError" 197), ze P "__firstlineno__" 200 (.int 2 199), ze P "__static_attributes__" 201 (.ref 22)] 4)
noncomputable def q4 (P : Params) : B := .node (z57 P) (.node z50 (.node z48 (zm z0 (zl z46)) (zl z47)) (.node z49 (zl z0) (zl z0))) (.node z56 (.node z54 (zm z52 (zl z51)) (zl z53)) (.node z1 (zl z55) (zl z18)))
noncomputable def z58 : Obj := zh "is_form" "is_form" s_is_form
noncomputable def z59 : Obj := zc "done" "Fill.done" "/claim/cut.py" 475 89 2 3 196 480 481
noncomputable def d3 (P : Params) : List DictEntry := [ze P "gap" 268 (.int 0 269), ze P "odd" 270 (.int 0 271), ze P "num" 272 (.int 0 273), ze P "truth" 274 (.int 0 275), ze P "name" 276 (.int 0 277), ze P "plus" 278 (.int 2 279), ze P "minus" 280 (.int 2 281), ze P "less" 282 (.int 2 283), ze P "call" 284 (.int 2 285), ze P "if" 286 (.int 3 287), ze P "fn" 288 (.int 1 289), ze P "rec" 290 (.int 1 291), ze P "let" 292 (.int 2 293)]
noncomputable def z60 (P : Params) : Obj := zt "dict" (.dict ⟨d3 P⟩ 13)
noncomputable def z61 : Obj := zh "back" "Cut.back" s_Cut_back
noncomputable def z62 : Obj := zf "refuse_no_gap" "refuse_no_gap" s_refuse_no_gap "gapscribe.deeds" 403 152
noncomputable def d4 (P : Params) : List DictEntry := [ze P "__module__" 503 (.str "gapscribe.deeds" 403), ze P "__qualname__" 505 (.str "Cut" 504), ze P "__firstlineno__" 507 (.int 96 506), ze P "done" 515 (.ref 228), ze P "back" 523 (.ref 235), ze P "__static_attributes__" 524 (.ref 236)]
noncomputable def z63 (P : Params) : Obj := zt "dict" (.dict ⟨d4 P⟩ 6)
noncomputable def z64 : Obj := zt "tuple" (.seq #[.str "word" 382, .str "note" 383])
noncomputable def z65 : Obj := zk "NoPlace" "NoPlace" "/claim/cut.py" 241 8 0 0 55 false .none 244 245
noncomputable def z66 : Obj := Obj.mk (.type "getset_descriptor") none (.fields #[.str "__weakref__" 202, .ref 24, .builtin "ExceptionGroup.__weakref__", .none]) #[]
noncomputable def q5 (P : Params) : B := .node z66 (.node z20 (.node (z60 P) (zm z58 (zl z0)) (zl z59)) (.node z0 (zl z1) (zl z61))) (.node z65 (.node z1 (zm z62 (zl z0)) (zl (z63 P))) (.node z64 (zl z0) (zl z1)))
noncomputable def z67 : Obj := zf "done" "Change.done" s_Change_done "gapscribe.deeds" 403 260
noncomputable def z68 : Obj := Obj.mk (.type "super") none (.fields #[.ref 68, .ref 68, .ref 68]) #[]
noncomputable def z69 : Obj := zh "done" "Deed.done" s_Deed_done
noncomputable def z70 : Obj := Obj.mk (.type "type") none (.cls (ClassData.mk "NoForm" [.ref 24] [.ref 37, .ref 24, .type "ValueError", .type "Exception", .type "BaseException", .type "object"] 36 "NoForm" true [] [] false none false)) #[some (.ref 28), none, some (.str "NoForm" 207), some (.str "NoForm" 215), some (.builtin "ValueError.__new__"), some (.bool true)]
noncomputable def z71 : Obj := zt "tuple" (.seq #[.str "form" 415])
noncomputable def z72 : Obj := Obj.mk (.type "super") none (.fields #[.ref 212, .ref 212, .ref 212]) #[]
noncomputable def z73 : Obj := zh "is_name" "is_name" s_is_name
noncomputable def z74 : Obj := Obj.mk (.type "builtin_function_or_method") none (.fields #[.builtin "object.__init_subclass__", .ref 177]) #[]
noncomputable def z75 : Obj := zy [(108, 4, 253), (112, 4, 260), (115, 4, 267)]
noncomputable def z76 : Obj := zc "is_two_names" "is_two_names" "/claim/cut.py" 372 39 1 3 112 376 377
noncomputable def z77 : Obj := Obj.mk (.type "frame") none Data.plain #[some (.ref 20), some (.ref 3), some (.ref 17), none, some (.str "gapscribe.errors" 187), none, some (.ref 0)]
noncomputable def q6 (P : Params) : B := .node z77 (.node z70 (.node z68 (zm z0 (zl z67)) (zl z1)) (.node z1 (zl z69) (zl z0))) (.node z20 (.node z73 (zm z71 (zl z0)) (zl z72)) (.node z76 (zl z74) (zl z75)))
noncomputable def z78 : Obj := zt "tuple" (.seq #[.str "form" 564])
noncomputable def z79 : Obj := zt "tuple" (.seq #[.str "self" 486, .str "form" 487])
noncomputable def z80 : Obj := zc "back" "Deed.back" "/claim/cut.py" 439 79 2 3 168 444 445
noncomputable def d5 (P : Params) : List DictEntry := [ze P "__module__" 503 (.str "gapscribe.deeds" 403), ze P "__firstlineno__" 507 (.int 96 506), ze P "done" 515 (.ref 228), ze P "back" 523 (.ref 235), ze P "__static_attributes__" 524 (.ref 236), ze P "__doc__" 525 .none]
noncomputable def z81 (P : Params) : Obj := zt "dict" (.dict ⟨d5 P⟩ 2)
noncomputable def z82 : Obj := zh "is_word" "is_word" s_is_word
noncomputable def z83 : Obj := zk "NoDeed" "NoDeed" "/claim/cut.py" 225 6 0 0 43 false .none 228 229
noncomputable def z84 : Obj := zf "_law_names" "_law_names" s_law_names "law_gapscribe_k21_fills_cuts_changes" 569 284
noncomputable def z85 : Obj := Obj.mk (.type "frame") none Data.plain #[some (.ref 220), some (.ref 3), some (.ref 217), none, some (.str "gapscribe.deeds" 403), none, some (.ref 0)]
noncomputable def z86 : Obj := zc "__init__" "Change.__init__" "/claim/cut.py" 540 108 2 3 248 545 546
noncomputable def z87 : Obj := zf "is_note" "is_note" s_is_note "gapscribe.forms" 264 124
noncomputable def z88 : Obj := zt "tuple" (.seq #[.str "self" 254, .str "place" 255])
noncomputable def q7 (P : Params) : B := .node z20 (.node z83 (.node z1 (zm z1 (zl z78)) (zl z79)) (.node z82 (zl z80) (zl (z81 P)))) (.node z88 (.node z0 (zm z0 (zl z84)) (zl z85)) (.node z87 (zl z0) (zl z86)))
noncomputable def z89 : Obj := zk "<module>" "<module>" "/claim/cut.py" 182 1 0 0 11 false .none 185 186
noncomputable def z90 : Obj := zt "tuple" (.seq #[.str "thing" 390])
noncomputable def z91 : Obj := zc "__init__" "NoPlace.__init__" "/claim/cut.py" 251 10 2 3 59 256 257
noncomputable def z92 : Obj := Obj.mk (.type "frame") none Data.plain #[some (.ref 159), some (.ref 3), some (.ref 156), none, some (.str "gapscribe.deeds" 403), none, some (.ref 0)]
noncomputable def z93 : Obj := zt "tuple" (.seq #[.str "self" 511, .str "form" 512])
noncomputable def z94 : Obj := Obj.mk (.type "super") none (.fields #[.ref 271, .ref 271, .ref 271]) #[]
noncomputable def z95 : Obj := zh "refuse_no_form" "refuse_no_form" s_refuse_no_form
noncomputable def z96 : Obj := zc "back" "Fill.back" "/claim/cut.py" 483 93 2 3 203 488 489
noncomputable def z97 : Obj := zh "is_whole" "is_whole" s_is_whole
noncomputable def d6 (P : Params) : List DictEntry := [ze P "__module__" 426 (.str "gapscribe.deeds" 403), ze P "__firstlineno__" 430 (.int 74 429), ze P "done" 438 (.ref 167), ze P "back" 446 (.ref 174), ze P "__static_attributes__" 447 (.ref 175), ze P "__dict__" 449 (.ref 178), ze P "__weakref__" 451 (.ref 179), ze P "__doc__" 452 .none]
noncomputable def z98 (P : Params) : Obj := zt "dict" (.dict ⟨d6 P⟩ 4)
noncomputable def z99 : Obj := Obj.mk (.type "builtin_function_or_method") none (.fields #[.builtin "object.__init_subclass__", .ref 238]) #[]
noncomputable def z100 (P : Params) : Obj := zt "dict" (.dict #[ze P "__module__" 230 (.str "gapscribe.errors" 187), ze P "__firstlineno__" 234 (.int 6 233), ze P "__static_attributes__" 235 (.ref 47), ze P "__doc__" 236 .none] 2)
noncomputable def q8 (P : Params) : B := .node z20 (.node z1 (.node z91 (zm z90 (zl z1)) (zl z0)) (.node z0 (zl z92) (zl z93))) (.node (z100 P) (.node z97 (zm z95 (zl z94)) (zl z96)) (.node z0 (zl (z98 P)) (zl z99)))
noncomputable def z101 : Obj := zt "tuple" (.seq #[.str "self" 559, .str "form" 560])
noncomputable def z102 : Obj := zh "done" "Fill.done" s_Fill_done
noncomputable def z103 : Obj := zt "tuple" (.seq #[.str "gap" 266, .none, .ref 71])
noncomputable def z104 : Obj := zf "is_odd" "is_odd" s_is_odd "gapscribe.forms" 264 103
noncomputable def z105 : Obj := zt "tuple" (.seq #[.ref 24])
noncomputable def z106 : Obj := zf "_law_cell" "_law_cell" s_law_cell "law_gapscribe_k21_fills_cuts_changes" 569 279
noncomputable def z107 : Obj := zc "refuse_no_gap" "refuse_no_gap" "/claim/cut.py" 412 71 1 3 147 416 417
noncomputable def d7 (P : Params) : List DictEntry := [ze P "__module__" 462 (.str "gapscribe.deeds" 403), ze P "__qualname__" 464 (.str "Fill" 463), ze P "__firstlineno__" 466 (.int 81 465), ze P "__init__" 474 (.ref 195), ze P "done" 482 (.ref 202), ze P "back" 490 (.ref 209), ze P "__static_attributes__" 492 (.ref 210)]
noncomputable def z108 (P : Params) : Obj := zt "dict" (.dict ⟨d7 P⟩ 7)
noncomputable def z109 : Obj := zy [(10, 4, 64)]
noncomputable def z110 : Obj := Obj.mk (.type "type") none (.cls (ClassData.mk "GapError" [.type "ValueError"] [.ref 24, .type "ValueError", .type "Exception", .type "BaseException", .type "object"] 23 "GapError" true [] [.ref 37, .ref 49, .ref 68] false none false)) #[some (.ref 15), none, some (.str "GapError" 189), some (.str "GapError" 197), some (.builtin "ValueError.__new__"), some (.bool true)]
noncomputable def q9 (P : Params) : B := .node z110 (.node z105 (.node z103 (zm z0 (zl z101)) (zl z102)) (.node z104 (zl z0) (zl z0))) (.node z109 (.node z0 (zm z107 (zl z106)) (zl z20)) (.node z1 (zl (z108 P)) (zl z0)))
noncomputable def z111 : Obj := zc "done" "Change.done" "/claim/cut.py" 548 112 2 3 255 553 554
noncomputable def z112 : Obj := zf "is_top_of_form" "is_top_of_form" s_is_top_of_form "gapscribe.forms" 264 131
noncomputable def z113 : Obj := Obj.mk (.type "type") none (.cls (ClassData.mk "NoPlace" [.ref 24] [.ref 68, .ref 24, .type "ValueError", .type "Exception", .type "BaseException", .type "object"] 67 "NoPlace" true [] [] false none false)) #[some (.ref 52), none, some (.str "NoPlace" 239), some (.str "NoPlace" 247), some (.builtin "ValueError.__new__"), some (.bool true)]
noncomputable def z114 : Obj := zf "done" "Cut.done" s_Cut_done "gapscribe.deeds" 403 227
noncomputable def z115 (P : Params) : Obj := zt "dict" (.dict #[ze P "__module__" 214 (.str "gapscribe.errors" 187), ze P "__firstlineno__" 218 (.int 4 217), ze P "__static_attributes__" 219 (.ref 35), ze P "__doc__" 220 .none] 2)
noncomputable def z116 : Obj := zt "tuple" (.seq #[.str "_law_script" 574, .str "_law_k" 575, .str "_law_many_here" 576, .str "_law_first" 577])
noncomputable def z117 : Obj := Obj.mk (.type "type") none (.cls (ClassData.mk "Fill" [.ref 177] [.ref 212, .ref 177, .type "object"] 211 "Fill" true [] [] false none false)) #[some (.ref 182), none, some (.str "Fill" 455), some (.str "Fill" 463), some (.builtin "object.__new__"), some (.bool true)]
noncomputable def z118 : Obj := Obj.mk (.type "super") none (.fields #[.ref 177, .ref 177, .ref 177]) #[]
noncomputable def z119 : Obj := zh "is_two_names" "is_two_names" s_is_two_names
noncomputable def z120 : Obj := zk "GapError" "GapError" "/claim/cut.py" 191 2 0 0 18 false .none 194 195
noncomputable def q10 (P : Params) : B := .node z120 (.node (z115 P) (.node z113 (zm z112 (zl z111)) (zl z0)) (.node z0 (zl z0) (zl z114))) (.node z105 (.node z1 (zm z1 (zl z116)) (zl z117)) (.node z119 (zl z118) (zl z0)))
noncomputable def z121 : Obj := zf "back" "Change.back" s_Change_back "gapscribe.deeds" 403 267
noncomputable def z122 : Obj := zh "back" "Deed.back" s_Deed_back
noncomputable def z123 : Obj := zk "_law_names" "_law_names" "/claim/cut.py" 581 126 2 3 281 true (.ref 283) 584 585
noncomputable def d8 (P : Params) : List DictEntry := [ze P "__module__" 426 (.str "gapscribe.deeds" 403), ze P "__qualname__" 428 (.str "Deed" 427), ze P "__firstlineno__" 430 (.int 74 429), ze P "done" 438 (.ref 167), ze P "back" 446 (.ref 174), ze P "__static_attributes__" 447 (.ref 175)]
noncomputable def z124 (P : Params) : Obj := zt "dict" (.dict ⟨d8 P⟩ 6)
noncomputable def z125 : Obj := zk "Cut" "Cut" "/claim/cut.py" 498 96 0 0 218 false .none 501 502
noncomputable def z126 : Obj := zf "is_figures" "is_figures" s_is_figures "gapscribe.forms" 264 91
noncomputable def z127 : Obj := Obj.mk (.type "frame") none Data.plain #[some (.ref 187), some (.ref 3), some (.ref 184), none, some (.str "gapscribe.deeds" 403), none, some (.ref 0)]
noncomputable def z128 : Obj := zh "__init__" "Change.__init__" s_Change_init
noncomputable def z129 : Obj := zc "is_note" "is_note" "/claim/cut.py" 379 41 2 3 119 384 385
noncomputable def q11 (P : Params) : B := .node z105 (.node z1 (.node z0 (zm z0 (zl z121)) (zl z1)) (.node z0 (zl z122) (zl z0))) (.node z1 (.node z126 (zm (z124 P) (zl z123)) (zl z125)) (.node z129 (zl z127) (zl z128)))
noncomputable def z130 : Obj := zy [(2, 0, 20), (4, 0, 33), (6, 0, 45), (8, 0, 57), (19, 0, 81), (21, 0, 86), (25, 0, 91), (29, 0, 98), (31, 0, 103), (37, 0, 110), (39, 0, 117), (41, 0, 124), (53, 0, 131), (59, 0, 138), (68, 0, 145), (71, 0, 152), (74, 0, 159), (81, 0, 187), (96, 0, 220), (106, 0, 246), (118, 0, 279), (126, 0, 284)]
noncomputable def z131 : Obj := zh "is_top_of_form" "is_top_of_form" s_is_top_of_form
noncomputable def z132 : Obj := zc "__init__" "Fill.__init__" "/claim/cut.py" 467 83 2 3 189 472 473
noncomputable def z133 : Obj := zt "tuple" (.seq #[.str "place" 259])
noncomputable def z134 : Obj := zh "done" "Cut.done" s_Cut_done
noncomputable def z135 : Obj := zc "is_odd_sign" "is_odd_sign" "/claim/cut.py" 352 29 1 3 93 356 357
noncomputable def z136 : Obj := Obj.mk (.type "frame") none Data.plain #[some (.ref 33), some (.ref 3), some (.ref 30), none, some (.str "gapscribe.errors" 187), none, some (.ref 0)]
noncomputable def z137 : Obj := zf "refuse_no_form" "refuse_no_form" s_refuse_no_form "gapscribe.deeds" 403 145
noncomputable def z138 : Obj := zt "tuple" (.seq #[.str "form" 491])
noncomputable def z139 : Obj := zf "is_whole" "is_whole" s_is_whole "gapscribe.forms" 264 81
noncomputable def z140 : Obj := Obj.mk (.type "getset_descriptor") none (.fields #[.str "__dict__" 448, .ref 177, .builtin "function.__dict__", .builtin "function.__dict__#set"]) #[]
noncomputable def z141 : Obj := zt "tuple" (.seq #[.str "thing" 375])
noncomputable def z142 : Obj := Obj.mk (.type "super") none (.fields #[.ref 49, .ref 49, .ref 49]) #[]
noncomputable def q12 (P : Params) : B := .node z0 (.node z136 (.node z133 (zm z131 (zl z0)) (zl z132)) (.node z135 (zl z1) (zl z134))) (.node z142 (.node z139 (zm z137 (zl z0)) (zl z138)) (.node z141 (zl z140) (zl z20)))
noncomputable def z143 : Obj := zh "back" "Change.back" s_Change_back
noncomputable def z144 : Obj := zc "is_form" "is_form" "/claim/cut.py" 394 59 1 3 133 400 401
noncomputable def z145 : Obj := zf "done" "Fill.done" s_Fill_done "gapscribe.deeds" 403 201
noncomputable def z146 : Obj := zt "tuple" (.seq #[.str "let" 312, .str "in" 313, .str "if" 314, .str "then" 315, .str "else" 316, .str "fn" 317, .str "rec" 318, .str "yes" 319, .str "no" 320])
noncomputable def z147 : Obj := zt "tuple" (.seq #[.str "self" 442, .str "form" 443])
noncomputable def z148 : Obj := zc "back" "Cut.back" "/claim/cut.py" 516 103 2 3 229 521 522
noncomputable def z149 (P : Params) : Obj := zt "dict" (.dict #[ze P "__module__" 230 (.str "gapscribe.errors" 187), ze P "__qualname__" 232 (.str "NoDeed" 231), ze P "__firstlineno__" 234 (.int 6 233), ze P "__static_attributes__" 235 (.ref 47)] 4)
noncomputable def z150 : Obj := zh "is_figures" "is_figures" s_is_figures
noncomputable def z151 : Obj := zy [(83, 4, 194), (89, 4, 201), (93, 4, 208)]
noncomputable def z152 : Obj := zt "tuple" (.seq #[.str "self" 543, .str "form" 544])
noncomputable def z153 : Obj := Obj.mk (.type "frame") none Data.plain #[some (.ref 57), some (.ref 3), some (.ref 54), none, some (.str "gapscribe.errors" 187), none, some (.ref 0)]
noncomputable def z154 : Obj := Obj.mk (.type "super") none (.fields #[.ref 24, .ref 24, .ref 24]) #[]
noncomputable def q13 (P : Params) : B := .node z154 (.node (z149 P) (.node z146 (zm z144 (zl z143)) (zl z145)) (.node z1 (zl z147) (zl z148))) (.node z153 (.node z150 (zm z0 (zl z1)) (zl z0)) (.node z0 (zl z151) (zl z152)))
noncomputable def z155 : Obj := zt "tuple" (.seq #[.str "self" 478, .str "form" 479])
noncomputable def z156 : Obj := Obj.mk (.type "builtin_function_or_method") none (.fields #[.builtin "object.__init_subclass__", .ref 68]) #[]
noncomputable def z157 : Obj := zc "done" "Deed.done" "/claim/cut.py" 431 76 2 3 161 436 437
noncomputable def z158 : Obj := zh "is_odd" "is_odd" s_is_odd
noncomputable def z159 : Obj := Obj.mk (.type "super") none (.fields #[.ref 37, .ref 37, .ref 37]) #[]
noncomputable def z160 : Obj := zh "_law_cell" "_law_cell" s_law_cell
noncomputable def z161 : Obj := Obj.mk (.type "builtin_function_or_method") none (.fields #[.builtin "object.__init_subclass__", .ref 212]) #[]
noncomputable def z162 : Obj := zk "is_name" "is_name" "/claim/cut.py" 340 21 1 3 83 true (.ref 85) 343 344
noncomputable def z163 : Obj := zk "Change" "Change" "/claim/cut.py" 530 106 0 0 244 false .none 533 534
noncomputable def z164 : Obj := zf "is_two_names" "is_two_names" s_is_two_names "gapscribe.forms" 264 117
noncomputable def d9 (P : Params) : List DictEntry := [ze P "__module__" 246 (.str "gapscribe.errors" 187), ze P "__qualname__" 248 (.str "NoPlace" 247), ze P "__firstlineno__" 250 (.int 8 249), ze P "__init__" 258 (.ref 65), ze P "__static_attributes__" 260 (.ref 66)]
noncomputable def z165 (P : Params) : Obj := zt "dict" (.dict ⟨d9 P⟩ 5)
noncomputable def q14 (P : Params) : B := .node z0 (.node z159 (.node z156 (zm z1 (zl z0)) (zl z155)) (.node z158 (zl z157) (zl z1))) (.node (z165 P) (.node z162 (zm z0 (zl z160)) (zl z161)) (.node z164 (zl z18) (zl z163)))
noncomputable def d10 (P : Params) : List DictEntry := [ze P "__module__" 535 (.str "gapscribe.deeds" 403), ze P "__firstlineno__" 539 (.int 106 538), ze P "__init__" 547 (.ref 254), ze P "done" 555 (.ref 261), ze P "back" 563 (.ref 268), ze P "__static_attributes__" 565 (.ref 269), ze P "__doc__" 566 .none]
noncomputable def z166 (P : Params) : Obj := zt "dict" (.dict ⟨d10 P⟩ 2)
noncomputable def z167 : Obj := zt "tuple" (.seq #[.str "thing" 408])
noncomputable def z168 : Obj := zt "tuple" (.seq #[.str "thing" 336])
noncomputable def z169 : Obj := zf "back" "Deed.back" s_Deed_back "gapscribe.deeds" 403 173
noncomputable def z170 : Obj := Obj.mk (.type "type") none (.cls (ClassData.mk "Cut" [.ref 177] [.ref 238, .ref 177, .type "object"] 237 "Cut" true [] [] false none false)) #[some (.ref 215), none, some (.str "Cut" 496), some (.str "Cut" 504), some (.builtin "object.__new__"), some (.bool true)]
noncomputable def z171 : Obj := zc "is_word" "is_word" "/claim/cut.py" 365 37 1 3 105 369 370
noncomputable def z172 : Obj := Obj.mk (.type "frame") none Data.plain #[some (.ref 45), some (.ref 3), some (.ref 42), none, some (.str "gapscribe.errors" 187), none, some (.ref 0)]
noncomputable def z173 : Obj := zy [(76, 4, 166), (79, 4, 173)]
noncomputable def z174 : Obj := zf "__init__" "Change.__init__" s_Change_init "gapscribe.deeds" 403 253
noncomputable def z175 (P : Params) : Obj := zt "dict" (.dict #[ze P "__module__" 214 (.str "gapscribe.errors" 187), ze P "__qualname__" 216 (.str "NoForm" 215), ze P "__firstlineno__" 218 (.int 4 217), ze P "__static_attributes__" 219 (.ref 35)] 4)
noncomputable def q15 (P : Params) : B := .node (z175 P) (.node z172 (.node z168 (zm z167 (zl (z166 P))) (zl z0)) (.node z171 (zl z169) (zl z170))) (.node z0 (.node z1 (zl z173) (zl z0)) (.node z0 (zl z1) (zl z174)))
noncomputable def z176 : Obj := Obj.mk (.type "frame") none Data.plain #[some (.ref 13), some (.ref 3), some (.ref 3), none, some (.str "__main__" 164), none, some (.ref 0)]
noncomputable def q16 (P : Params) : B := .node (boot_o_0 P) (.node (boot_o_1 P) (.node (z45 P) (.node (boot_o_7 P) (q0 P) (q1 P)) (.node z0 (q2 P) (q3 P))) (.node (boot_o_5 P) (.node (boot_o_9 P) (q4 P) (q5 P)) (.node z89 (q6 P) (q7 P)))) (.node (boot_o_2 P) (.node (boot_o_4 P) (.node (boot_o_8 P) (q8 P) (q9 P)) (.node z130 (q10 P) (q11 P))) (.node (boot_o_6 P) (.node (boot_o_10 P) (q12 P) (q13 P)) (.node z176 (q14 P) (q15 P))))
noncomputable def Rtree_347 : Params → B := fun P => (q16 P)
noncomputable def z177 : Obj := zf "_law_made" "_law_made" s_law_made "law_gapscribe_k21_fills_cuts_changes" 569 350
noncomputable def q17 (P : Params) : B := .node z0 (.node z3 (zm z1 (zl z0)) (zm z2 (zl z0))) (.node z5 (zm z4 (zl z1)) (zm z1 (zl z177)))
noncomputable def z178 : Obj := zh "_law_with" "_law_with" s_law_with
noncomputable def z179 : Obj := zc "_law_head" "_law_head" "/claim/cut.py" 600 158 2 3 298 608 609
noncomputable def q18 (P : Params) : B := .node z0 (.node z0 (zm z0 (zl z6)) (zm z7 (zl z178))) (.node z9 (zm z0 (zl z179)) (zl z8))
noncomputable def z180 : Obj := zh "_law_number" "_law_number" s_law_number
noncomputable def q19 (P : Params) : B := .node z15 (.node z0 (zm z11 (zl z1)) (zm z0 (zl z1))) (.node z14 (zm z12 (zl z180)) (zm z13 (zl z0)))
noncomputable def z181 : Obj := zc "_law_class" "_law_class" "/claim/cut.py" 662 220 1 3 338 667 668
noncomputable def z182 : Obj := zf "_law_many" "_law_many" s_law_many "law_gapscribe_k21_fills_cuts_changes" 569 310
noncomputable def q20 (P : Params) : B := .node z0 (.node z19 (zm z17 (zl z16)) (zm z18 (zl z181))) (.node z0 (zm z20 (zl z182)) (zl z21))
noncomputable def z183 : Obj := zh "_law_walk" "_law_walk" s_law_walk
noncomputable def q21 (P : Params) : B := .node z0 (.node (z26 P) (zm z24 (zl z23)) (zm z25 (zl z183))) (.node z29 (zm z27 (zl z0)) (zm z28 (zl z0)))
noncomputable def z184 : Obj := zt "tuple" (.seq #[.str "_law_word" 614])
noncomputable def q22 (P : Params) : B := .node z33 (.node z0 (zm z0 (zl z1)) (zm (z30 P) (zl z1))) (.node z0 (zm z31 (zl z184)) (zl (z32 P)))
noncomputable def z185 : Obj := zc "_law_form" "_law_form" "/claim/cut.py" 646 208 2 3 326 653 654
noncomputable def z186 : Obj := zh "_law_back" "_law_back" s_law_back
noncomputable def q23 (P : Params) : B := .node z0 (.node z36 (zm z35 (zl z34)) (zm z0 (zl z185))) (.node z38 (zm z0 (zl z1)) (zm z37 (zl z186)))
noncomputable def z187 : Obj := zt "tuple" (.seq #[.str "_law_form_here" 673, .str "_law_fill" 674, .str "_law_told" 675, .str "_law_e" 676])
noncomputable def q24 (P : Params) : B := .node z0 (.node z41 (zm z20 (zl z39)) (zm z40 (zl z187))) (.node z43 (zm z42 (zl z0)) (zl z0))
noncomputable def d11 (P : Params) : List DictEntry := d2 P ++ [ze P "_law_odd" 592 (.ref 290), ze P "_law_number" 599 (.ref 297), ze P "_law_head" 610 (.ref 304), ze P "_law_many" 617 (.ref 311), ze P "_law_tree" 633 (.ref 318), ze P "_law_walk" 645 (.ref 325), ze P "_law_form" 655 (.ref 332), ze P "_law_with" 661 (.ref 337), ze P "_law_class" 669 (.ref 344), ze P "_law_made" 679 (.ref 351), ze P "_law_done" 689 (.ref 358), ze P "_law_back" 699 (.ref 365)]
noncomputable def z188 (P : Params) : Obj := zt "dict" (.dict ⟨d11 P⟩ 49)
noncomputable def z189 : Obj := zt "tuple" (.seq #[.str "_law_tree_here" 637, .str "_law_rows" 638, .str "_law_left" 639, .str "_law_place" 640, .str "_law_form_here" 641, .str "_law_k" 642])
noncomputable def z190 : Obj := zk "_law_odd" "_law_odd" "/claim/cut.py" 587 143 1 3 286 true (.ref 288) 590 591
noncomputable def q25 (P : Params) : B := .node z50 (.node z48 (zm z0 (zl z46)) (zm z47 (zl z189))) (.node z49 (zm z0 (zl z190)) (zm z0 (zl z1)))
noncomputable def z191 : Obj := zf "_law_with" "_law_with" s_law_with "law_gapscribe_k21_fills_cuts_changes" 569 336
noncomputable def q26 (P : Params) : B := .node z56 (.node z54 (zm z52 (zl z51)) (zm z53 (zl z191))) (.node z1 (zm z55 (zl z0)) (zl z18))
noncomputable def z192 : Obj := zf "_law_number" "_law_number" s_law_number "law_gapscribe_k21_fills_cuts_changes" 569 296
noncomputable def z193 : Obj := zt "tuple" (.seq #[.str "_law_deed" 693, .str "_law_form_here" 694, .str "_law_told" 695, .str "_law_e" 696])
noncomputable def q27 (P : Params) : B := .node z20 (.node (z60 P) (zm z58 (zl z0)) (zm z59 (zl z0))) (.node z0 (zm z1 (zl z192)) (zm z61 (zl z193)))
noncomputable def q28 (P : Params) : B := .node z65 (.node z1 (zm z62 (zl z0)) (zm (z63 P) (zl z0))) (.node z64 (zm z0 (zl z1)) (zl z1))
noncomputable def z194 : Obj := zf "_law_walk" "_law_walk" s_law_walk "law_gapscribe_k21_fills_cuts_changes" 569 324
noncomputable def z195 : Obj := zt "tuple" (.seq #[.str "_law_cell_here" 596])
noncomputable def z196 : Obj := zc "_law_done" "_law_done" "/claim/cut.py" 680 239 2 3 352 687 688
noncomputable def q29 (P : Params) : B := .node z70 (.node z68 (zm z0 (zl z67)) (zm z1 (zl z194))) (.node z1 (zm z69 (zl z195)) (zm z0 (zl z196)))
noncomputable def z197 : Obj := zh "_law_many" "_law_many" s_law_many
noncomputable def q30 (P : Params) : B := .node z20 (.node z73 (zm z71 (zl z0)) (zm z72 (zl z0))) (.node z76 (zm z74 (zl z197)) (zl z75))
noncomputable def z198 : Obj := zf "_law_back" "_law_back" s_law_back "law_gapscribe_k21_fills_cuts_changes" 569 364
noncomputable def q31 (P : Params) : B := .node z83 (.node z1 (zm z1 (zl z78)) (zm z79 (zl z0))) (.node z82 (zm z80 (zl z0)) (zm (z81 P) (zl z198)))
noncomputable def z199 : Obj := zh "_law_made" "_law_made" s_law_made
noncomputable def z200 : Obj := zc "_law_tree" "_law_tree" "/claim/cut.py" 618 179 2 3 312 631 632
noncomputable def q32 (P : Params) : B := .node z88 (.node z0 (zm z0 (zl z84)) (zm z85 (zl z199))) (.node z87 (zm z0 (zl z200)) (zl z86))
noncomputable def q33 (P : Params) : B := .node (boot_o_1 P) (.node (z188 P) (.node (boot_o_7 P) (.node z10 (q17 P) (q18 P)) (.node (z22 P) (q19 P) (q20 P))) (.node z0 (.node z1 (q21 P) (q22 P)) (.node z44 (q23 P) (q24 P)))) (.node (boot_o_5 P) (.node (boot_o_9 P) (.node (z57 P) (q25 P) (q26 P)) (.node z66 (q27 P) (q28 P))) (.node z89 (.node z77 (q29 P) (q30 P)) (.node z20 (q31 P) (q32 P))))
noncomputable def z201 : Obj := zh "_law_odd" "_law_odd" s_law_odd
noncomputable def q34 (P : Params) : B := .node z1 (.node z91 (zm z90 (zl z1)) (zm z0 (zl z1))) (.node z0 (zm z92 (zl z201)) (zm z93 (zl z0)))
noncomputable def z202 : Obj := zk "_law_with" "_law_with" "/claim/cut.py" 656 213 3 3 333 true (.ref 335) 659 660
noncomputable def z203 : Obj := zf "_law_head" "_law_head" s_law_head "law_gapscribe_k21_fills_cuts_changes" 569 303
noncomputable def q35 (P : Params) : B := .node (z100 P) (.node z97 (zm z95 (zl z94)) (zm z96 (zl z202))) (.node z0 (zm (z98 P) (zl z203)) (zl z99))
noncomputable def z204 : Obj := zt "tuple" (.seq #[.str "_law_tree_here" 649, .str "_law_place" 650, .str "_law_form_here" 651, .str "_law_k" 652])
noncomputable def z205 : Obj := zc "_law_number" "_law_number" "/claim/cut.py" 593 152 1 3 291 597 598
noncomputable def q36 (P : Params) : B := .node z105 (.node z103 (zm z0 (zl z101)) (zm z102 (zl z204))) (.node z104 (zm z0 (zl z205)) (zm z0 (zl z1)))
noncomputable def z206 : Obj := zf "_law_class" "_law_class" s_law_class "law_gapscribe_k21_fills_cuts_changes" 569 343
noncomputable def q37 (P : Params) : B := .node z109 (.node z0 (zm z107 (zl z106)) (zm z20 (zl z206))) (.node z1 (zm (z108 P) (zl z0)) (zl z0))
noncomputable def z207 : Obj := zc "_law_walk" "_law_walk" "/claim/cut.py" 634 199 1 3 319 643 644
noncomputable def z208 : Obj := zh "_law_done" "_law_done" s_law_done
noncomputable def q38 (P : Params) : B := .node (z115 P) (.node z113 (zm z112 (zl z111)) (zm z0 (zl z207))) (.node z0 (zm z0 (zl z1)) (zm z114 (zl z208)))
noncomputable def z209 : Obj := zt "tuple" (.seq #[.str "_law_e" 665, .str "_law_found" 666])
noncomputable def q39 (P : Params) : B := .node z105 (.node z1 (zm z1 (zl z116)) (zm z117 (zl z209))) (.node z119 (zm z118 (zl z0)) (zl z0))
noncomputable def z210 : Obj := zf "_law_form" "_law_form" s_law_form "law_gapscribe_k21_fills_cuts_changes" 569 331
noncomputable def z211 : Obj := zt "tuple" (.seq #[.str "_law_cell_here" 603, .str "_law_names_here" 604, .str "_law_heads" 605, .str "_law_word" 606, .str "_law_more" 607])
noncomputable def z212 : Obj := zc "_law_back" "_law_back" "/claim/cut.py" 690 246 2 3 359 697 698
noncomputable def q40 (P : Params) : B := .node z1 (.node z0 (zm z0 (zl z121)) (zm z1 (zl z210))) (.node z0 (zm z122 (zl z211)) (zm z0 (zl z212)))
noncomputable def z213 : Obj := zh "_law_tree" "_law_tree" s_law_tree
noncomputable def q41 (P : Params) : B := .node z1 (.node z126 (zm (z124 P) (zl z123)) (zm z125 (zl z0))) (.node z129 (zm z127 (zl z213)) (zl z128))
noncomputable def z214 : Obj := zy [(2, 0, 20), (4, 0, 33), (6, 0, 45), (8, 0, 57), (19, 0, 81), (21, 0, 86), (25, 0, 91), (29, 0, 98), (31, 0, 103), (37, 0, 110), (39, 0, 117), (41, 0, 124), (53, 0, 131), (59, 0, 138), (68, 0, 145), (71, 0, 152), (74, 0, 159), (81, 0, 187), (96, 0, 220), (106, 0, 246), (118, 0, 279), (126, 0, 284), (143, 0, 289), (152, 0, 296), (158, 0, 303), (173, 0, 310), (179, 0, 317), (199, 0, 324), (208, 0, 331), (213, 0, 336), (220, 0, 343), (229, 0, 350), (239, 0, 357), (246, 0, 364)]
noncomputable def z215 : Obj := zf "_law_odd" "_law_odd" s_law_odd "law_gapscribe_k21_fills_cuts_changes" 569 289
noncomputable def z216 : Obj := zt "tuple" (.seq #[.str "_law_deed" 683, .str "_law_form_here" 684, .str "_law_told" 685, .str "_law_e" 686])
noncomputable def q42 (P : Params) : B := .node z136 (.node z133 (zm z131 (zl z0)) (zm z132 (zl z0))) (.node z135 (zm z1 (zl z215)) (zm z134 (zl z216)))
noncomputable def q43 (P : Params) : B := .node z142 (.node z139 (zm z137 (zl z0)) (zm z138 (zl z0))) (.node z141 (zm z140 (zl z1)) (zl z20))
noncomputable def z217 : Obj := zh "_law_form" "_law_form" s_law_form
noncomputable def q44 (P : Params) : B := .node (z149 P) (.node z146 (zm z144 (zl z143)) (zm z145 (zl z217))) (.node z1 (zm z147 (zl z0)) (zm z148 (zl z0)))
noncomputable def z218 : Obj := zt "tuple" (.seq #[.str "_law_cells" 621, .str "_law_names_here" 622, .str "_law_left" 623, .str "_law_cell_here" 624, .str "_law_word" 625, .str "_law_note" 626, .str "_law_parts" 627, .str "_law_k" 628, .str "_law_tree_here" 629, .str "_law_form_here" 630])
noncomputable def q45 (P : Params) : B := .node z153 (.node z150 (zm z0 (zl z1)) (zm z0 (zl z1))) (.node z0 (zm z151 (zl z218)) (zl z152))
noncomputable def z219 : Obj := zf "_law_done" "_law_done" s_law_done "law_gapscribe_k21_fills_cuts_changes" 569 357
noncomputable def q46 (P : Params) : B := .node z159 (.node z156 (zm z1 (zl z0)) (zm z155 (zl z0))) (.node z158 (zm z157 (zl z0)) (zm z1 (zl z219)))
noncomputable def z220 : Obj := zh "_law_class" "_law_class" s_law_class
noncomputable def z221 : Obj := zc "_law_many" "_law_many" "/claim/cut.py" 611 173 1 3 305 615 616
noncomputable def q47 (P : Params) : B := .node (z165 P) (.node z162 (zm z0 (zl z160)) (zm z161 (zl z220))) (.node z164 (zm z18 (zl z221)) (zl z163))
noncomputable def z222 : Obj := zh "_law_head" "_law_head" s_law_head
noncomputable def q48 (P : Params) : B := .node z172 (.node z168 (zm z167 (zl (z166 P))) (zm z0 (zl z1))) (.node z171 (zm z169 (zl z222)) (zl z170))
noncomputable def z223 : Obj := zc "_law_made" "_law_made" "/claim/cut.py" 670 229 2 3 345 677 678
noncomputable def z224 : Obj := zf "_law_tree" "_law_tree" s_law_tree "law_gapscribe_k21_fills_cuts_changes" 569 317
noncomputable def q49 (P : Params) : B := .node z0 (.node z1 (zm z173 (zl z0)) (zm z0 (zl z223))) (.node z0 (zm z1 (zl z224)) (zl z174))
noncomputable def q50 (P : Params) : B := .node (boot_o_2 P) (.node (boot_o_4 P) (.node (boot_o_8 P) (.node z20 (q34 P) (q35 P)) (.node z110 (q36 P) (q37 P))) (.node z214 (.node z120 (q38 P) (q39 P)) (.node z105 (q40 P) (q41 P)))) (.node (boot_o_6 P) (.node (boot_o_10 P) (.node z0 (q42 P) (q43 P)) (.node z154 (q44 P) (q45 P))) (.node z176 (.node z0 (q46 P) (q47 P)) (.node (z175 P) (q48 P) (q49 P))))
noncomputable def Rtree_429 : Params → B := fun P => (.node (boot_o_0 P) (q33 P) (q50 P))
noncomputable def q51 (P : Params) : B := .node z0 (.node z3 (.node z1 (zl z0) (zl z0)) (zm z2 (zl z0))) (.node z5 (zm z4 (zl z1)) (zm z1 (zl z177)))
noncomputable def z225 : Obj := zc "law" "law" "/claim/cut.py" 748 291 1 3 394 757 758
noncomputable def q52 (P : Params) : B := .node z0 (.node z0 (.node z0 (zl z6) (zl z225)) (zm z7 (zl z178))) (.node z9 (zm z0 (zl z179)) (zm z8 (zl z1)))
noncomputable def z226 : Obj := zh "_law_good" "_law_good" s_law_good
noncomputable def q53 (P : Params) : B := .node z15 (.node z0 (.node z11 (zl z1) (zl z226)) (zm z0 (zl z1))) (.node z14 (zm z12 (zl z180)) (zm z13 (zl z0)))
noncomputable def z227 : Obj := zt "tuple" (.seq #[.str "_law_deed" 715, .str "_law_form_here" 716, .str "_law_due" 717, .str "_law_k" 718, .str "_law_found" 719, .str "_law_back_here" 720])
noncomputable def q54 (P : Params) : B := .node z0 (.node z19 (zm z17 (zl z16)) (zm z18 (zl z181))) (.node z0 (zm z20 (zl z182)) (zm z21 (zl z227)))
noncomputable def q55 (P : Params) : B := .node z0 (.node (z26 P) (.node z24 (zl z23) (zl z0)) (zm z25 (zl z183))) (.node z29 (zm z27 (zl z0)) (zm z28 (zl z0)))
noncomputable def z228 : Obj := zc "_law_no_form" "_law_no_form" "/claim/cut.py" 700 253 2 3 366 709 710
noncomputable def q56 (P : Params) : B := .node z33 (.node z0 (zm z0 (zl z1)) (zm (z30 P) (zl z1))) (.node z0 (zm z31 (zl z184)) (zm (z32 P) (zl z228)))
noncomputable def q57 (P : Params) : B := .node z0 (.node z36 (.node z35 (zl z34) (zl z1)) (zm z0 (zl z185))) (.node z38 (zm z0 (zl z1)) (zm z37 (zl z186)))
noncomputable def z229 : Obj := zf "_law_fits" "_law_fits" s_law_fits "law_gapscribe_k21_fills_cuts_changes" 569 378
noncomputable def q58 (P : Params) : B := .node z0 (.node z41 (zm z20 (zl z39)) (zm z40 (zl z187))) (.node z43 (zm z42 (zl z0)) (zm z0 (zl z229)))
noncomputable def d12 (P : Params) : List DictEntry := d11 P ++ [ze P "_law_no_form" 711 (.ref 372), ze P "_law_fits" 723 (.ref 379), ze P "_law_no_deed" 731 (.ref 386), ze P "_law_good" 747 (.ref 393), ze P "law" 759 (.ref 400)]
noncomputable def z230 (P : Params) : Obj := zt "dict" (.dict ⟨d12 P⟩ 54)
noncomputable def z231 : Obj := zc "_law_no_deed" "_law_no_deed" "/claim/cut.py" 724 270 2 3 380 729 730
noncomputable def q59 (P : Params) : B := .node z50 (.node z48 (.node z0 (zl z46) (zl z231)) (zm z47 (zl z189))) (.node z49 (zm z0 (zl z190)) (zm z0 (zl z1)))
noncomputable def q60 (P : Params) : B := .node z56 (.node z54 (zm z52 (zl z51)) (zm z53 (zl z191))) (.node z1 (zm z55 (zl z0)) (zm z18 (zl z0)))
noncomputable def z232 : Obj := zf "_law_good" "_law_good" s_law_good "law_gapscribe_k21_fills_cuts_changes" 569 392
noncomputable def q61 (P : Params) : B := .node z20 (.node (z60 P) (.node z58 (zl z0) (zl z232)) (zm z59 (zl z0))) (.node z0 (zm z1 (zl z192)) (zm z61 (zl z193)))
noncomputable def z233 : Obj := zh "_law_fits" "_law_fits" s_law_fits
noncomputable def q62 (P : Params) : B := .node z65 (.node z1 (zm z62 (zl z0)) (zm (z63 P) (zl z0))) (.node z64 (zm z0 (zl z1)) (zm z1 (zl z233)))
noncomputable def z234 : Obj := zt "tuple" (.seq #[.str "_law_tree_here" 735, .str "_law_other" 736, .str "_law_cell_here" 737, .str "_law_gap" 738, .str "_law_deed" 739, .str "_law_change" 740, .str "_law_cut" 741, .str "_law_nothing" 742, .str "_law_form_here" 743, .str "_law_bad" 744])
noncomputable def q63 (P : Params) : B := .node z70 (.node z68 (.node z0 (zl z67) (zl z234)) (zm z1 (zl z194))) (.node z1 (zm z69 (zl z195)) (zm z0 (zl z196)))
noncomputable def q64 (P : Params) : B := .node z20 (.node z73 (zm z71 (zl z0)) (zm z72 (zl z0))) (.node z76 (zm z74 (zl z197)) (zm z75 (zl z0)))
noncomputable def q65 (P : Params) : B := .node z83 (.node z1 (.node z1 (zl z78) (zl z0)) (zm z79 (zl z0))) (.node z82 (zm z80 (zl z0)) (zm (z81 P) (zl z198)))
noncomputable def q66 (P : Params) : B := .node z88 (.node z0 (zm z0 (zl z84)) (zm z85 (zl z199))) (.node z87 (zm z0 (zl z200)) (zm z86 (zl z1)))
noncomputable def q67 (P : Params) : B := .node (boot_o_1 P) (.node (z230 P) (.node (boot_o_7 P) (.node z10 (q51 P) (q52 P)) (.node (z22 P) (q53 P) (q54 P))) (.node z0 (.node z1 (q55 P) (q56 P)) (.node z44 (q57 P) (q58 P)))) (.node (boot_o_5 P) (.node (boot_o_9 P) (.node (z57 P) (q59 P) (q60 P)) (.node z66 (q61 P) (q62 P))) (.node z89 (.node z77 (q63 P) (q64 P)) (.node z20 (q65 P) (q66 P))))
noncomputable def z235 : Obj := zh "_law_no_deed" "_law_no_deed" s_law_no_deed
noncomputable def q68 (P : Params) : B := .node z1 (.node z91 (.node z90 (zl z1) (zl z235)) (zm z0 (zl z1))) (.node z0 (zm z92 (zl z201)) (zm z93 (zl z0)))
noncomputable def z236 : Obj := zf "law" "law" s_law "law_gapscribe_k21_fills_cuts_changes" 569 399
noncomputable def z237 : Obj := zt "tuple" (.seq #[.str "_law_tree_here" 703, .str "_law_cell_here" 704, .str "_law_rows" 705, .str "_law_place" 706, .str "_law_form_here" 707, .str "_law_some" 708])
noncomputable def q69 (P : Params) : B := .node (z100 P) (.node z97 (.node z95 (zl z94) (zl z236)) (zm z96 (zl z202))) (.node z0 (zm (z98 P) (zl z203)) (zm z99 (zl z237)))
noncomputable def z238 : Obj := zc "_law_good" "_law_good" "/claim/cut.py" 732 272 3 3 387 745 746
noncomputable def q70 (P : Params) : B := .node z105 (.node z103 (.node z0 (zl z101) (zl z238)) (zm z102 (zl z204))) (.node z104 (zm z0 (zl z205)) (zm z0 (zl z1)))
noncomputable def q71 (P : Params) : B := .node z109 (.node z0 (zm z107 (zl z106)) (zm z20 (zl z206))) (.node z1 (zm (z108 P) (zl z0)) (zm z0 (zl z0)))
noncomputable def q72 (P : Params) : B := .node (z115 P) (.node z113 (.node z112 (zl z111) (zl z1)) (zm z0 (zl z207))) (.node z0 (zm z0 (zl z1)) (zm z114 (zl z208)))
noncomputable def z239 : Obj := zf "_law_no_form" "_law_no_form" s_law_no_form "law_gapscribe_k21_fills_cuts_changes" 569 371
noncomputable def q73 (P : Params) : B := .node z105 (.node z1 (zm z1 (zl z116)) (zm z117 (zl z209))) (.node z119 (zm z118 (zl z0)) (zm z0 (zl z239)))
noncomputable def z240 : Obj := zt "tuple" (.seq #[.str "_law_script" 751, .str "_law_gap" 752, .str "_law_names_here" 753, .str "_law_trees" 754, .str "_law_k" 755, .str "_law_change" 756])
noncomputable def q74 (P : Params) : B := .node z1 (.node z0 (.node z0 (zl z121) (zl z240)) (zm z1 (zl z210))) (.node z0 (zm z122 (zl z211)) (zm z0 (zl z212)))
noncomputable def q75 (P : Params) : B := .node z1 (.node z126 (zm (z124 P) (zl z123)) (zm z125 (zl z0))) (.node z129 (zm z127 (zl z213)) (zm z128 (zl z0)))
noncomputable def z241 : Obj := zy [(2, 0, 20), (4, 0, 33), (6, 0, 45), (8, 0, 57), (19, 0, 81), (21, 0, 86), (25, 0, 91), (29, 0, 98), (31, 0, 103), (37, 0, 110), (39, 0, 117), (41, 0, 124), (53, 0, 131), (59, 0, 138), (68, 0, 145), (71, 0, 152), (74, 0, 159), (81, 0, 187), (96, 0, 220), (106, 0, 246), (118, 0, 279), (126, 0, 284), (143, 0, 289), (152, 0, 296), (158, 0, 303), (173, 0, 310), (179, 0, 317), (199, 0, 324), (208, 0, 331), (213, 0, 336), (220, 0, 343), (229, 0, 350), (239, 0, 357), (246, 0, 364), (253, 0, 371), (259, 0, 378), (270, 0, 385), (272, 0, 392), (291, 0, 399)]
noncomputable def z242 : Obj := zf "_law_no_deed" "_law_no_deed" s_law_no_deed "law_gapscribe_k21_fills_cuts_changes" 569 385
noncomputable def q76 (P : Params) : B := .node z136 (.node z133 (.node z131 (zl z0) (zl z242)) (zm z132 (zl z0))) (.node z135 (zm z1 (zl z215)) (zm z134 (zl z216)))
noncomputable def z243 : Obj := zh "_law_no_form" "_law_no_form" s_law_no_form
noncomputable def q77 (P : Params) : B := .node z142 (.node z139 (zm z137 (zl z0)) (zm z138 (zl z0))) (.node z141 (zm z140 (zl z1)) (zm z20 (zl z243)))
noncomputable def q78 (P : Params) : B := .node (z149 P) (.node z146 (.node z144 (zl z143) (zl z0)) (zm z145 (zl z217))) (.node z1 (zm z147 (zl z0)) (zm z148 (zl z0)))
noncomputable def z244 : Obj := zc "_law_fits" "_law_fits" "/claim/cut.py" 712 259 3 3 373 721 722
noncomputable def q79 (P : Params) : B := .node z153 (.node z150 (zm z0 (zl z1)) (zm z0 (zl z1))) (.node z0 (zm z151 (zl z218)) (zm z152 (zl z244)))
noncomputable def q80 (P : Params) : B := .node z159 (.node z156 (.node z1 (zl z0) (zl z0)) (zm z155 (zl z0))) (.node z158 (zm z157 (zl z0)) (zm z1 (zl z219)))
noncomputable def q81 (P : Params) : B := .node (z165 P) (.node z162 (zm z0 (zl z160)) (zm z161 (zl z220))) (.node z164 (zm z18 (zl z221)) (zm z163 (zl z1)))
noncomputable def z245 : Obj := zh "law" "law" s_law
noncomputable def q82 (P : Params) : B := .node z172 (.node z168 (.node z167 (zl (z166 P)) (zl z245)) (zm z0 (zl z1))) (.node z171 (zm z169 (zl z222)) (zm z170 (zl z0)))
noncomputable def z246 : Obj := zt "tuple" (.seq #[.str "_law_deed" 727, .str "_law_form_here" 728])
noncomputable def q83 (P : Params) : B := .node z0 (.node z1 (zm z173 (zl z0)) (zm z0 (zl z223))) (.node z0 (zm z1 (zl z224)) (zm z174 (zl z246)))
noncomputable def q84 (P : Params) : B := .node (boot_o_2 P) (.node (boot_o_4 P) (.node (boot_o_8 P) (.node z20 (q68 P) (q69 P)) (.node z110 (q70 P) (q71 P))) (.node z241 (.node z120 (q72 P) (q73 P)) (.node z105 (q74 P) (q75 P)))) (.node (boot_o_6 P) (.node (boot_o_10 P) (.node z0 (q76 P) (q77 P)) (.node z154 (q78 P) (q79 P))) (.node z176 (.node z0 (q80 P) (q81 P)) (.node (z175 P) (q82 P) (q83 P))))
noncomputable def Rtree_466 : Params → B := fun P => (.node (boot_o_0 P) (q67 P) (q84 P))
noncomputable def h467_0 (P : Params) (t : List Obj) : List Obj := (boot_o_0 P) :: (boot_o_1 P) :: (boot_o_2 P) :: (z230 P) :: (boot_o_4 P) :: (boot_o_5 P) :: (boot_o_6 P) :: (boot_o_7 P) :: (boot_o_8 P) :: (boot_o_9 P) :: (boot_o_10 P) :: z0 :: t
noncomputable def h467_12 (P : Params) (t : List Obj) : List Obj := z241 :: z89 :: z176 :: z10 :: z20 :: (z57 P) :: z0 :: z1 :: z120 :: z77 :: z0 :: (z22 P) :: t
noncomputable def h467_24 (P : Params) (t : List Obj) : List Obj := z110 :: z66 :: z154 :: z44 :: z105 :: z20 :: (z175 P) :: z0 :: z1 :: z50 :: z136 :: z0 :: t
noncomputable def h467_36 (P : Params) (t : List Obj) : List Obj := (z115 P) :: z70 :: z159 :: z15 :: z105 :: z20 :: (z149 P) :: z0 :: z1 :: z83 :: z172 :: z0 :: t
noncomputable def h467_48 (P : Params) (t : List Obj) : List Obj := (z100 P) :: z56 :: z142 :: z33 :: z105 :: z20 :: (z165 P) :: z0 :: z109 :: z65 :: z153 :: z0 :: t
noncomputable def h467_60 (P : Params) (t : List Obj) : List Obj := z1 :: z88 :: z0 :: z3 :: z91 :: z48 :: z133 :: (z26 P) :: z113 :: z68 :: z156 :: z0 :: t
noncomputable def h467_72 (P : Params) (t : List Obj) : List Obj := z103 :: (z60 P) :: z146 :: z36 :: z0 :: z1 :: z168 :: z0 :: z97 :: z54 :: z139 :: z0 :: t
noncomputable def h467_84 (P : Params) (t : List Obj) : List Obj := z1 :: z73 :: z162 :: z19 :: z0 :: z1 :: z150 :: z41 :: z126 :: z0 :: z1 :: z5 :: t
noncomputable def h467_96 (P : Params) (t : List Obj) : List Obj := z0 :: z49 :: z135 :: z29 :: z0 :: z1 :: z158 :: z14 :: z104 :: z0 :: z1 :: z38 :: t
noncomputable def h467_108 (P : Params) (t : List Obj) : List Obj := z0 :: z82 :: z171 :: z9 :: z0 :: z1 :: z141 :: z0 :: z119 :: z76 :: z164 :: z0 :: t
noncomputable def h467_120 (P : Params) (t : List Obj) : List Obj := z1 :: z64 :: z0 :: z43 :: z129 :: z87 :: z0 :: z1 :: z90 :: z0 :: z131 :: z24 :: t
noncomputable def h467_132 (P : Params) (t : List Obj) : List Obj := z112 :: z0 :: z1 :: z11 :: z0 :: z58 :: z144 :: z35 :: z0 :: z1 :: z167 :: z0 :: t
noncomputable def h467_144 (P : Params) (t : List Obj) : List Obj := z95 :: z52 :: z137 :: z0 :: z1 :: z71 :: z0 :: z17 :: z107 :: z62 :: z0 :: z20 :: t
noncomputable def h467_156 (P : Params) (t : List Obj) : List Obj := (z124 P) :: z0 :: z173 :: z4 :: z92 :: z0 :: z1 :: z27 :: z0 :: z69 :: z157 :: z12 :: t
noncomputable def h467_168 (P : Params) (t : List Obj) : List Obj := z0 :: z1 :: z147 :: z0 :: z122 :: z80 :: z169 :: z0 :: (z98 P) :: z55 :: z140 :: z31 :: t
noncomputable def h467_180 (P : Params) (t : List Obj) : List Obj := z118 :: z74 :: z18 :: z20 :: (z108 P) :: z0 :: z151 :: z42 :: z127 :: z0 :: z1 :: z2 :: t
noncomputable def h467_192 (P : Params) (t : List Obj) : List Obj := z0 :: z47 :: z132 :: z25 :: z0 :: z1 :: z155 :: z0 :: z102 :: z59 :: z145 :: z0 :: t
noncomputable def h467_204 (P : Params) (t : List Obj) : List Obj := z1 :: z79 :: z0 :: z7 :: z96 :: z53 :: z138 :: (z30 P) :: z117 :: z72 :: z161 :: z18 :: t
noncomputable def h467_216 (P : Params) (t : List Obj) : List Obj := z20 :: (z63 P) :: z0 :: z40 :: z125 :: z85 :: z0 :: z1 :: z93 :: z0 :: z134 :: z28 :: t
noncomputable def h467_228 (P : Params) (t : List Obj) : List Obj := z114 :: z0 :: z1 :: z13 :: z0 :: z61 :: z148 :: z37 :: z0 :: (z81 P) :: z170 :: z8 :: t
noncomputable def h467_240 (P : Params) (t : List Obj) : List Obj := z99 :: z18 :: z20 :: (z32 P) :: z0 :: z75 :: z163 :: z21 :: z0 :: z1 :: z152 :: z0 :: t
noncomputable def h467_252 (P : Params) (t : List Obj) : List Obj := z128 :: z86 :: z174 :: z0 :: z1 :: z46 :: z0 :: z23 :: z111 :: z67 :: z0 :: z1 :: t
noncomputable def h467_264 (P : Params) (t : List Obj) : List Obj := z101 :: z0 :: z143 :: z34 :: z121 :: z78 :: (z166 P) :: z6 :: z94 :: z51 :: z0 :: z1 :: t
noncomputable def h467_276 (P : Params) (t : List Obj) : List Obj := z116 :: z0 :: z160 :: z16 :: z106 :: z0 :: z1 :: z39 :: z123 :: z84 :: z0 :: z1 :: t
noncomputable def h467_288 (P : Params) (t : List Obj) : List Obj := z201 :: z190 :: z215 :: z0 :: z1 :: z195 :: z0 :: z180 :: z205 :: z192 :: z0 :: z1 :: t
noncomputable def h467_300 (P : Params) (t : List Obj) : List Obj := z211 :: z0 :: z222 :: z179 :: z203 :: z0 :: z1 :: z184 :: z0 :: z197 :: z221 :: z182 :: t
noncomputable def h467_312 (P : Params) (t : List Obj) : List Obj := z0 :: z1 :: z218 :: z0 :: z213 :: z200 :: z224 :: z0 :: z1 :: z189 :: z0 :: z183 :: t
noncomputable def h467_324 (P : Params) (t : List Obj) : List Obj := z207 :: z194 :: z0 :: z1 :: z204 :: z0 :: z217 :: z185 :: z210 :: z0 :: z1 :: z178 :: t
noncomputable def h467_336 (P : Params) (t : List Obj) : List Obj := z202 :: z191 :: z0 :: z1 :: z209 :: z0 :: z220 :: z181 :: z206 :: z0 :: z1 :: z187 :: t
noncomputable def h467_348 (P : Params) (t : List Obj) : List Obj := z0 :: z199 :: z223 :: z177 :: z0 :: z1 :: z216 :: z0 :: z208 :: z196 :: z219 :: z0 :: t
noncomputable def h467_360 (P : Params) (t : List Obj) : List Obj := z1 :: z193 :: z0 :: z186 :: z212 :: z198 :: z0 :: z1 :: z237 :: z0 :: z243 :: z228 :: t
noncomputable def h467_372 (P : Params) (t : List Obj) : List Obj := z239 :: z0 :: z1 :: z227 :: z0 :: z233 :: z244 :: z229 :: z0 :: z1 :: z246 :: z0 :: t
noncomputable def h467_384 (P : Params) (t : List Obj) : List Obj := z235 :: z231 :: z242 :: z0 :: z1 :: z234 :: z0 :: z226 :: z238 :: z232 :: z0 :: z1 :: t
noncomputable def h467_396 (P : Params) (t : List Obj) : List Obj := z240 :: z0 :: z245 :: z225 :: z236 :: t
noncomputable def Rheap_467 : Params → Heap := fun P => ⟨⟨h467_0 P (h467_12 P (h467_24 P (h467_36 P (h467_48 P (h467_60 P (h467_72 P (h467_84 P (h467_96 P (h467_108 P (h467_120 P (h467_132 P (h467_144 P (h467_156 P (h467_168 P (h467_180 P (h467_192 P (h467_204 P (h467_216 P (h467_228 P (h467_240 P (h467_252 P (h467_264 P (h467_276 P (h467_288 P (h467_300 P (h467_312 P (h467_324 P (h467_336 P (h467_348 P (h467_360 P (h467_372 P (h467_384 P (h467_396 P ([]))))))))))))))))))))))))))))))))))⟩, Life.mk [] [] [] 0 [] [] false #[] [] 0 false false false 0 [2000, 10, 10] false 0 true [] [] 0 false⟩
noncomputable def KK : Params → PySem.W.Frag := fun P => (nat_lit 2, boot_o_2 P) :: (nat_lit 3, z230 P) :: (nat_lit 23, z22 P) :: (nat_lit 24, z110) :: (nat_lit 36, z115 P) :: (nat_lit 37, z70) :: (nat_lit 48, z100 P) :: (nat_lit 49, z56) :: (nat_lit 67, z26 P) :: (nat_lit 68, z113) :: (nat_lit 71, z0) :: (nat_lit 72, z103) :: (nat_lit 73, z60 P) :: (nat_lit 74, z146) :: (nat_lit 75, z36) :: (nat_lit 81, z54) :: (nat_lit 82, z139) :: (nat_lit 86, z162) :: (nat_lit 87, z19) :: (nat_lit 91, z41) :: (nat_lit 92, z126) :: (nat_lit 98, z135) :: (nat_lit 99, z29) :: (nat_lit 103, z14) :: (nat_lit 104, z104) :: (nat_lit 110, z171) :: (nat_lit 111, z9) :: (nat_lit 117, z76) :: (nat_lit 118, z164) :: (nat_lit 124, z129) :: (nat_lit 125, z87) :: (nat_lit 131, z24) :: (nat_lit 132, z112) :: (nat_lit 138, z144) :: (nat_lit 139, z35) :: (nat_lit 145, z52) :: (nat_lit 146, z137) :: (nat_lit 152, z107) :: (nat_lit 153, z62) :: (nat_lit 166, z157) :: (nat_lit 167, z12) :: (nat_lit 173, z80) :: (nat_lit 174, z169) :: (nat_lit 176, z98 P) :: (nat_lit 177, z55) :: (nat_lit 194, z132) :: (nat_lit 195, z25) :: (nat_lit 201, z59) :: (nat_lit 202, z145) :: (nat_lit 208, z96) :: (nat_lit 209, z53) :: (nat_lit 211, z30 P) :: (nat_lit 212, z117) :: (nat_lit 227, z28) :: (nat_lit 228, z114) :: (nat_lit 234, z148) :: (nat_lit 235, z37) :: (nat_lit 237, z81 P) :: (nat_lit 238, z170) :: (nat_lit 253, z86) :: (nat_lit 254, z174) :: (nat_lit 260, z111) :: (nat_lit 261, z67) :: (nat_lit 267, z34) :: (nat_lit 268, z121) :: (nat_lit 270, z166 P) :: (nat_lit 271, z6) :: (nat_lit 279, z16) :: (nat_lit 280, z106) :: (nat_lit 284, z123) :: (nat_lit 285, z84) :: (nat_lit 289, z190) :: (nat_lit 290, z215) :: (nat_lit 296, z205) :: (nat_lit 297, z192) :: (nat_lit 303, z179) :: (nat_lit 304, z203) :: (nat_lit 310, z221) :: (nat_lit 311, z182) :: (nat_lit 317, z200) :: (nat_lit 318, z224) :: (nat_lit 324, z207) :: (nat_lit 325, z194) :: (nat_lit 331, z185) :: (nat_lit 332, z210) :: (nat_lit 336, z202) :: (nat_lit 337, z191) :: (nat_lit 343, z181) :: (nat_lit 344, z206) :: (nat_lit 350, z223) :: (nat_lit 351, z177) :: (nat_lit 357, z196) :: (nat_lit 358, z219) :: (nat_lit 364, z212) :: (nat_lit 365, z198) :: (nat_lit 371, z228) :: (nat_lit 372, z239) :: (nat_lit 378, z244) :: (nat_lit 379, z229) :: (nat_lit 385, z231) :: (nat_lit 386, z242) :: (nat_lit 392, z238) :: (nat_lit 393, z232) :: (nat_lit 399, z225) :: (nat_lit 400, z236) :: []
noncomputable def KA : List Addr := nat_lit 2 :: nat_lit 3 :: nat_lit 23 :: nat_lit 24 :: nat_lit 36 :: nat_lit 37 :: nat_lit 48 :: nat_lit 49 :: nat_lit 67 :: nat_lit 68 :: nat_lit 71 :: nat_lit 72 :: nat_lit 73 :: nat_lit 74 :: nat_lit 75 :: nat_lit 81 :: nat_lit 82 :: nat_lit 86 :: nat_lit 87 :: nat_lit 91 :: nat_lit 92 :: nat_lit 98 :: nat_lit 99 :: nat_lit 103 :: nat_lit 104 :: nat_lit 110 :: nat_lit 111 :: nat_lit 117 :: nat_lit 118 :: nat_lit 124 :: nat_lit 125 :: nat_lit 131 :: nat_lit 132 :: nat_lit 138 :: nat_lit 139 :: nat_lit 145 :: nat_lit 146 :: nat_lit 152 :: nat_lit 153 :: nat_lit 166 :: nat_lit 167 :: nat_lit 173 :: nat_lit 174 :: nat_lit 176 :: nat_lit 177 :: nat_lit 194 :: nat_lit 195 :: nat_lit 201 :: nat_lit 202 :: nat_lit 208 :: nat_lit 209 :: nat_lit 211 :: nat_lit 212 :: nat_lit 227 :: nat_lit 228 :: nat_lit 234 :: nat_lit 235 :: nat_lit 237 :: nat_lit 238 :: nat_lit 253 :: nat_lit 254 :: nat_lit 260 :: nat_lit 261 :: nat_lit 267 :: nat_lit 268 :: nat_lit 270 :: nat_lit 271 :: nat_lit 279 :: nat_lit 280 :: nat_lit 284 :: nat_lit 285 :: nat_lit 289 :: nat_lit 290 :: nat_lit 296 :: nat_lit 297 :: nat_lit 303 :: nat_lit 304 :: nat_lit 310 :: nat_lit 311 :: nat_lit 317 :: nat_lit 318 :: nat_lit 324 :: nat_lit 325 :: nat_lit 331 :: nat_lit 332 :: nat_lit 336 :: nat_lit 337 :: nat_lit 343 :: nat_lit 344 :: nat_lit 350 :: nat_lit 351 :: nat_lit 357 :: nat_lit 358 :: nat_lit 364 :: nat_lit 365 :: nat_lit 371 :: nat_lit 372 :: nat_lit 378 :: nat_lit 379 :: nat_lit 385 :: nat_lit 386 :: nat_lit 392 :: nat_lit 393 :: nat_lit 399 :: nat_lit 400 :: []
noncomputable def RB (P : Params) : List PySem.W.BT × List Heap := ([Rtree_347 P, Rtree_429 P, Rtree_466 P], [Rheap_467 P])
theorem e_RB : RB = RB := rfl
name_quick x_RB for K21.RB by K21.e_RB
end K21
noncomputable def PySem.W.Fast.tw2679789061152936782 : PySem.Params → PySem.W.BT := PySem.W.Fast.tw14441234736167843494
theorem PySem.W.Fast.te2679789061152936782 : K21.Rtree_347 = PySem.W.Fast.tw2679789061152936782 := PySem.W.Fast.te14441234736167843494
noncomputable def PySem.W.Fast.tw9636631060903486285 : PySem.Params → PySem.W.BT := PySem.W.Fast.tw372797045254586326
theorem PySem.W.Fast.te9636631060903486285 : K21.Rtree_429 = PySem.W.Fast.tw9636631060903486285 := PySem.W.Fast.te372797045254586326
noncomputable def PySem.W.Fast.tw1170628796937070498 : PySem.Params → PySem.W.BT := PySem.W.Fast.tw3482564277334924748
theorem PySem.W.Fast.te1170628796937070498 : K21.Rtree_466 = PySem.W.Fast.tw1170628796937070498 := PySem.W.Fast.te3482564277334924748
noncomputable def PySem.W.Fast.tw10650044299728406961 : PySem.Params → PySem.Heap := PySem.W.Fast.tw787943368585982128
theorem PySem.W.Fast.te10650044299728406961 : K21.Rheap_467 = PySem.W.Fast.tw10650044299728406961 := PySem.W.Fast.te787943368585982128

set_option Elab.async false
set_option linter.all false
set_option maxRecDepth 100000
set_option maxHeartbeats 8000000
namespace K21
open PySem L2 K10
noncomputable abbrev spLaw := sp_law
theorem all1 {α : Type} {P : List α → Prop} (h : ∀ a, P [a]) : ∀ us : List α, us.length = 1 → P us
  | [a], _ => h a
theorem all2 {α : Type} {P : List α → Prop} (h : ∀ a b, P [a, b]) : ∀ us : List α, us.length = 2 → P us
  | [a, b], _ => h a b
theorem all3 {α : Type} {P : List α → Prop} (h : ∀ a b c, P [a, b, c]) : ∀ us : List α, us.length = 3 → P us
  | [a, b, c], _ => h a b c
theorem tail_GE {K : PySem.W.Frag} {GE : Addr} {ddG : Option Addr} {cdG : ClassData} {slG : Array (Option Value)} {cG : Value} (ho : K.lookup GE = some ⟨cG, ddG, .cls cdG, slG⟩) (hok : PySem.W.nsOkIn K cdG.ns = true) (hni : PySem.W.nsIn K cdG.ns "__init__" = some none) : PySem.W.tailIn K VE (.ref GE :: VE) = true ∧ (PySem.W.clsIn K GE).isSome = true := by
  have e : PySem.W.tailIn K VE VE = true := by unfold PySem.W.tailIn; rfl
  refine ⟨?_, by unfold PySem.W.clsIn; rw [ho]; rfl⟩
  unfold PySem.W.tailIn
  dsimp only
  rw [ho]
  dsimp only
  rw [hok, hni, e]
  simp
theorem excI_mk {K : PySem.W.Frag} {C GE : Addr} {ddC : Option Addr} {cdC : ClassData} {slC : Array (Option Value)} {k0 k1 k2 k3 k5 : Option Value} (hC : K.lookup C = some ⟨.type "type", ddC, .cls cdC, slC⟩) (hm : cdC.mro = .ref C :: .ref GE :: VE) (hs : slC.toList = [k0, k1, k2, k3, some (.builtin "ValueError.__new__"), k5]) (hd : cdC.hasDel = false) (h : PySem.W.tailIn K VE (.ref GE :: VE) = true) : excI K C = true ∧ ((PySem.W.clsIn K C).any fun cd => overVE cd.mro) = true := by
  refine ⟨?_, ?_⟩
  · unfold excI
    rw [hC]
    simp only [hm, hs]
    rw [hd, h]
    simp
  · unfold PySem.W.clsIn
    rw [hC]
    dsimp only
    show overVE cdC.mro = true
    rw [hm]
    show overVE VE = true
    decide
theorem kit_ref {K : PySem.W.Frag} {C X : Addr} {b : Bool} {c : Value} {dd : Option Addr} {cd : ClassData} {sl : Array (Option Value)} (hX : K.lookup X = some ⟨c, dd, .cls cd, sl⟩) (ht : PySem.W.typeIn K (.ref X) = some (.type "type")) (hs : PySem.W.subIn K (.ref C) (.ref X) = some b) (hn : b = false → (C == X) = false) : PySem.W.kitOne K (.ref C) (.ref X) = some b := by
  unfold PySem.W.kitOne
  by_cases h : ((Value.ref C) == (Value.ref X)) = true
  · rw [if_pos h]
    have e := beq_iff_eq.mp h
    injection e with e
    subst e
    cases b with
    | true => rfl
    | false => have := hn rfl; simp at this
  · rw [if_neg h]
    unfold PySem.W.kitCls
    dsimp only
    rw [if_pos]
    · exact hs
    · rw [ht]
      unfold PySem.W.clsIn
      rw [hX]
      simp
theorem kit_ty {K : PySem.W.Frag} {C : Addr} (hs : PySem.W.subIn K (.ref C) (.type "ValueError") = some true) : PySem.W.kitOne K (.ref C) (.type "ValueError") = some true := by
  unfold PySem.W.kitOne
  rw [if_neg (by intro h; have := beq_iff_eq.mp h; cases this)]
  unfold PySem.W.kitCls
  dsimp only
  rw [if_pos (by rfl)]
  exact hs
theorem excIn_mk {K : PySem.W.Frag} {C GE : Addr} {ddC : Option Addr} {cdC : ClassData} {slC : Array (Option Value)} {k0 k1 k2 k3 k5 : Option Value} (hC : K.lookup C = some ⟨.type "type", ddC, .cls cdC, slC⟩) (hm : cdC.mro = .ref C :: .ref GE :: VE) (hs : slC.toList = [k0, k1, k2, k3, some (.builtin "ValueError.__new__"), k5]) (hd : cdC.hasDel = false) (h : PySem.W.tailIn K VE (.ref GE :: VE) = true) (hok : PySem.W.nsOkIn K cdC.ns = true) (hni : PySem.W.nsIn K cdC.ns "__init__" = some none) : PySem.W.excIn K C VE "ValueError.__new__" = true := by
  unfold PySem.W.excIn
  rw [hC]
  simp only [hm, hs]
  rw [hd, h, hok, hni]
  simp
theorem gap_top {K : PySem.W.Frag} {a e : Addr} {od : Option Addr} {its : Array Value} {n : Nat} {sl : Array (Option Value)} {tk : Tok} (l : K.lookup a = some ⟨.type "tuple", od, .seq its n, sl⟩) (h : its.toList = [.str "gap" tk, .none, .ref e]) : ∀ H, SqT K H a [.str "gap", .non, .ref e] := fun H => by
  have v : Vals [.str "gap", .non, .ref e] its.toList := by rw [h]; exact .cons ⟨tk, rfl⟩ (.cons rfl (.cons rfl .nil))
  refine .inr ⟨_, its, n, l, rfl, rfl, ?_, v⟩
  have b : 1000 ≤ sizeLine := by decide
  have e2 : its.toList.length = its.size := Array.length_toList
  have e3 : its.toList.length = 3 := by rw [h]; rfl
  omega
theorem all_mk {l : PySem.W.OpenLaw} {w : World} {K : PySem.W.Frag} {h : Heap} {mg : Str → Option Value} {fa f1 f2 f3 f4 f5 f6 f7 f8 f9 f10 f11 f12 f13 f14 f15 f16 f17 f18 f19 f20 f21 f22 f23 f24 f25 f26 f27 f28 f29 f30 f31 : Addr} (X : K.In h) (G : h.Ns mainGlobals mg) (hfa : mg "law" = some (.ref fa))
    {od1 an1 od2 an2 od3 an3 od4 an4 od5 an5 od6 an6 od7 an7 od8 an8 od9 an9 od10 an10 od11 an11 od12 an12 od13 an13 od14 an14 od15 an15 od16 an16 od17 an17 od18 an18 od19 an19 od20 an20 od21 an21 od22 an22 od23 an23 od24 an24 od25 an25 od26 an26 od27 an27 od28 an28 od29 an29 od30 an30 od31 an31 : Option Addr}
    {sl1 sl2 sl3 sl4 sl5 sl6 sl7 sl8 sl9 sl10 sl11 sl12 sl13 sl14 sl15 sl16 sl17 sl18 sl19 sl20 sl21 sl22 sl23 sl24 sl25 sl26 sl27 sl28 sl29 sl30 sl31 : Array (Option Value)}
    {oc1 kV1 dc1 pm1 cd1 ct1 oc2 kV2 dc2 pm2 cd2 ct2 oc3 kV3 dc3 pm3 cd3 ct3 oc4 kV4 dc4 pm4 cd4 ct4 oc5 kV5 dc5 pm5 cd5 ct5 oc6 kV6 dc6 pm6 cd6 ct6 oc7 kV7 dc7 pm7 cd7 ct7 oc8 kV8 dc8 pm8 cd8 ct8 oc9 kV9 dc9 pm9 cd9 ct9 oc10 kV10 dc10 pm10 cd10 ct10 oc11 kV11 dc11 pm11 cd11 ct11 oc12 kV12 dc12 pm12 cd12 ct12 oc13 kV13 dc13 pm13 cd13 ct13 oc14 kV14 dc14 pm14 cd14 ct14 oc15 kV15 dc15 pm15 cd15 ct15 oc16 kV16 dc16 pm16 cd16 ct16 oc17 kV17 dc17 pm17 cd17 ct17 oc18 kV18 dc18 pm18 cd18 ct18 oc19 kV19 dc19 pm19 cd19 ct19 oc20 kV20 dc20 pm20 cd20 ct20 oc21 kV21 dc21 pm21 cd21 ct21 oc22 kV22 dc22 pm22 cd22 ct22 oc23 kV23 dc23 pm23 cd23 ct23 oc24 kV24 dc24 pm24 cd24 ct24 oc25 kV25 dc25 pm25 cd25 ct25 oc26 kV26 dc26 pm26 cd26 ct26 oc27 kV27 dc27 pm27 cd27 ct27 oc28 kV28 dc28 pm28 cd28 ct28 oc29 kV29 dc29 pm29 cd29 ct29 oc30 kV30 dc30 pm30 cd30 ct30 oc31 kV31 dc31 pm31 cd31 ct31 : Value}
    (a1 : PySem.W.nsIn K mainGlobals "is_whole" = some (some (.ref f1))) (l1 : K.lookup f1 = some ⟨oc1, od1, .func (PySem.W.fnOf "is_whole" "is_whole" (defArgs s_is_whole) (defBody s_is_whole) (defScope s_is_whole) .none kV1 dc1 pm1 an1 cd1 ct1), sl1⟩) (c1 : PySem.W.codeIn K cd1 "is_whole" = true) (k1 : PySem.W.keepIn K (.ref f1) = true)
    (a2 : PySem.W.nsIn K mainGlobals "is_name" = some (some (.ref f2))) (l2 : K.lookup f2 = some ⟨oc2, od2, .func (PySem.W.fnOf "is_name" "is_name" (defArgs s_is_name) (defBody s_is_name) (defScope s_is_name) .none kV2 dc2 pm2 an2 cd2 ct2), sl2⟩) (c2 : PySem.W.codeIn K cd2 "is_name" = true) (k2 : PySem.W.keepIn K (.ref f2) = true)
    (a3 : PySem.W.nsIn K mainGlobals "is_figures" = some (some (.ref f3))) (l3 : K.lookup f3 = some ⟨oc3, od3, .func (PySem.W.fnOf "is_figures" "is_figures" (defArgs s_is_figures) (defBody s_is_figures) (defScope s_is_figures) .none kV3 dc3 pm3 an3 cd3 ct3), sl3⟩) (c3 : PySem.W.codeIn K cd3 "is_figures" = true) (k3 : PySem.W.keepIn K (.ref f3) = true)
    (a4 : PySem.W.nsIn K mainGlobals "is_odd_sign" = some (some (.ref f4))) (l4 : K.lookup f4 = some ⟨oc4, od4, .func (PySem.W.fnOf "is_odd_sign" "is_odd_sign" (defArgs s_is_odd_sign) (defBody s_is_odd_sign) (defScope s_is_odd_sign) .none kV4 dc4 pm4 an4 cd4 ct4), sl4⟩) (c4 : PySem.W.codeIn K cd4 "is_odd_sign" = true) (k4 : PySem.W.keepIn K (.ref f4) = true)
    (a5 : PySem.W.nsIn K mainGlobals "is_odd" = some (some (.ref f5))) (l5 : K.lookup f5 = some ⟨oc5, od5, .func (PySem.W.fnOf "is_odd" "is_odd" (defArgs s_is_odd) (defBody s_is_odd) (defScope s_is_odd) .none kV5 dc5 pm5 an5 cd5 ct5), sl5⟩) (c5 : PySem.W.codeIn K cd5 "is_odd" = true) (k5 : PySem.W.keepIn K (.ref f5) = true)
    (a6 : PySem.W.nsIn K mainGlobals "is_word" = some (some (.ref f6))) (l6 : K.lookup f6 = some ⟨oc6, od6, .func (PySem.W.fnOf "is_word" "is_word" (defArgs s_is_word) (defBody s_is_word) (defScope s_is_word) .none kV6 dc6 pm6 an6 cd6 ct6), sl6⟩) (c6 : PySem.W.codeIn K cd6 "is_word" = true) (k6 : PySem.W.keepIn K (.ref f6) = true)
    (a7 : PySem.W.nsIn K mainGlobals "is_two_names" = some (some (.ref f7))) (l7 : K.lookup f7 = some ⟨oc7, od7, .func (PySem.W.fnOf "is_two_names" "is_two_names" (defArgs s_is_two_names) (defBody s_is_two_names) (defScope s_is_two_names) .none kV7 dc7 pm7 an7 cd7 ct7), sl7⟩) (c7 : PySem.W.codeIn K cd7 "is_two_names" = true) (k7 : PySem.W.keepIn K (.ref f7) = true)
    (a8 : PySem.W.nsIn K mainGlobals "is_note" = some (some (.ref f8))) (l8 : K.lookup f8 = some ⟨oc8, od8, .func (PySem.W.fnOf "is_note" "is_note" (defArgs s_is_note) (defBody s_is_note) (defScope s_is_note) .none kV8 dc8 pm8 an8 cd8 ct8), sl8⟩) (c8 : PySem.W.codeIn K cd8 "is_note" = true) (k8 : PySem.W.keepIn K (.ref f8) = true)
    (a9 : PySem.W.nsIn K mainGlobals "is_top_of_form" = some (some (.ref f9))) (l9 : K.lookup f9 = some ⟨oc9, od9, .func (PySem.W.fnOf "is_top_of_form" "is_top_of_form" (defArgs s_is_top_of_form) (defBody s_is_top_of_form) (defScope s_is_top_of_form) .none kV9 dc9 pm9 an9 cd9 ct9), sl9⟩) (c9 : PySem.W.codeIn K cd9 "is_top_of_form" = true) (k9 : PySem.W.keepIn K (.ref f9) = true)
    (a10 : PySem.W.nsIn K mainGlobals "is_form" = some (some (.ref f10))) (l10 : K.lookup f10 = some ⟨oc10, od10, .func (PySem.W.fnOf "is_form" "is_form" (defArgs s_is_form) (defBody s_is_form) (defScope s_is_form) .none kV10 dc10 pm10 an10 cd10 ct10), sl10⟩) (c10 : PySem.W.codeIn K cd10 "is_form" = true) (k10 : PySem.W.keepIn K (.ref f10) = true)
    (a11 : PySem.W.nsIn K mainGlobals "refuse_no_form" = some (some (.ref f11))) (l11 : K.lookup f11 = some ⟨oc11, od11, .func (PySem.W.fnOf "refuse_no_form" "refuse_no_form" (defArgs s_refuse_no_form) (defBody s_refuse_no_form) (defScope s_refuse_no_form) .none kV11 dc11 pm11 an11 cd11 ct11), sl11⟩) (c11 : PySem.W.codeIn K cd11 "refuse_no_form" = true) (k11 : PySem.W.keepIn K (.ref f11) = true)
    (a12 : PySem.W.nsIn K mainGlobals "refuse_no_gap" = some (some (.ref f12))) (l12 : K.lookup f12 = some ⟨oc12, od12, .func (PySem.W.fnOf "refuse_no_gap" "refuse_no_gap" (defArgs s_refuse_no_gap) (defBody s_refuse_no_gap) (defScope s_refuse_no_gap) .none kV12 dc12 pm12 an12 cd12 ct12), sl12⟩) (c12 : PySem.W.codeIn K cd12 "refuse_no_gap" = true) (k12 : PySem.W.keepIn K (.ref f12) = true)
    (a13 : PySem.W.nsIn K mainGlobals "_law_cell" = some (some (.ref f13))) (l13 : K.lookup f13 = some ⟨oc13, od13, .func (PySem.W.fnOf "_law_cell" "_law_cell" (defArgs s_law_cell) (defBody s_law_cell) (defScope s_law_cell) .none kV13 dc13 pm13 an13 cd13 ct13), sl13⟩) (c13 : PySem.W.codeIn K cd13 "_law_cell" = true) (k13 : PySem.W.keepIn K (.ref f13) = true)
    (a14 : PySem.W.nsIn K mainGlobals "_law_names" = some (some (.ref f14))) (l14 : K.lookup f14 = some ⟨oc14, od14, .func (PySem.W.fnOf "_law_names" "_law_names" (defArgs s_law_names) (defBody s_law_names) (defScope s_law_names) .none kV14 dc14 pm14 an14 cd14 ct14), sl14⟩) (c14 : PySem.W.codeIn K cd14 "_law_names" = true) (k14 : PySem.W.keepIn K (.ref f14) = true)
    (a15 : PySem.W.nsIn K mainGlobals "_law_odd" = some (some (.ref f15))) (l15 : K.lookup f15 = some ⟨oc15, od15, .func (PySem.W.fnOf "_law_odd" "_law_odd" (defArgs s_law_odd) (defBody s_law_odd) (defScope s_law_odd) .none kV15 dc15 pm15 an15 cd15 ct15), sl15⟩) (c15 : PySem.W.codeIn K cd15 "_law_odd" = true) (k15 : PySem.W.keepIn K (.ref f15) = true)
    (a16 : PySem.W.nsIn K mainGlobals "_law_number" = some (some (.ref f16))) (l16 : K.lookup f16 = some ⟨oc16, od16, .func (PySem.W.fnOf "_law_number" "_law_number" (defArgs s_law_number) (defBody s_law_number) (defScope s_law_number) .none kV16 dc16 pm16 an16 cd16 ct16), sl16⟩) (c16 : PySem.W.codeIn K cd16 "_law_number" = true) (k16 : PySem.W.keepIn K (.ref f16) = true)
    (a17 : PySem.W.nsIn K mainGlobals "_law_head" = some (some (.ref f17))) (l17 : K.lookup f17 = some ⟨oc17, od17, .func (PySem.W.fnOf "_law_head" "_law_head" (defArgs s_law_head) (defBody s_law_head) (defScope s_law_head) .none kV17 dc17 pm17 an17 cd17 ct17), sl17⟩) (c17 : PySem.W.codeIn K cd17 "_law_head" = true) (k17 : PySem.W.keepIn K (.ref f17) = true)
    (a18 : PySem.W.nsIn K mainGlobals "_law_many" = some (some (.ref f18))) (l18 : K.lookup f18 = some ⟨oc18, od18, .func (PySem.W.fnOf "_law_many" "_law_many" (defArgs s_law_many) (defBody s_law_many) (defScope s_law_many) .none kV18 dc18 pm18 an18 cd18 ct18), sl18⟩) (c18 : PySem.W.codeIn K cd18 "_law_many" = true) (k18 : PySem.W.keepIn K (.ref f18) = true)
    (a19 : PySem.W.nsIn K mainGlobals "_law_tree" = some (some (.ref f19))) (l19 : K.lookup f19 = some ⟨oc19, od19, .func (PySem.W.fnOf "_law_tree" "_law_tree" (defArgs s_law_tree) (defBody s_law_tree) (defScope s_law_tree) .none kV19 dc19 pm19 an19 cd19 ct19), sl19⟩) (c19 : PySem.W.codeIn K cd19 "_law_tree" = true) (k19 : PySem.W.keepIn K (.ref f19) = true)
    (a20 : PySem.W.nsIn K mainGlobals "_law_walk" = some (some (.ref f20))) (l20 : K.lookup f20 = some ⟨oc20, od20, .func (PySem.W.fnOf "_law_walk" "_law_walk" (defArgs s_law_walk) (defBody s_law_walk) (defScope s_law_walk) .none kV20 dc20 pm20 an20 cd20 ct20), sl20⟩) (c20 : PySem.W.codeIn K cd20 "_law_walk" = true) (k20 : PySem.W.keepIn K (.ref f20) = true)
    (a21 : PySem.W.nsIn K mainGlobals "_law_form" = some (some (.ref f21))) (l21 : K.lookup f21 = some ⟨oc21, od21, .func (PySem.W.fnOf "_law_form" "_law_form" (defArgs s_law_form) (defBody s_law_form) (defScope s_law_form) .none kV21 dc21 pm21 an21 cd21 ct21), sl21⟩) (c21 : PySem.W.codeIn K cd21 "_law_form" = true) (k21 : PySem.W.keepIn K (.ref f21) = true)
    (a22 : PySem.W.nsIn K mainGlobals "_law_with" = some (some (.ref f22))) (l22 : K.lookup f22 = some ⟨oc22, od22, .func (PySem.W.fnOf "_law_with" "_law_with" (defArgs s_law_with) (defBody s_law_with) (defScope s_law_with) .none kV22 dc22 pm22 an22 cd22 ct22), sl22⟩) (c22 : PySem.W.codeIn K cd22 "_law_with" = true) (k22 : PySem.W.keepIn K (.ref f22) = true)
    (a23 : PySem.W.nsIn K mainGlobals "_law_class" = some (some (.ref f23))) (l23 : K.lookup f23 = some ⟨oc23, od23, .func (PySem.W.fnOf "_law_class" "_law_class" (defArgs s_law_class) (defBody s_law_class) (defScope s_law_class) .none kV23 dc23 pm23 an23 cd23 ct23), sl23⟩) (c23 : PySem.W.codeIn K cd23 "_law_class" = true) (k23 : PySem.W.keepIn K (.ref f23) = true)
    (a24 : PySem.W.nsIn K mainGlobals "_law_made" = some (some (.ref f24))) (l24 : K.lookup f24 = some ⟨oc24, od24, .func (PySem.W.fnOf "_law_made" "_law_made" (defArgs s_law_made) (defBody s_law_made) (defScope s_law_made) .none kV24 dc24 pm24 an24 cd24 ct24), sl24⟩) (c24 : PySem.W.codeIn K cd24 "_law_made" = true) (k24 : PySem.W.keepIn K (.ref f24) = true)
    (a25 : PySem.W.nsIn K mainGlobals "_law_done" = some (some (.ref f25))) (l25 : K.lookup f25 = some ⟨oc25, od25, .func (PySem.W.fnOf "_law_done" "_law_done" (defArgs s_law_done) (defBody s_law_done) (defScope s_law_done) .none kV25 dc25 pm25 an25 cd25 ct25), sl25⟩) (c25 : PySem.W.codeIn K cd25 "_law_done" = true) (k25 : PySem.W.keepIn K (.ref f25) = true)
    (a26 : PySem.W.nsIn K mainGlobals "_law_back" = some (some (.ref f26))) (l26 : K.lookup f26 = some ⟨oc26, od26, .func (PySem.W.fnOf "_law_back" "_law_back" (defArgs s_law_back) (defBody s_law_back) (defScope s_law_back) .none kV26 dc26 pm26 an26 cd26 ct26), sl26⟩) (c26 : PySem.W.codeIn K cd26 "_law_back" = true) (k26 : PySem.W.keepIn K (.ref f26) = true)
    (a27 : PySem.W.nsIn K mainGlobals "_law_no_form" = some (some (.ref f27))) (l27 : K.lookup f27 = some ⟨oc27, od27, .func (PySem.W.fnOf "_law_no_form" "_law_no_form" (defArgs s_law_no_form) (defBody s_law_no_form) (defScope s_law_no_form) .none kV27 dc27 pm27 an27 cd27 ct27), sl27⟩) (c27 : PySem.W.codeIn K cd27 "_law_no_form" = true) (k27 : PySem.W.keepIn K (.ref f27) = true)
    (a28 : PySem.W.nsIn K mainGlobals "_law_fits" = some (some (.ref f28))) (l28 : K.lookup f28 = some ⟨oc28, od28, .func (PySem.W.fnOf "_law_fits" "_law_fits" (defArgs s_law_fits) (defBody s_law_fits) (defScope s_law_fits) .none kV28 dc28 pm28 an28 cd28 ct28), sl28⟩) (c28 : PySem.W.codeIn K cd28 "_law_fits" = true) (k28 : PySem.W.keepIn K (.ref f28) = true)
    (a29 : PySem.W.nsIn K mainGlobals "_law_no_deed" = some (some (.ref f29))) (l29 : K.lookup f29 = some ⟨oc29, od29, .func (PySem.W.fnOf "_law_no_deed" "_law_no_deed" (defArgs s_law_no_deed) (defBody s_law_no_deed) (defScope s_law_no_deed) .none kV29 dc29 pm29 an29 cd29 ct29), sl29⟩) (c29 : PySem.W.codeIn K cd29 "_law_no_deed" = true) (k29 : PySem.W.keepIn K (.ref f29) = true)
    (a30 : PySem.W.nsIn K mainGlobals "_law_good" = some (some (.ref f30))) (l30 : K.lookup f30 = some ⟨oc30, od30, .func (PySem.W.fnOf "_law_good" "_law_good" (defArgs s_law_good) (defBody s_law_good) (defScope s_law_good) .none kV30 dc30 pm30 an30 cd30 ct30), sl30⟩) (c30 : PySem.W.codeIn K cd30 "_law_good" = true) (k30 : PySem.W.keepIn K (.ref f30) = true)
    (a31 : PySem.W.nsIn K mainGlobals "law" = some (some (.ref f31))) (l31 : K.lookup f31 = some ⟨oc31, od31, .func (PySem.W.fnOf "law" "law" (defArgs s_law) (defBody s_law) (defScope s_law) .none kV31 dc31 pm31 an31 cd31 ct31), sl31⟩) (c31 : PySem.W.codeIn K cd31 "law" = true) (k31 : PySem.W.keepIn K (.ref f31) = true)
    (z1 : PySem.W.nsIn K mainGlobals "isinstance" = some none)
    (z2 : PySem.W.nsIn K mainGlobals "int" = some none)
    (z3 : PySem.W.nsIn K mainGlobals "bool" = some none)
    (z4 : PySem.W.nsIn K mainGlobals "str" = some none)
    (z5 : PySem.W.nsIn K mainGlobals "len" = some none)
    (z6 : PySem.W.nsIn K mainGlobals "all" = some none)
    (z7 : PySem.W.nsIn K mainGlobals "tuple" = some none)
    (z8 : PySem.W.nsIn K mainGlobals "range" = some none)
    (z9 : PySem.W.nsIn K mainGlobals "enumerate" = some none)
    (z10 : PySem.W.nsIn K mainGlobals "reversed" = some none)
    (z11 : PySem.W.nsIn K mainGlobals "ValueError" = some none)
    (z12 : PySem.W.nsIn K mainGlobals "list" = some none)
    {zt100 : Tok} (z100 : PySem.W.nsIn K mainGlobals "NAME_SIGNS" = some (some (.str LET zt100)))
    {zt101 : Tok} (z101 : PySem.W.nsIn K mainGlobals "FIGURES" = some (some (.str DIG zt101)))
    {za102 : Addr} {zo102 : Option Addr} {zi102 : Array Value} {zn102 : Nat} {zs102 : Array (Option Value)} (z102 : PySem.W.nsIn K mainGlobals "WORDS_NO_NAMES" = some (some (.ref za102))) (y102 : K.lookup za102 = some ⟨.type "tuple", zo102, .seq zi102 zn102, zs102⟩) (x102 : absAll zi102.toList = some (W9.map V.str))
    {za103 : Addr} {zo103 : Option Addr} {zi103 : Array Value} {zn103 : Nat} {zs103 : Array (Option Value)} (z103 : PySem.W.nsIn K mainGlobals "WORDS_NOT_ODD" = some (some (.ref za103))) (y103 : K.lookup za103 = some ⟨.type "tuple", zo103, .seq zi103 zn103, zs103⟩) (x103 : absAll zi103.toList = some (W10.map V.str))
    {za104 : Addr} {zi104 : Array DictEntry} {zn104 : Nat} (z104 : PySem.W.nsIn K mainGlobals "PARTS_OF_WORDS" = some (some (.ref za104))) (y104 : K.lookup za104 = some ⟨.type "dict", none, .dict zi104 zn104, #[]⟩) (x104 : (za104 == sysModules) = false) (e104 : Ents w.params zi104.toList PARTS)
    {GE : Addr} {cGE : Value} {ddGE : Option Addr} {cdGE : ClassData} {slGE : Array (Option Value)} (xGa : PySem.W.nsIn K mainGlobals "GapError" = some (some (.ref GE))) (xGl : K.lookup GE = some ⟨cGE, ddGE, .cls cdGE, slGE⟩) {cN : Value} {ddN : Option Addr} {esN : Array DictEntry} {nN : Nat} {slN : Array (Option Value)} (xGn : K.lookup cdGE.ns = some ⟨cN, ddN, .dict esN nN, slN⟩) (xGk : (esN.toList.all fun e => match e.key with | .str _ _ => true | _ => false) = true) (xGi : PySem.W.nsIn K cdGE.ns "__init__" = some none) (xGt : PySem.W.typeIn K (.ref GE) = some (.type "type")) (xGb : PySem.W.subIn K (.ref GE) (.type "BaseException") = some true)
    (xcg : PySem.W.specialIn K (.builtin "object.__class__") "__get__" = some (some (.builtin "getset_descriptor.__get__"))) (xct : PySem.W.takesIn K (.builtin "object.__class__") = some true) {NF : Addr} {ddNF : Option Addr} {slNF : Array (Option Value)} {cdNF : ClassData} {j0NF j1NF j2NF j3NF j5NF : Option Value} (xNFa : PySem.W.nsIn K mainGlobals "NoForm" = some (some (.ref NF))) (xNFl : K.lookup NF = some ⟨.type "type", ddNF, .cls cdNF, slNF⟩) (xNFm : cdNF.mro = .ref NF :: .ref GE :: VE) (xNFs : slNF.toList = [j0NF, j1NF, j2NF, j3NF, some (.builtin "ValueError.__new__"), j5NF]) (xNFd : cdNF.hasDel = false)
    {cMNF : Value} {ddMNF : Option Addr} {esMNF : Array DictEntry} {nMNF : Nat} {slMNF : Array (Option Value)} (xNFn : K.lookup cdNF.ns = some ⟨cMNF, ddMNF, .dict esMNF nMNF, slMNF⟩) (xNFk : (esMNF.toList.all fun e => match e.key with | .str _ _ => true | _ => false) = true) (xNFi : PySem.W.nsIn K cdNF.ns "__init__" = some none) (xNFt : PySem.W.typeIn K (.ref NF) = some (.type "type")) (xNFh : PySem.W.hasDictIn K NF = true) (xNFg : PySem.W.findIn K (.ref NF) "__getattribute__" = some (some (.builtin "BaseException.__getattribute__"))) (xNFga : PySem.W.findIn K (.ref NF) "__getattr__" = some none)
    (xNFsa : PySem.W.findIn K (.ref NF) "__setattr__" = some (some (.builtin "object.__setattr__"))) (xNFsub : PySem.W.subIn K (.ref NF) (.ref GE) = some true) (xNFca : PySem.W.findIn K (.ref NF) "__class__" = some (some (.builtin "object.__class__"))) (xNFv : PySem.W.subIn K (.ref NF) (.type "ValueError") = some true) {ND : Addr} {ddND : Option Addr} {slND : Array (Option Value)} {cdND : ClassData} {j0ND j1ND j2ND j3ND j5ND : Option Value} (xNDa : PySem.W.nsIn K mainGlobals "NoDeed" = some (some (.ref ND))) (xNDl : K.lookup ND = some ⟨.type "type", ddND, .cls cdND, slND⟩) (xNDm : cdND.mro = .ref ND :: .ref GE :: VE)
    (xNDs : slND.toList = [j0ND, j1ND, j2ND, j3ND, some (.builtin "ValueError.__new__"), j5ND]) (xNDd : cdND.hasDel = false) {cMND : Value} {ddMND : Option Addr} {esMND : Array DictEntry} {nMND : Nat} {slMND : Array (Option Value)} (xNDn : K.lookup cdND.ns = some ⟨cMND, ddMND, .dict esMND nMND, slMND⟩) (xNDk : (esMND.toList.all fun e => match e.key with | .str _ _ => true | _ => false) = true) (xNDi : PySem.W.nsIn K cdND.ns "__init__" = some none) (xNDt : PySem.W.typeIn K (.ref ND) = some (.type "type")) (xNDh : PySem.W.hasDictIn K ND = true) (xNDg : PySem.W.findIn K (.ref ND) "__getattribute__" = some (some (.builtin "BaseException.__getattribute__")))
    (xNDga : PySem.W.findIn K (.ref ND) "__getattr__" = some none) (xNDsa : PySem.W.findIn K (.ref ND) "__setattr__" = some (some (.builtin "object.__setattr__"))) (xNDsub : PySem.W.subIn K (.ref ND) (.ref GE) = some true) (xNDca : PySem.W.findIn K (.ref ND) "__class__" = some (some (.builtin "object.__class__"))) (xNDv : PySem.W.subIn K (.ref ND) (.type "ValueError") = some true) {NP : Addr} {cNP : Value} {ddNP : Option Addr} {cdNP : ClassData} {slNP : Array (Option Value)} (xNPa : PySem.W.nsIn K mainGlobals "NoPlace" = some (some (.ref NP))) (xNPl : K.lookup NP = some ⟨cNP, ddNP, .cls cdNP, slNP⟩)
    (xNPt : PySem.W.typeIn K (.ref NP) = some (.type "type")) (sNFND : PySem.W.subIn K (.ref NF) (.ref ND) = some false) (eNFND : (NF == ND) = false) (sNDNF : PySem.W.subIn K (.ref ND) (.ref NF) = some false) (eNDNF : (ND == NF) = false) (sNFNP : PySem.W.subIn K (.ref NF) (.ref NP) = some false) (eNFNP : (NF == NP) = false) (sNDNP : PySem.W.subIn K (.ref ND) (.ref NP) = some false) (eNDNP : (ND == NP) = false) {AD : Addr} (yDa : PySem.W.nsIn K mainGlobals "Deed" = some (some (.ref AD))) (yDpg : PySem.W.plainGet K AD Str.empty = true) (yDhd : PySem.W.hasDictIn K AD = true) (yDpo : PySem.W.plainOver K AD = true)
    (yDsa : PySem.W.findIn K (.ref AD) "__setattr__" = some (some (.builtin "object.__setattr__"))) (yDmk : PySem.W.makesIn K AD = true) (yDkc : PySem.W.keepIn K (.ref AD) = true) (yDnf : PySem.W.findIn K (.ref AD) "form" = some none) (yDca : PySem.W.findIn K (.ref AD) "__class__" = some (some (.builtin "object.__class__"))) (yDcm : PySem.W.mroIn K AD (.type "object") = some true) {gDd : Addr} {ocgDd kVgDd dcgDd pmgDd cdgDd ctgDd : Value} {odgDd angDd : Option Addr} {slgDd : Array (Option Value)} (gDda : PySem.W.findIn K (.ref AD) "done" = some (some (.ref gDd))) (gDdi : PySem.W.isFn K (.ref gDd) = true)
    (gDdl : K.lookup gDd = some ⟨ocgDd, odgDd, .func (PySem.W.fnOf "done" "Deed.done" (defArgs s_Deed_done) (defBody s_Deed_done) (defScope s_Deed_done) .none kVgDd dcgDd pmgDd angDd cdgDd ctgDd), slgDd⟩) (gDdc : PySem.W.codeIn K cdgDd "Deed.done" = true) (gDdk : PySem.W.keepIn K (.ref gDd) = true) {gDb : Addr} {ocgDb kVgDb dcgDb pmgDb cdgDb ctgDb : Value} {odgDb angDb : Option Addr} {slgDb : Array (Option Value)} (gDba : PySem.W.findIn K (.ref AD) "back" = some (some (.ref gDb))) (gDbi : PySem.W.isFn K (.ref gDb) = true) (gDbl : K.lookup gDb = some ⟨ocgDb, odgDb, .func (PySem.W.fnOf "back" "Deed.back" (defArgs s_Deed_back) (defBody s_Deed_back) (defScope s_Deed_back) .none kVgDb dcgDb pmgDb angDb cdgDb ctgDb), slgDb⟩)
    (gDbc : PySem.W.codeIn K cdgDb "Deed.back" = true) (gDbk : PySem.W.keepIn K (.ref gDb) = true) (yDoi : PySem.W.findIn K (.ref AD) "__init__" = some (some (.builtin "object.__init__"))) {AF : Addr} (yFa : PySem.W.nsIn K mainGlobals "Fill" = some (some (.ref AF))) (yFpg : PySem.W.plainGet K AF Str.empty = true) (yFhd : PySem.W.hasDictIn K AF = true) (yFpo : PySem.W.plainOver K AF = true) (yFsa : PySem.W.findIn K (.ref AF) "__setattr__" = some (some (.builtin "object.__setattr__"))) (yFmk : PySem.W.makesIn K AF = true) (yFkc : PySem.W.keepIn K (.ref AF) = true) (yFnf : PySem.W.findIn K (.ref AF) "form" = some none)
    (yFca : PySem.W.findIn K (.ref AF) "__class__" = some (some (.builtin "object.__class__"))) (yFcm : PySem.W.mroIn K AF (.type "object") = some true) {gFd : Addr} {ocgFd kVgFd dcgFd pmgFd cdgFd ctgFd : Value} {odgFd angFd : Option Addr} {slgFd : Array (Option Value)} (gFda : PySem.W.findIn K (.ref AF) "done" = some (some (.ref gFd))) (gFdi : PySem.W.isFn K (.ref gFd) = true) (gFdl : K.lookup gFd = some ⟨ocgFd, odgFd, .func (PySem.W.fnOf "done" "Fill.done" (defArgs s_Fill_done) (defBody s_Fill_done) (defScope s_Fill_done) .none kVgFd dcgFd pmgFd angFd cdgFd ctgFd), slgFd⟩) (gFdc : PySem.W.codeIn K cdgFd "Fill.done" = true)
    (gFdk : PySem.W.keepIn K (.ref gFd) = true) {gFb : Addr} {ocgFb kVgFb dcgFb pmgFb cdgFb ctgFb : Value} {odgFb angFb : Option Addr} {slgFb : Array (Option Value)} (gFba : PySem.W.findIn K (.ref AF) "back" = some (some (.ref gFb))) (gFbi : PySem.W.isFn K (.ref gFb) = true) (gFbl : K.lookup gFb = some ⟨ocgFb, odgFb, .func (PySem.W.fnOf "back" "Fill.back" (defArgs s_Fill_back) (defBody s_Fill_back) (defScope s_Fill_back) .none kVgFb dcgFb pmgFb angFb cdgFb ctgFb), slgFb⟩) (gFbc : PySem.W.codeIn K cdgFb "Fill.back" = true) (gFbk : PySem.W.keepIn K (.ref gFb) = true) {gFi : Addr} {ocgFi kVgFi dcgFi pmgFi cdgFi ctgFi : Value}
    {odgFi angFi : Option Addr} {slgFi : Array (Option Value)} (gFia : PySem.W.findIn K (.ref AF) "__init__" = some (some (.ref gFi))) (gFii : PySem.W.isFn K (.ref gFi) = true) (gFil : K.lookup gFi = some ⟨ocgFi, odgFi, .func (PySem.W.fnOf "__init__" "Fill.__init__" (defArgs s_Fill_init) (defBody s_Fill_init) (defScope s_Fill_init) .none kVgFi dcgFi pmgFi angFi cdgFi ctgFi), slgFi⟩) (gFic : PySem.W.codeIn K cdgFi "Fill.__init__" = true) (gFik : PySem.W.keepIn K (.ref gFi) = true) {AC : Addr} (yCa : PySem.W.nsIn K mainGlobals "Cut" = some (some (.ref AC))) (yCpg : PySem.W.plainGet K AC Str.empty = true)
    (yChd : PySem.W.hasDictIn K AC = true) (yCpo : PySem.W.plainOver K AC = true) (yCsa : PySem.W.findIn K (.ref AC) "__setattr__" = some (some (.builtin "object.__setattr__"))) (yCmk : PySem.W.makesIn K AC = true) (yCkc : PySem.W.keepIn K (.ref AC) = true) (yCnf : PySem.W.findIn K (.ref AC) "form" = some none) (yCca : PySem.W.findIn K (.ref AC) "__class__" = some (some (.builtin "object.__class__"))) (yCcm : PySem.W.mroIn K AC (.type "object") = some true) {gCd : Addr} {ocgCd kVgCd dcgCd pmgCd cdgCd ctgCd : Value} {odgCd angCd : Option Addr} {slgCd : Array (Option Value)} (gCda : PySem.W.findIn K (.ref AC) "done" = some (some (.ref gCd)))
    (gCdi : PySem.W.isFn K (.ref gCd) = true) (gCdl : K.lookup gCd = some ⟨ocgCd, odgCd, .func (PySem.W.fnOf "done" "Cut.done" (defArgs s_Cut_done) (defBody s_Cut_done) (defScope s_Cut_done) .none kVgCd dcgCd pmgCd angCd cdgCd ctgCd), slgCd⟩) (gCdc : PySem.W.codeIn K cdgCd "Cut.done" = true) (gCdk : PySem.W.keepIn K (.ref gCd) = true) {gCb : Addr} {ocgCb kVgCb dcgCb pmgCb cdgCb ctgCb : Value} {odgCb angCb : Option Addr} {slgCb : Array (Option Value)} (gCba : PySem.W.findIn K (.ref AC) "back" = some (some (.ref gCb))) (gCbi : PySem.W.isFn K (.ref gCb) = true) (gCbl : K.lookup gCb = some ⟨ocgCb, odgCb, .func (PySem.W.fnOf "back" "Cut.back" (defArgs s_Cut_back) (defBody s_Cut_back) (defScope s_Cut_back) .none kVgCb dcgCb pmgCb angCb cdgCb ctgCb), slgCb⟩)
    (gCbc : PySem.W.codeIn K cdgCb "Cut.back" = true) (gCbk : PySem.W.keepIn K (.ref gCb) = true) (yCoi : PySem.W.findIn K (.ref AC) "__init__" = some (some (.builtin "object.__init__"))) {AG : Addr} (yGa : PySem.W.nsIn K mainGlobals "Change" = some (some (.ref AG))) (yGpg : PySem.W.plainGet K AG Str.empty = true) (yGhd : PySem.W.hasDictIn K AG = true) (yGpo : PySem.W.plainOver K AG = true) (yGsa : PySem.W.findIn K (.ref AG) "__setattr__" = some (some (.builtin "object.__setattr__"))) (yGmk : PySem.W.makesIn K AG = true) (yGkc : PySem.W.keepIn K (.ref AG) = true) (yGnf : PySem.W.findIn K (.ref AG) "form" = some none)
    (yGca : PySem.W.findIn K (.ref AG) "__class__" = some (some (.builtin "object.__class__"))) (yGcm : PySem.W.mroIn K AG (.type "object") = some true) {gGd : Addr} {ocgGd kVgGd dcgGd pmgGd cdgGd ctgGd : Value} {odgGd angGd : Option Addr} {slgGd : Array (Option Value)} (gGda : PySem.W.findIn K (.ref AG) "done" = some (some (.ref gGd))) (gGdi : PySem.W.isFn K (.ref gGd) = true) (gGdl : K.lookup gGd = some ⟨ocgGd, odgGd, .func (PySem.W.fnOf "done" "Change.done" (defArgs s_Change_done) (defBody s_Change_done) (defScope s_Change_done) .none kVgGd dcgGd pmgGd angGd cdgGd ctgGd), slgGd⟩) (gGdc : PySem.W.codeIn K cdgGd "Change.done" = true)
    (gGdk : PySem.W.keepIn K (.ref gGd) = true) {gGb : Addr} {ocgGb kVgGb dcgGb pmgGb cdgGb ctgGb : Value} {odgGb angGb : Option Addr} {slgGb : Array (Option Value)} (gGba : PySem.W.findIn K (.ref AG) "back" = some (some (.ref gGb))) (gGbi : PySem.W.isFn K (.ref gGb) = true) (gGbl : K.lookup gGb = some ⟨ocgGb, odgGb, .func (PySem.W.fnOf "back" "Change.back" (defArgs s_Change_back) (defBody s_Change_back) (defScope s_Change_back) .none kVgGb dcgGb pmgGb angGb cdgGb ctgGb), slgGb⟩) (gGbc : PySem.W.codeIn K cdgGb "Change.back" = true) (gGbk : PySem.W.keepIn K (.ref gGb) = true) {gGi : Addr} {ocgGi kVgGi dcgGi pmgGi cdgGi ctgGi : Value}
    {odgGi angGi : Option Addr} {slgGi : Array (Option Value)} (gGia : PySem.W.findIn K (.ref AG) "__init__" = some (some (.ref gGi))) (gGii : PySem.W.isFn K (.ref gGi) = true) (gGil : K.lookup gGi = some ⟨ocgGi, odgGi, .func (PySem.W.fnOf "__init__" "Change.__init__" (defArgs s_Change_init) (defBody s_Change_init) (defScope s_Change_init) .none kVgGi dcgGi pmgGi angGi cdgGi ctgGi), slgGi⟩) (gGic : PySem.W.codeIn K cdgGi "Change.__init__" = true) (gGik : PySem.W.keepIn K (.ref gGi) = true) {cAD : Value} {ddAD : Option Addr} {cdAD : ClassData} {slAD : Array (Option Value)} (yDl : K.lookup AD = some ⟨cAD, ddAD, .cls cdAD, slAD⟩)
    (yDt : PySem.W.typeIn K (.ref AD) = some (.type "type")) (yFs : PySem.W.subIn K (.ref AF) (.ref AD) = some true) (yCs : PySem.W.subIn K (.ref AC) (.ref AD) = some true) (yGs : PySem.W.subIn K (.ref AG) (.ref AD) = some true) (nDF : (AD == AF) = false) (nDC : (AD == AC) = false) (nDG : (AD == AG) = false) (nFC : (AF == AC) = false) (nFG : (AF == AG) = false) (nCG : (AC == AG) = false) {ga ge : Addr} {go ho : Option Addr} {gi hi : Array Value} {gn hn : Nat} {gs hs : Array (Option Value)} {gt : Tok} (w90 : PySem.W.nsIn K mainGlobals "GAP" = some (some (.ref ga))) (w91 : K.lookup ga = some ⟨.type "tuple", go, .seq gi gn, gs⟩)
    (w92 : gi.toList = [.str "gap" gt, .none, .ref ge]) (w93 : K.lookup ge = some ⟨.type "tuple", ho, .seq hi hn, hs⟩) (w94 : absAll hi.toList = some []) :
    ∃ fd : FuncData, (∀ (s : Shared) (v : Value), BindsTo s fd ⟨[v], []⟩ [("_law_script", v)]) ∧ ∀ base : Heap, K.In base → base.Ns mainGlobals mg → FnOk l.prog w K mg base CX0 13 fa fd ["_law_script"] (spLaw K) := by
  have e := hfa.symm.trans (PySem.W.mg_of X G a31)
  cases e
  have T : Txt K mg := { isinstance := PySem.W.mg_none_of X G z1, int := PySem.W.mg_none_of X G z2, bool := PySem.W.mg_none_of X G z3, str := PySem.W.mg_none_of X G z4, len := PySem.W.mg_none_of X G z5, all := PySem.W.mg_none_of X G z6, tuple := PySem.W.mg_none_of X G z7, range := PySem.W.mg_none_of X G z8, enumerate := PySem.W.mg_none_of X G z9, reversed := PySem.W.mg_none_of X G z10, ValueError := PySem.W.mg_none_of X G z11, list := PySem.W.mg_none_of X G z12 }
  have GS : Gs l.prog w K mg := { gp := ⟨_, _, ⟨_, PySem.W.mg_of X G w90, rfl⟩, gap_top w91 w92, top_tuple w93 w94 (by decide)⟩, ns := ⟨_, PySem.W.mg_of X G z100, ⟨_, rfl⟩⟩, fg := ⟨_, PySem.W.mg_of X G z101, ⟨_, rfl⟩⟩, w9 := ⟨_, ⟨_, PySem.W.mg_of X G z102, rfl⟩, top_tuple y102 x102 (by decide)⟩, w10 := ⟨_, ⟨_, PySem.W.mg_of X G z103, rfl⟩, top_tuple y103 x103 (by decide)⟩, pw := ⟨_, ⟨_, PySem.W.mg_of X G z104, rfl⟩, dk_mk y104 x104 e104 (by decide +kernel)⟩ }
  have F1 := fun_mk (st := s_is_whole) l1 c1 k1
  have b1 := F1.binds (ps := ["thing"]) fun _ _ _ _ _ _ => all1 fun _ => rfl
  have F2 := fun_mk (st := s_is_name) l2 c2 k2
  have b2 := F2.binds (ps := ["thing"]) fun _ _ _ _ _ _ => all1 fun _ => rfl
  have F3 := fun_mk (st := s_is_figures) l3 c3 k3
  have b3 := F3.binds (ps := ["text"]) fun _ _ _ _ _ _ => all1 fun _ => rfl
  have F4 := fun_mk (st := s_is_odd_sign) l4 c4 k4
  have b4 := F4.binds (ps := ["sign"]) fun _ _ _ _ _ _ => all1 fun _ => rfl
  have F5 := fun_mk (st := s_is_odd) l5 c5 k5
  have b5 := F5.binds (ps := ["thing"]) fun _ _ _ _ _ _ => all1 fun _ => rfl
  have F6 := fun_mk (st := s_is_word) l6 c6 k6
  have b6 := F6.binds (ps := ["thing"]) fun _ _ _ _ _ _ => all1 fun _ => rfl
  have F7 := fun_mk (st := s_is_two_names) l7 c7 k7
  have b7 := F7.binds (ps := ["thing"]) fun _ _ _ _ _ _ => all1 fun _ => rfl
  have F8 := fun_mk (st := s_is_note) l8 c8 k8
  have b8 := F8.binds (ps := ["word", "note"]) fun _ _ _ _ _ _ => all2 fun _ _ => rfl
  have F9 := fun_mk (st := s_is_top_of_form) l9 c9 k9
  have b9 := F9.binds (ps := ["thing"]) fun _ _ _ _ _ _ => all1 fun _ => rfl
  have F10 := fun_mk (st := s_is_form) l10 c10 k10
  have b10 := F10.binds (ps := ["thing"]) fun _ _ _ _ _ _ => all1 fun _ => rfl
  have F11 := fun_mk (st := s_refuse_no_form) l11 c11 k11
  have b11 := F11.binds (ps := ["thing"]) fun _ _ _ _ _ _ => all1 fun _ => rfl
  have F12 := fun_mk (st := s_refuse_no_gap) l12 c12 k12
  have b12 := F12.binds (ps := ["form"]) fun _ _ _ _ _ _ => all1 fun _ => rfl
  have F13 := fun_mk (st := s_law_cell) l13 c13 k13
  have b13 := F13.binds (ps := ["_law_script", "_law_k"]) fun _ _ _ _ _ _ => all2 fun _ _ => rfl
  have F14 := fun_mk (st := s_law_names) l14 c14 k14
  have b14 := F14.binds (ps := ["_law_one", "_law_other"]) fun _ _ _ _ _ _ => all2 fun _ _ => rfl
  have F15 := fun_mk (st := s_law_odd) l15 c15 k15
  have b15 := F15.binds (ps := ["_law_cell_here"]) fun _ _ _ _ _ _ => all1 fun _ => rfl
  have F16 := fun_mk (st := s_law_number) l16 c16 k16
  have b16 := F16.binds (ps := ["_law_cell_here"]) fun _ _ _ _ _ _ => all1 fun _ => rfl
  have F17 := fun_mk (st := s_law_head) l17 c17 k17
  have b17 := F17.binds (ps := ["_law_cell_here", "_law_names_here"]) fun _ _ _ _ _ _ => all2 fun _ _ => rfl
  have F18 := fun_mk (st := s_law_many) l18 c18 k18
  have b18 := F18.binds (ps := ["_law_word"]) fun _ _ _ _ _ _ => all1 fun _ => rfl
  have F19 := fun_mk (st := s_law_tree) l19 c19 k19
  have b19 := F19.binds (ps := ["_law_cells", "_law_names_here"]) fun _ _ _ _ _ _ => all2 fun _ _ => rfl
  have F20 := fun_mk (st := s_law_walk) l20 c20 k20
  have b20 := F20.binds (ps := ["_law_tree_here"]) fun _ _ _ _ _ _ => all1 fun _ => rfl
  have F21 := fun_mk (st := s_law_form) l21 c21 k21
  have b21 := F21.binds (ps := ["_law_tree_here", "_law_place"]) fun _ _ _ _ _ _ => all2 fun _ _ => rfl
  have F22 := fun_mk (st := s_law_with) l22 c22 k22
  have b22 := F22.binds (ps := ["_law_tree_here", "_law_place", "_law_form_here"]) fun _ _ _ _ _ _ => all3 fun _ _ _ => rfl
  have F23 := fun_mk (st := s_law_class) l23 c23 k23
  have b23 := F23.binds (ps := ["_law_e"]) fun _ _ _ _ _ _ => all1 fun _ => rfl
  have F24 := fun_mk (st := s_law_made) l24 c24 k24
  have b24 := F24.binds (ps := ["_law_form_here", "_law_fill"]) fun _ _ _ _ _ _ => all2 fun _ _ => rfl
  have F25 := fun_mk (st := s_law_done) l25 c25 k25
  have b25 := F25.binds (ps := ["_law_deed", "_law_form_here"]) fun _ _ _ _ _ _ => all2 fun _ _ => rfl
  have F26 := fun_mk (st := s_law_back) l26 c26 k26
  have b26 := F26.binds (ps := ["_law_deed", "_law_form_here"]) fun _ _ _ _ _ _ => all2 fun _ _ => rfl
  have F27 := fun_mk (st := s_law_no_form) l27 c27 k27
  have b27 := F27.binds (ps := ["_law_tree_here", "_law_cell_here"]) fun _ _ _ _ _ _ => all2 fun _ _ => rfl
  have F28 := fun_mk (st := s_law_fits) l28 c28 k28
  have b28 := F28.binds (ps := ["_law_deed", "_law_form_here", "_law_due"]) fun _ _ _ _ _ _ => all3 fun _ _ _ => rfl
  have F29 := fun_mk (st := s_law_no_deed) l29 c29 k29
  have b29 := F29.binds (ps := ["_law_deed", "_law_form_here"]) fun _ _ _ _ _ _ => all2 fun _ _ => rfl
  have F30 := fun_mk (st := s_law_good) l30 c30 k30
  have b30 := F30.binds (ps := ["_law_tree_here", "_law_other", "_law_cell_here"]) fun _ _ _ _ _ _ => all3 fun _ _ _ => rfl
  have F31 := fun_mk (st := s_law) l31 c31 k31
  have b31 := F31.binds (ps := ["_law_script"]) fun _ _ _ _ _ _ => all1 fun _ => rfl
  refine ⟨PySem.W.fnOf "law" "law" (defArgs s_law) (defBody s_law) (defScope s_law) .none kV31 dc31 pm31 an31 cd31 ct31, fun s v => .of_eq rfl, fun base _ _ => ?_⟩
  have xGo : PySem.W.nsOkIn K cdGE.ns = true := by unfold PySem.W.nsOkIn; rw [xGn]; show (esN.all fun e => match e.key with | .str _ _ => true | _ => false) = true; rw [← Array.all_toList]; exact xGk
  obtain ⟨tG, iG⟩ := tail_GE xGl xGo xGi
  have gG := PySem.W.mg_of X G xGa
  have XG : ExcC K GE := ⟨xGt, iG, xGb⟩
  have xNFo : PySem.W.nsOkIn K cdNF.ns = true := by unfold PySem.W.nsOkIn; rw [xNFn]; show (esMNF.all fun e => match e.key with | .str _ _ => true | _ => false) = true; rw [← Array.all_toList]; exact xNFk
  have rNF := excIn_mk xNFl xNFm xNFs xNFd tG xNFo xNFi
  have gNF := PySem.W.mg_of X G xNFa
  have nNF : ExN K NF := { toExC := ⟨(excI_mk xNFl xNFm xNFs xNFd tG).2, xNFh, xNFg, xNFga, xNFsa, xNFt⟩, ca := xNFca, cg := xcg, ct := xct }
  have xNDo : PySem.W.nsOkIn K cdND.ns = true := by unfold PySem.W.nsOkIn; rw [xNDn]; show (esMND.all fun e => match e.key with | .str _ _ => true | _ => false) = true; rw [← Array.all_toList]; exact xNDk
  have rND := excIn_mk xNDl xNDm xNDs xNDd tG xNDo xNDi
  have gND := PySem.W.mg_of X G xNDa
  have nND : ExN K ND := { toExC := ⟨(excI_mk xNDl xNDm xNDs xNDd tG).2, xNDh, xNDg, xNDga, xNDsa, xNDt⟩, ca := xNDca, cg := xcg, ct := xct }
  have KD : KdC K mg NF ND NP := { nF := nNF, nD := nND, gF := gNF, gD := gND, gP := PySem.W.mg_of X G xNPa, vF := kit_ty xNFv, vD := kit_ty xNDv, fD := kit_ref xNDl xNDt sNFND fun _ => eNFND, dF := kit_ref xNFl xNFt sNDNF fun _ => eNDNF, fP := kit_ref xNPl xNPt sNFNP fun _ => eNFNP, dP := kit_ref xNPl xNPt sNDNP fun _ => eNDNP }
  have sFG := xNFsub
  have sDG := xNDsub
  have clD : Cls K AD := ⟨yDpg, yDhd, yDpo, yDsa⟩
  have oD : Own K mg "Deed" AD := { cl := clD, at_ := PySem.W.mg_of X G yDa, nf := yDnf, ca := yDca, cg := xcg, ct := xct, cm := yDcm }
  have FgDd := fun_mk (st := s_Deed_done) gDdl gDdc gDdk
  have bgDd := FgDd.binds (ps := ["self", "form"]) fun _ _ _ _ _ _ => all2 fun _ _ => rfl
  have FgDb := fun_mk (st := s_Deed_back) gDbl gDbc gDbk
  have bgDb := FgDb.binds (ps := ["self", "form"]) fun _ _ _ _ _ _ => all2 fun _ _ => rfl
  have clF : Cls K AF := ⟨yFpg, yFhd, yFpo, yFsa⟩
  have oF : Own K mg "Fill" AF := { cl := clF, at_ := PySem.W.mg_of X G yFa, nf := yFnf, ca := yFca, cg := xcg, ct := xct, cm := yFcm }
  have FgFd := fun_mk (st := s_Fill_done) gFdl gFdc gFdk
  have bgFd := FgFd.binds (ps := ["self", "form"]) fun _ _ _ _ _ _ => all2 fun _ _ => rfl
  have FgFb := fun_mk (st := s_Fill_back) gFbl gFbc gFbk
  have bgFb := FgFb.binds (ps := ["self", "form"]) fun _ _ _ _ _ _ => all2 fun _ _ => rfl
  have FgFi := fun_mk (st := s_Fill_init) gFil gFic gFik
  have bgFi := FgFi.binds (ps := ["self", "form"]) fun _ _ _ _ _ _ => all2 fun _ _ => rfl
  have clC : Cls K AC := ⟨yCpg, yChd, yCpo, yCsa⟩
  have oC : Own K mg "Cut" AC := { cl := clC, at_ := PySem.W.mg_of X G yCa, nf := yCnf, ca := yCca, cg := xcg, ct := xct, cm := yCcm }
  have FgCd := fun_mk (st := s_Cut_done) gCdl gCdc gCdk
  have bgCd := FgCd.binds (ps := ["self", "form"]) fun _ _ _ _ _ _ => all2 fun _ _ => rfl
  have FgCb := fun_mk (st := s_Cut_back) gCbl gCbc gCbk
  have bgCb := FgCb.binds (ps := ["self", "form"]) fun _ _ _ _ _ _ => all2 fun _ _ => rfl
  have clG : Cls K AG := ⟨yGpg, yGhd, yGpo, yGsa⟩
  have oG : Own K mg "Change" AG := { cl := clG, at_ := PySem.W.mg_of X G yGa, nf := yGnf, ca := yGca, cg := xcg, ct := xct, cm := yGcm }
  have FgGd := fun_mk (st := s_Change_done) gGdl gGdc gGdk
  have bgGd := FgGd.binds (ps := ["self", "form"]) fun _ _ _ _ _ _ => all2 fun _ _ => rfl
  have FgGb := fun_mk (st := s_Change_back) gGbl gGbc gGbk
  have bgGb := FgGb.binds (ps := ["self", "form"]) fun _ _ _ _ _ _ => all2 fun _ _ => rfl
  have FgGi := fun_mk (st := s_Change_init) gGil gGic gGik
  have bgGi := FgGi.binds (ps := ["self", "form"]) fun _ _ _ _ _ _ => all2 fun _ _ => rfl
  obtain ⟨c, ec⟩ : ∃ c : Cs, c = ⟨AD, AF, AC, AG⟩ := ⟨_, rfl⟩
  have ecd : c.d = AD := by rw [ec]
  have ecf : c.f = AF := by rw [ec]
  have ecc : c.c = AC := by rw [ec]
  have ecg : c.g = AG := by rw [ec]
  have Ap : c.Apart := { df := by rw [ecd, ecf]; intro z; subst z; simp at nDF, dc := by rw [ecd, ecc]; intro z; subst z; simp at nDC, dg := by rw [ecd, ecg]; intro z; subst z; simp at nDG, fc := by rw [ecf, ecc]; intro z; subst z; simp at nFC, fg := by rw [ecf, ecg]; intro z; subst z; simp at nFG, cg := by rw [ecc, ecg]; intro z; subst z; simp at nCG }
  have KL : Kl K mg c := { od := by rw [ecd]; exact oD, of := by rw [ecf]; exact oF, oc := by rw [ecc]; exact oC, og := by rw [ecg]; exact oG, fd := by rw [ecf, ecd]; exact kit_ref yDl yDt yFs (fun h => nomatch h), cd := by rw [ecc, ecd]; exact kit_ref yDl yDt yCs (fun h => nomatch h), gd := by rw [ecg, ecd]; exact kit_ref yDl yDt yGs (fun h => nomatch h) }
  have G_GAP : Glob mg "GAP" (.ref ga) := ⟨_, PySem.W.mg_of X G w90, rfl⟩
  have GA : GapAt K ga := ⟨fun H => TrAt.gap (gap_top w91 w92 H) (top_tuple w93 w94 (by decide) H)⟩
  have Mk0D : Make0 K mg "Deed" c.d := by rw [ecd]; exact ⟨yDmk, yDoi, yDkc, oD.at_⟩
  have Mk0C : Make0 K mg "Cut" c.c := by rw [ecc]; exact ⟨yCmk, yCoi, yCkc, oC.at_⟩
  have C_is_whole := callee_of (P := l.prog) (w := w) (base := base) (ok_whole F1 T) (PySem.W.mg_of X G a1) k1 b1
  have C_is_name := callee_of (P := l.prog) (w := w) (base := base) (ok_name F2 T GS) (PySem.W.mg_of X G a2) k2 b2
  have C_is_figures := callee_of (P := l.prog) (w := w) (base := base) (ok_fig F3 T GS) (PySem.W.mg_of X G a3) k3 b3
  have C_is_odd_sign := callee_of (P := l.prog) (w := w) (base := base) (ok_osign F4 T) (PySem.W.mg_of X G a4) k4 b4
  have C_is_odd := callee_of (P := l.prog) (w := w) (base := base) (ok_odd F5 T GS C_is_odd_sign C_is_name C_is_figures) (PySem.W.mg_of X G a5) k5 b5
  have C_is_word := callee_of (P := l.prog) (w := w) (base := base) (ok_word F6 T GS) (PySem.W.mg_of X G a6) k6 b6
  have C_is_two_names := callee_of (P := l.prog) (w := w) (base := base) (ok_two F7 T C_is_name) (PySem.W.mg_of X G a7) k7 b7
  have C_is_note := callee_of (P := l.prog) (w := w) (base := base) (ok_note F8 T C_is_whole C_is_name C_is_odd C_is_two_names) (PySem.W.mg_of X G a8) k8 b8
  have C_is_top_of_form := callee_of (P := l.prog) (w := w) (base := base) (ok_top F9 T GS C_is_word C_is_note) (PySem.W.mg_of X G a9) k9 b9
  have C_is_form := callee_of (P := l.prog) (w := w) (base := base) (ok_form F10 T C_is_top_of_form) (PySem.W.mg_of X G a10) k10 b10
  have C_refuse_no_form := calleex_of (P := l.prog) (w := w) (base := base) (ok_refF F11 T C_is_form rNF gNF) (PySem.W.mg_of X G a11) k11 b11
  have C_refuse_no_gap := calleex_of (P := l.prog) (w := w) (base := base) (ok_refG F12 T rND gND) (PySem.W.mg_of X G a12) k12 b12
  have C__law_cell := callee_of (P := l.prog) (w := w) (base := base) (ok_cell F13 T) (PySem.W.mg_of X G a13) k13 b13
  have C__law_names := callee_of (P := l.prog) (w := w) (base := base) (ok_names F14 T) (PySem.W.mg_of X G a14) k14 b14
  have C__law_odd := callee_of (P := l.prog) (w := w) (base := base) (ok_lodd F15 T) (PySem.W.mg_of X G a15) k15 b15
  have C__law_number := callee_of (P := l.prog) (w := w) (base := base) (ok_num F16 T) (PySem.W.mg_of X G a16) k16 b16
  have C__law_head := callee_of (P := l.prog) (w := w) (base := base) (ok_head F17 T C__law_odd C__law_number) (PySem.W.mg_of X G a17) k17 b17
  have C__law_many := callee_of (P := l.prog) (w := w) (base := base) (ok_many F18 T) (PySem.W.mg_of X G a18) k18 b18
  have C__law_tree := callee_of (P := l.prog) (w := w) (base := base) (ok_tree F19 T C__law_head C__law_many) (PySem.W.mg_of X G a19) k19 b19
  have C__law_walk := callee_of (P := l.prog) (w := w) (base := base) (ok_walk F20 T) (PySem.W.mg_of X G a20) k20 b20
  have C__law_form := callee_of (P := l.prog) (w := w) (base := base) (ok_lform F21 T) (PySem.W.mg_of X G a21) k21 b21
  have C__law_with := callee_of (P := l.prog) (w := w) (base := base) (ok_lwith F22 T C__law_form) (PySem.W.mg_of X G a22) k22 b22
  have MkF : MakeX (CXR l.prog w) l.prog w K mg base 7 "Fill" c.f ["self", "form"] (sp_initF K c NF) := ⟨gFi, _, ok_Finit FgFi T KL.of C_refuse_no_form rNF gNF, by rw [ecf]; exact ⟨yFmk, gFia, gFii, yFkc⟩, KL.of.at_, bgFi⟩
  have MkG : MakeX (CXR l.prog w) l.prog w K mg base 7 "Change" c.g ["self", "form"] (sp_initG K c NF) := ⟨gGi, _, ok_Ginit FgGi T KL.og C_refuse_no_form, by rw [ecg]; exact ⟨yGmk, gGia, gGii, yGkc⟩, KL.og.at_, bgGi⟩
  have MDd : MethX (CXR l.prog w) l.prog w K mg base 2 c.d "done" ["self", "form"] (sp_done K c ga ND c.d) := ⟨gDd, _, ok_Ddone Ap FgDd T, by rw [ecd]; exact clD, by rw [ecd]; exact ⟨gDda, gDdi, gDdk⟩, bgDd⟩
  have MFd : MethX (CXR l.prog w) l.prog w K mg base 2 c.f "done" ["self", "form"] (sp_done K c ga ND c.f) := ⟨gFd, _, ok_Fdone Ap FgFd T KL.of C_refuse_no_gap, by rw [ecf]; exact clF, by rw [ecf]; exact ⟨gFda, gFdi, gFdk⟩, bgFd⟩
  have MCd : MethX (CXR l.prog w) l.prog w K mg base 2 c.c "done" ["self", "form"] (sp_done K c ga ND c.c) := ⟨gCd, _, ok_Cdone Ap FgCd T G_GAP rND gND, by rw [ecc]; exact clC, by rw [ecc]; exact ⟨gCda, gCdi, gCdk⟩, bgCd⟩
  have MGd : MethX (CXR l.prog w) l.prog w K mg base 2 c.g "done" ["self", "form"] (sp_done K c ga ND c.g) := ⟨gGd, _, ok_Gdone Ap FgGd T KL.og, by rw [ecg]; exact clG, by rw [ecg]; exact ⟨gGda, gGdi, gGdk⟩, bgGd⟩
  have MDb : MethX (CXR l.prog w) l.prog w K mg base 9 c.d "back" ["self", "form"] (sp_back K c ga ND c.d) := ⟨gDb, _, ok_Dback Ap FgDb T Mk0D, by rw [ecd]; exact clD, by rw [ecd]; exact ⟨gDba, gDbi, gDbk⟩, bgDb⟩
  have MFb : MethX (CXR l.prog w) l.prog w K mg base 9 c.f "back" ["self", "form"] (sp_back K c ga ND c.f) := ⟨gFb, _, ok_Fback Ap FgFb T MFd Mk0C, by rw [ecf]; exact clF, by rw [ecf]; exact ⟨gFba, gFbi, gFbk⟩, bgFb⟩
  have MCb : MethX (CXR l.prog w) l.prog w K mg base 9 c.c "back" ["self", "form"] (sp_back K c ga ND c.c) := ⟨gCb, _, ok_Cback Ap FgCb T MCd MkF, by rw [ecc]; exact clC, by rw [ecc]; exact ⟨gCba, gCbi, gCbk⟩, bgCb⟩
  have MGb : MethX (CXR l.prog w) l.prog w K mg base 9 c.g "back" ["self", "form"] (sp_back K c ga ND c.g) := ⟨gGb, _, ok_Gback Ap FgGb T MkG, by rw [ecg]; exact clG, by rw [ecg]; exact ⟨gGba, gGbi, gGbk⟩, bgGb⟩
  have Mdone : ∀ d : Dd, MethX (CXR l.prog w) l.prog w K mg base 2 (d.cls c) "done" ["self", "form"] (sp_done K c ga ND (d.cls c)) := fun d => match d with | .no => MDd | .fill _ => MFd | .cut => MCd | .chg _ => MGd
  have Mback : ∀ d : Dd, MethX (CXR l.prog w) l.prog w K mg base 9 (d.cls c) "back" ["self", "form"] (sp_back K c ga ND (d.cls c)) := fun d => match d with | .no => MDb | .fill _ => MFb | .cut => MCb | .chg _ => MGb
  have C__law_class := calleen_of (P := l.prog) (w := w) (base := base) (ok_class F23 T KD) (PySem.W.mg_of X G a23) k23 b23
  have C__law_made := callee_of (P := l.prog) (w := w) (base := base) (ok_made (c := c) F24 T MkF MkG C__law_class XG gG sFG) (PySem.W.mg_of X G a24) k24 b24
  have C__law_done := callee_of (P := l.prog) (w := w) (base := base) (ok_ldone (c := c) F25 T Mdone C__law_class XG gG sDG) (PySem.W.mg_of X G a25) k25 b25
  have C__law_back := callee_of (P := l.prog) (w := w) (base := base) (ok_lback (c := c) F26 T Mback C__law_class XG gG sDG) (PySem.W.mg_of X G a26) k26 b26
  have C__law_no_form := callee_of (P := l.prog) (w := w) (base := base) (ok_noform F27 T C__law_walk C__law_with) (PySem.W.mg_of X G a27) k27 b27
  have C__law_fits := callee_of (P := l.prog) (w := w) (base := base) (ok_fits F28 T KL C__law_done C__law_back) (PySem.W.mg_of X G a28) k28 b28
  have C__law_no_deed := callee_of (P := l.prog) (w := w) (base := base) (ok_nodeed F29 T C__law_done C__law_back) (PySem.W.mg_of X G a29) k29 b29
  have C__law_good := callee_of (P := l.prog) (w := w) (base := base) (ok_good F30 T KL GA Mk0C Mk0D C__law_made C__law_fits C__law_no_deed C__law_done C__law_back C__law_no_form) (PySem.W.mg_of X G a30) k30 b30
  exact ok_law F31 T C__law_names C__law_cell C__law_tree C__law_good C__law_made C__law_fits
theorem walk {l : PySem.W.OpenLaw} {q : Program} {loose : List Str} {XP : (Str → Option Value) → Heap → Prop} {YP : World → Heap → Prop} {d : DefRec} {K : Params → PySem.W.Frag} (hn : l.most = some 63) (hdf : d.params.defaults = [])
    (hY : ∀ (w : World) (h : Heap), YP w h → (K w.params).In h)
    (F : ∀ (w : World) (mg : Str → Option Value) (fa : Addr) (h : Heap), (K w.params).In h → h.Ns mainGlobals mg → mg d.name = some (.ref fa) →
      ∃ fd : FuncData, (∀ (s : Shared) (u : Value), BindsTo s fd ⟨[u], []⟩ [("_law_script", u)]) ∧ ∀ base : Heap, (K w.params).In base → base.Ns mainGlobals mg → FnOk l.prog w (K w.params) mg base CX0 13 fa fd ["_law_script"] (spLaw (K w.params))) :
    PySem.W.WalkO q loose XP YP l.row.toRowW d [] (fun f vs => PySem.call f vs) :=
  L2.walk_of (n := 63) (k := 13) (x := "_law_script") (CX := fun _ => CX0) (sp := fun w => spLaw (K w.params)) hn (by decide) hdf ⟨rfl, by decide, by decide⟩ hY F (fun _ _ a ns hl _ hS => ⟨a, ns, rfl, hS, hl, fun _ => rfl⟩) fun _ _ _ _ _ z => z
end K21
open PySem PySem.W PyProof.Rows
set_option maxRecDepth 100000 in
set_option maxHeartbeats 0 in
theorem PySem.Challenge.cw_gapscribe_k21_fills_cuts_changes_holds : PySem.Challenge.rw_gapscribe_k21_fills_cuts_changes.Holds := by
  w_on; o_law; o_head (PySem.W.kHook K21.KK K21.KA (fun _ => by kernel_rfl)); (case hw => w_witness2)
  k_fill
  refine K21.walk (l := PySem.Challenge.rw_gapscribe_k21_fills_cuts_changes) rfl rfl (fun w h Y => PySem.W.kIn_of Y) ?F
  case F =>
    intro w mg fa h KX G hmg
    refine' K21.all_mk KX G hmg ?a1 ?l1 ?c1 ?k1 ?a2 ?l2 ?c2 ?k2 ?a3 ?l3 ?c3 ?k3 ?a4 ?l4 ?c4 ?k4 ?a5 ?l5 ?c5 ?k5 ?a6 ?l6 ?c6 ?k6 ?a7 ?l7 ?c7 ?k7 ?a8 ?l8 ?c8 ?k8 ?a9 ?l9 ?c9 ?k9 ?a10 ?l10 ?c10 ?k10 ?a11 ?l11 ?c11 ?k11 ?a12 ?l12 ?c12 ?k12 ?a13 ?l13 ?c13 ?k13 ?a14 ?l14 ?c14 ?k14 ?a15 ?l15 ?c15 ?k15 ?a16 ?l16 ?c16 ?k16 ?a17 ?l17 ?c17 ?k17 ?a18 ?l18 ?c18 ?k18 ?a19 ?l19 ?c19 ?k19 ?a20 ?l20 ?c20 ?k20 ?a21 ?l21 ?c21 ?k21 ?a22 ?l22 ?c22 ?k22 ?a23 ?l23 ?c23 ?k23 ?a24 ?l24 ?c24 ?k24 ?a25 ?l25 ?c25 ?k25 ?a26 ?l26 ?c26 ?k26 ?a27 ?l27 ?c27 ?k27 ?a28 ?l28 ?c28 ?k28 ?a29 ?l29 ?c29 ?k29 ?a30 ?l30 ?c30 ?k30 ?a31 ?l31 ?c31 ?k31 ?z1 ?z2 ?z3 ?z4 ?z5 ?z6 ?z7 ?z8 ?z9 ?z10 ?z11 ?z12 ?z100 ?z101 ?z102 ?y102 ?x102 ?z103 ?y103 ?x103 ?z104 ?y104 ?x104 ?e104 ?xGa ?xGl ?xGn ?xGk ?xGi ?xGt ?xGb ?xcg ?xct ?xNFa ?xNFl ?xNFm ?xNFs ?xNFd ?xNFn ?xNFk ?xNFi ?xNFt ?xNFh ?xNFg ?xNFga ?xNFsa ?xNFsub ?xNFca ?xNFv ?xNDa ?xNDl ?xNDm ?xNDs ?xNDd ?xNDn ?xNDk ?xNDi ?xNDt ?xNDh ?xNDg ?xNDga ?xNDsa ?xNDsub ?xNDca ?xNDv ?xNPa ?xNPl ?xNPt ?sNFND ?eNFND ?sNDNF ?eNDNF ?sNFNP ?eNFNP ?sNDNP ?eNDNP ?yDa ?yDpg ?yDhd ?yDpo ?yDsa ?yDmk ?yDkc ?yDnf ?yDca ?yDcm ?gDda ?gDdi ?gDdl ?gDdc ?gDdk ?gDba ?gDbi ?gDbl ?gDbc ?gDbk ?yDoi ?yFa ?yFpg ?yFhd ?yFpo ?yFsa ?yFmk ?yFkc ?yFnf ?yFca ?yFcm ?gFda ?gFdi ?gFdl ?gFdc ?gFdk ?gFba ?gFbi ?gFbl ?gFbc ?gFbk ?gFia ?gFii ?gFil ?gFic ?gFik ?yCa ?yCpg ?yChd ?yCpo ?yCsa ?yCmk ?yCkc ?yCnf ?yCca ?yCcm ?gCda ?gCdi ?gCdl ?gCdc ?gCdk ?gCba ?gCbi ?gCbl ?gCbc ?gCbk ?yCoi ?yGa ?yGpg ?yGhd ?yGpo ?yGsa ?yGmk ?yGkc ?yGnf ?yGca ?yGcm ?gGda ?gGdi ?gGdl ?gGdc ?gGdk ?gGba ?gGbi ?gGbl ?gGbc ?gGbk ?gGia ?gGii ?gGil ?gGic ?gGik ?yDl ?yDt ?yFs ?yCs ?yGs ?nDF ?nDC ?nDG ?nFC ?nFG ?nCG ?w90 ?w91 ?w92 ?w93 ?w94
    (case a1 => k_is)
    (case l1 => k_is)
    (case c1 => k_is)
    (case k1 => k_is)
    (case a2 => k_is)
    (case l2 => k_is)
    (case c2 => k_is)
    (case k2 => k_is)
    (case a3 => k_is)
    (case l3 => k_is)
    (case c3 => k_is)
    (case k3 => k_is)
    (case a4 => k_is)
    (case l4 => k_is)
    (case c4 => k_is)
    (case k4 => k_is)
    (case a5 => k_is)
    (case l5 => k_is)
    (case c5 => k_is)
    (case k5 => k_is)
    (case a6 => k_is)
    (case l6 => k_is)
    (case c6 => k_is)
    (case k6 => k_is)
    (case a7 => k_is)
    (case l7 => k_is)
    (case c7 => k_is)
    (case k7 => k_is)
    (case a8 => k_is)
    (case l8 => k_is)
    (case c8 => k_is)
    (case k8 => k_is)
    (case a9 => k_is)
    (case l9 => k_is)
    (case c9 => k_is)
    (case k9 => k_is)
    (case a10 => k_is)
    (case l10 => k_is)
    (case c10 => k_is)
    (case k10 => k_is)
    (case a11 => k_is)
    (case l11 => k_is)
    (case c11 => k_is)
    (case k11 => k_is)
    (case a12 => k_is)
    (case l12 => k_is)
    (case c12 => k_is)
    (case k12 => k_is)
    (case a13 => k_is)
    (case l13 => k_is)
    (case c13 => k_is)
    (case k13 => k_is)
    (case a14 => k_is)
    (case l14 => k_is)
    (case c14 => k_is)
    (case k14 => k_is)
    (case a15 => k_is)
    (case l15 => k_is)
    (case c15 => k_is)
    (case k15 => k_is)
    (case a16 => k_is)
    (case l16 => k_is)
    (case c16 => k_is)
    (case k16 => k_is)
    (case a17 => k_is)
    (case l17 => k_is)
    (case c17 => k_is)
    (case k17 => k_is)
    (case a18 => k_is)
    (case l18 => k_is)
    (case c18 => k_is)
    (case k18 => k_is)
    (case a19 => k_is)
    (case l19 => k_is)
    (case c19 => k_is)
    (case k19 => k_is)
    (case a20 => k_is)
    (case l20 => k_is)
    (case c20 => k_is)
    (case k20 => k_is)
    (case a21 => k_is)
    (case l21 => k_is)
    (case c21 => k_is)
    (case k21 => k_is)
    (case a22 => k_is)
    (case l22 => k_is)
    (case c22 => k_is)
    (case k22 => k_is)
    (case a23 => k_is)
    (case l23 => k_is)
    (case c23 => k_is)
    (case k23 => k_is)
    (case a24 => k_is)
    (case l24 => k_is)
    (case c24 => k_is)
    (case k24 => k_is)
    (case a25 => k_is)
    (case l25 => k_is)
    (case c25 => k_is)
    (case k25 => k_is)
    (case a26 => k_is)
    (case l26 => k_is)
    (case c26 => k_is)
    (case k26 => k_is)
    (case a27 => k_is)
    (case l27 => k_is)
    (case c27 => k_is)
    (case k27 => k_is)
    (case a28 => k_is)
    (case l28 => k_is)
    (case c28 => k_is)
    (case k28 => k_is)
    (case a29 => k_is)
    (case l29 => k_is)
    (case c29 => k_is)
    (case k29 => k_is)
    (case a30 => k_is)
    (case l30 => k_is)
    (case c30 => k_is)
    (case k30 => k_is)
    (case a31 => k_is)
    (case l31 => k_is)
    (case c31 => k_is)
    (case k31 => k_is)
    (case z1 => k_is)
    (case z2 => k_is)
    (case z3 => k_is)
    (case z4 => k_is)
    (case z5 => k_is)
    (case z6 => k_is)
    (case z7 => k_is)
    (case z8 => k_is)
    (case z9 => k_is)
    (case z10 => k_is)
    (case z11 => k_is)
    (case z12 => k_is)
    (case z100 => k_is)
    (case z101 => k_is)
    (case z102 => k_is)
    (case y102 => k_is)
    (case x102 => rfl)
    (case z103 => k_is)
    (case y103 => k_is)
    (case x103 => rfl)
    (case z104 => k_is)
    (case y104 => k_is)
    (case x104 => rfl)
    (case e104 => (repeat (first | exact .nil | refine .cons ⟨_, rfl⟩ ?_)))
    (case xGa => k_is)
    (case xGl => k_is)
    (case xGn => k_is)
    (case xGk => rfl)
    (case xGi => k_is)
    (case xGt => k_is)
    (case xGb => k_is)
    (case xcg => k_is)
    (case xct => k_is)
    (case xNFa => k_is)
    (case xNFl => k_is)
    (case xNFm => rfl)
    (case xNFs => rfl)
    (case xNFd => rfl)
    (case xNFn => k_is)
    (case xNFk => rfl)
    (case xNFi => k_is)
    (case xNFt => k_is)
    (case xNFh => k_is)
    (case xNFg => k_is)
    (case xNFga => k_is)
    (case xNFsa => k_is)
    (case xNFsub => k_is)
    (case xNFca => k_is)
    (case xNFv => k_is)
    (case xNDa => k_is)
    (case xNDl => k_is)
    (case xNDm => rfl)
    (case xNDs => rfl)
    (case xNDd => rfl)
    (case xNDn => k_is)
    (case xNDk => rfl)
    (case xNDi => k_is)
    (case xNDt => k_is)
    (case xNDh => k_is)
    (case xNDg => k_is)
    (case xNDga => k_is)
    (case xNDsa => k_is)
    (case xNDsub => k_is)
    (case xNDca => k_is)
    (case xNDv => k_is)
    (case xNPa => k_is)
    (case xNPl => k_is)
    (case xNPt => k_is)
    (case sNFND => k_is)
    (case eNFND => rfl)
    (case sNDNF => k_is)
    (case eNDNF => rfl)
    (case sNFNP => k_is)
    (case eNFNP => rfl)
    (case sNDNP => k_is)
    (case eNDNP => rfl)
    (case yDa => k_is)
    (case yDpg => k_is)
    (case yDhd => k_is)
    (case yDpo => k_is)
    (case yDsa => k_is)
    (case yDmk => k_is)
    (case yDkc => k_is)
    (case yDnf => k_is)
    (case yDca => k_is)
    (case yDcm => k_is)
    (case gDda => k_is)
    (case gDdi => k_is)
    (case gDdl => k_is)
    (case gDdc => k_is)
    (case gDdk => k_is)
    (case gDba => k_is)
    (case gDbi => k_is)
    (case gDbl => k_is)
    (case gDbc => k_is)
    (case gDbk => k_is)
    (case yDoi => k_is)
    (case yFa => k_is)
    (case yFpg => k_is)
    (case yFhd => k_is)
    (case yFpo => k_is)
    (case yFsa => k_is)
    (case yFmk => k_is)
    (case yFkc => k_is)
    (case yFnf => k_is)
    (case yFca => k_is)
    (case yFcm => k_is)
    (case gFda => k_is)
    (case gFdi => k_is)
    (case gFdl => k_is)
    (case gFdc => k_is)
    (case gFdk => k_is)
    (case gFba => k_is)
    (case gFbi => k_is)
    (case gFbl => k_is)
    (case gFbc => k_is)
    (case gFbk => k_is)
    (case gFia => k_is)
    (case gFii => k_is)
    (case gFil => k_is)
    (case gFic => k_is)
    (case gFik => k_is)
    (case yCa => k_is)
    (case yCpg => k_is)
    (case yChd => k_is)
    (case yCpo => k_is)
    (case yCsa => k_is)
    (case yCmk => k_is)
    (case yCkc => k_is)
    (case yCnf => k_is)
    (case yCca => k_is)
    (case yCcm => k_is)
    (case gCda => k_is)
    (case gCdi => k_is)
    (case gCdl => k_is)
    (case gCdc => k_is)
    (case gCdk => k_is)
    (case gCba => k_is)
    (case gCbi => k_is)
    (case gCbl => k_is)
    (case gCbc => k_is)
    (case gCbk => k_is)
    (case yCoi => k_is)
    (case yGa => k_is)
    (case yGpg => k_is)
    (case yGhd => k_is)
    (case yGpo => k_is)
    (case yGsa => k_is)
    (case yGmk => k_is)
    (case yGkc => k_is)
    (case yGnf => k_is)
    (case yGca => k_is)
    (case yGcm => k_is)
    (case gGda => k_is)
    (case gGdi => k_is)
    (case gGdl => k_is)
    (case gGdc => k_is)
    (case gGdk => k_is)
    (case gGba => k_is)
    (case gGbi => k_is)
    (case gGbl => k_is)
    (case gGbc => k_is)
    (case gGbk => k_is)
    (case gGia => k_is)
    (case gGii => k_is)
    (case gGil => k_is)
    (case gGic => k_is)
    (case gGik => k_is)
    (case yDl => k_is)
    (case yDt => k_is)
    (case yFs => k_is)
    (case yCs => k_is)
    (case yGs => k_is)
    (case nDF => rfl)
    (case nDC => rfl)
    (case nDG => rfl)
    (case nFC => rfl)
    (case nFG => rfl)
    (case nCG => rfl)
    (case w90 => k_is)
    (case w91 => k_is)
    (case w92 => rfl)
    (case w93 => k_is)
    (case w94 => rfl)
#print axioms PySem.Challenge.cw_gapscribe_k21_fills_cuts_changes_holds
