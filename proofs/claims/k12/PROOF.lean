import PyProof.Rows.All
import Wide.All
import OpenK.AllK
import Wide.FinOn
import Lean
import PyProof.EqAt
import PyProof.EqKinds
import PyProof.TupleCall
import PyProof.StrBlock2
import PySem.Challenge.RW_gapscribe_k12_bare_forms
set_option Elab.async false
set_option linter.all false
set_option maxRecDepth 100000
namespace L2
open PySem PySem.Spec PyProof.Rows

abbrev Key := Sum Int Str
def keyIs : Key → Value → Bool
  | .inl k, v => Value.isInt k v
  | .inr x, v => Value.isStrOf x v
def keyH (w : World) : Key → Int
  | .inl k => hashInt k
  | .inr x => hashStr w x
theorem keyIs_shape : ∀ {k : Key} {v : Value}, keyIs k v = true → (∃ i t, k = Sum.inl i ∧ v = Value.int i t) ∨ (∃ x t, k = Sum.inr x ∧ v = Value.str x t)
  | .inl i, v, h => by
    obtain ⟨t, e⟩ := Value.isInt_shape (k := i) (v := v) h
    exact .inl ⟨i, t, rfl, e⟩
  | .inr x, v, h => by
    obtain ⟨t, e⟩ := Value.isStrOf_shape (x := x) (v := v) h
    exact .inr ⟨x, t, rfl, e⟩
theorem key_ll (a b : Int) : decide ((Sum.inl a : Key) = Sum.inl b) = (a == b) := by
  by_cases e : a = b
  · subst e; simp
  · have h : ¬ (Sum.inl a : Key) = Sum.inl b := fun q => e (Sum.inl.inj q)
    rw [decide_eq_false h]
    exact (beq_eq_false_iff_ne.mpr e).symm
theorem key_rr (a b : Str) : decide ((Sum.inr a : Key) = Sum.inr b) = decide (a = b) := by
  by_cases e : a = b
  · subst e; simp
  · have h : ¬ (Sum.inr a : Key) = Sum.inr b := fun q => e (Sum.inr.inj q)
    rw [decide_eq_false h, decide_eq_false e]
theorem key_lr (a : Int) (b : Str) : decide ((Sum.inl a : Key) = Sum.inr b) = false := decide_eq_false (fun q => nomatch q)
theorem key_rl (a : Str) (b : Int) : decide ((Sum.inr a : Key) = Sum.inl b) = false := decide_eq_false (fun q => nomatch q)

def mixKind (prog : Program) (w : World) : PySem.KeyKind prog w Key where
  is := keyIs
  hash := keyH w
  inj := fun v a b ha hb => by
    rcases keyIs_shape ha with ⟨i, t, rfl, rfl⟩ | ⟨x, t, rfl, rfl⟩
    · rcases keyIs_shape hb with ⟨j, u, rfl, e⟩ | ⟨y, u, rfl, e⟩
      · injection e with e1 _; rw [e1]
      · exact nomatch e
    · rcases keyIs_shape hb with ⟨j, u, rfl, e⟩ | ⟨y, u, rfl, e⟩
      · exact nomatch e
      · injection e with e1 _; rw [e1]
  byValue := fun k v h => by
    rcases keyIs_shape h with ⟨i, t, rfl, rfl⟩ | ⟨x, t, rfl, rfl⟩ <;> rfl
  pyHash := fun hv h => by
    rcases keyIs_shape hv with ⟨i, t, rfl, rfl⟩ | ⟨x, t, rfl, rfl⟩
    · exact wpAny_pyHash_int h
    · exact wpAny_pyHash_str h
  eqBool := fun hu hv h => by
    rcases keyIs_shape hu with ⟨i, t, rfl, rfl⟩ | ⟨x, t, rfl, rfl⟩
    · rcases keyIs_shape hv with ⟨j, u, rfl, rfl⟩ | ⟨y, u, rfl, rfl⟩
      · rw [key_ll] at h; exact wpAny_eqBool_int h
      · rw [key_lr] at h; exact SeqAt.EqAt.int_str i t y u _ _ _ _ h
    · rcases keyIs_shape hv with ⟨j, u, rfl, rfl⟩ | ⟨y, u, rfl, rfl⟩
      · rw [key_rl] at h; exact SeqAt.EqAt.str_int x t j u _ _ _ _ h
      · rw [key_rr] at h; exact wpAny_eqBool_str h
  «strs» := fun k x t v h => by
    rcases keyIs_shape h with ⟨i, u, rfl, e⟩ | ⟨y, u, rfl, e⟩
    · exact nomatch e
    · injection e with e1 _
      subst e1
      cases v <;> rfl

end L2

namespace L2
open PySem PySem.Spec PyProof.Rows

inductive V where
  | non | bl (b : Bool) | int (i : Int) | str (x : Str) | byt (b : Array UInt8) | flt (b : UInt64) | ref (a : Addr) | ty (n : String)
  deriving DecidableEq

def RelV : V → Value → Prop
  | .non, u => u = Value.none
  | .bl b, u => u = Value.bool b
  | .int i, u => ∃ t, u = Value.int i t
  | .str x, u => ∃ t, u = Value.str x t
  | .byt b, u => ∃ t, u = Value.bytes b t
  | .flt b, u => ∃ t, u = Value.float b t
  | .ref a, u => u = Value.ref a
  | .ty n, u => u = Value.type n

abbrev Vals : List V → List Value → Prop := Paired RelV
theorem Vals.length {xs : List V} {us : List Value} (r : Vals xs us) : xs.length = us.length := Paired.length r
theorem Vals.get : ∀ {xs : List V} {us : List Value} {i : Nat} {x : V}, Vals xs us → xs[i]? = some x → ∃ u, us[i]? = some u ∧ RelV x u
  | _, _, _, _, .nil, e => by simp at e
  | _, _, 0, _, .cons r _, e => by simp at e; subst e; exact ⟨_, rfl, r⟩
  | _, _, i + 1, x, .cons _ t, e => by
    obtain ⟨u, h1, h2⟩ := Vals.get (i := i) (x := x) t (by simpa using e)
    exact ⟨u, by simpa using h1, h2⟩
theorem Vals.set {x : V} {u : Value} (r : RelV x u) : ∀ {xs : List V} {us : List Value} (i : Nat), Vals xs us → Vals (xs.set i x) (us.set i u)
  | _, _, _, .nil => .nil
  | _, _, 0, .cons _ t => .cons r t
  | _, _, i + 1, .cons q t => .cons q (Vals.set r i t)
theorem Vals.append : ∀ {xs ys : List V} {us ws : List Value}, Vals xs us → Vals ys ws → Vals (xs ++ ys) (us ++ ws)
  | _, _, _, _, .nil, s => s
  | _, _, _, _, .cons r t, s => .cons r (Vals.append t s)
theorem Vals.take : ∀ {xs : List V} {us : List Value} (n : Nat), Vals xs us → Vals (xs.take n) (us.take n)
  | _, _, 0, _ => .nil
  | _, _, _ + 1, .nil => .nil
  | _, _, n + 1, .cons r t => .cons r (Vals.take n t)
theorem Vals.drop : ∀ {xs : List V} {us : List Value} (n : Nat), Vals xs us → Vals (xs.drop n) (us.drop n)
  | _, _, 0, r => r
  | _, _, _ + 1, .nil => .nil
  | _, _, n + 1, .cons _ t => Vals.drop n t
def RelO : Option V → Option Value → Prop
  | some v, some u => RelV v u
  | none, none => True
  | _, _ => False
def KV {κ : Type} : List (κ × V) → List (κ × Value) → Prop := Paired fun (p : κ × V) (q : κ × Value) => p.1 = q.1 ∧ RelV p.2 q.2

def kV : Key → V
  | .inl i => .int i
  | .inr x => .str x

inductive HO where
  /-- a list -/
  | lst (xs : List V)
  /-- a tuple (never changes) -/
  | tup (xs : List V)
  /-- a dict whose keys are ints and texts; one whose keys are tuples of ints and texts (the empty one is both) -/
  | dK (kvs : List (Key × V)) | dT (kvs : List (List Key × V))
  /-- a set of ints: its members, its size -/
  | set (S : Int → Bool) (n : Nat)
  /-- an instance of the class at C, its dict at dx, its attributes -/
  | ins (C dx : Addr) (fs : List (Str × V))
  /-- the dict of the instance at x -/
  | own (x : Addr)
  /-- the dict of an exception -/
  | xd (fs : List (Str × V))
  /-- a bound method, f of x -/
  | met (f x : Addr)
  /-- a range object lo, lo + 1, .. below hi -/
  | rng (lo hi : Int)
  /-- a thing that is known to the object (the script; a dict while a loop walks it): read, never written while it is so -/
  | frz (o : Obj) (u : HO)
  /-- a code object's table -/
  | tbl (ps : Array Value)
  /-- any other thing, by what is true of its one object (a def of one's own: SetO a S n := HO.ext fun h => ..) -/
  | ext (φ : Heap → Prop)

abbrev Hp := Addr → Option HO
def upd (H : Hp) (a : Addr) (o : HO) : Hp := fun b => if b = a then some o else H b
theorem upd_same {H : Hp} {a : Addr} {o : HO} : upd H a o a = some o := by unfold upd; rw [if_pos rfl]
theorem upd_ne {H : Hp} {a b : Addr} {o : HO} (h : b ≠ a) : upd H a o b = H b := by unfold upd; rw [if_neg h]
theorem ne_of {H : Hp} {a b : Addr} {o u : HO} (h : H a = some o) (h' : H b = some u) (d : o ≠ u) : a ≠ b := by
  intro e; subst e; rw [h] at h'; exact d (Option.some.inj h')
theorem ne_of_none {H : Hp} {a b : Addr} {o : HO} (h : H a = some o) (h' : H b = none) : a ≠ b := by
  intro e; subst e; rw [h] at h'; cases h'

section
variable (P : Program) (w : World)
def ObjOk (H : Hp) (h : Heap) (a : Addr) : HO → Prop
  | .lst xs => xs.length ≤ sizeLine ∧ ∃ (its : List Value) (n : Nat), Vals xs its ∧ h.get? a = some { cls := .type "list", data := .seq its.toArray n }
  | .tup xs => xs.length ≤ sizeLine ∧ ∃ its : List Value, Vals xs its ∧ IsTup h a its.toArray
  | .dK kvs => kvs.length ≤ sizeLine ∧ (a == sysModules) = false ∧ ∃ vs, KV kvs vs ∧ h.DictOf (mixKind P w) a vs
  | .dT kvs => kvs.length ≤ sizeLine ∧ (a == sysModules) = false ∧ ∃ xs : List (List Key × Addr × Value),
      Paired (fun (p : List Key × V) (q : List Key × Addr × Value) => p.1 = q.1 ∧ H q.2.1 = some (.tup (p.1.map kV)) ∧ RelV p.2 q.2.2) kvs xs ∧
      ∃ o es ep, h.get? a = some o ∧ o.ExactDict ∧ o.data = .dict es ep ∧ es.toList = xs.map (entryOfKey (tupleKind (mixKind P w))) ∧ (xs.map (·.1)).Nodup
  | .set S n => h.SetOf (intKind P w) a S n
  | .ins C dx fs => H dx = some (.own a) ∧ fs.length ≤ 1000 ∧ dx ≠ a ∧ h.get? a = some (PySem.W.instObj C dx) ∧
      ∃ mA, h.Ns1 dx mA ∧ (∀ f, RelO (fs.lookup f) (mA f)) ∧ PySem.Within mA (fs.map (·.1))
  | .own _ => ∃ o, h.get? a = some o
  | .xd fs => ∃ mA, h.Ns1 a mA ∧ ∀ f, RelO (fs.lookup f) (mA f)
  | .rng lo hi => ∃ t u v, h.get? a = some { cls := .type "range", data := .fields #[.int lo t, .int hi u, .int 1 v] }
  | .frz o u => h.get? a = some o ∧ ObjOk H h a u
  | .tbl ps => h.get? a = some { cls := .none, data := .fields ps }
  | .met f x => h.get? a = some (PySem.W.methodObj (.ref f) (.ref x))
  | .ext φ => φ h ∧ (∃ o, h.get? a = some o) ∧ ∀ h1 h2 : Heap, φ h1 → (∀ o, h1.get? a = some o → h2.get? a = some o) → φ h2
def HOk (H : Hp) (h : Heap) : Prop := ∀ a o, H a = some o → ObjOk P w H h a o
end

section
variable {P : Program} {w : World} {H H' : Hp} {h h' : Heap} {a : Addr} {o : HO}
theorem ObjOk.lt (x : ObjOk P w H h a o) : a < h.objs.size := by
  cases o with
  | lst xs => obtain ⟨_, _, _, _, e⟩ := x; exact Heap.lt_size e
  | tup xs => obtain ⟨_, _, _, p⟩ := x; exact p.lt
  | dK kvs => obtain ⟨_, _, _, _, o, _, _, e, _⟩ := x; exact Heap.lt_size e
  | dT kvs => obtain ⟨_, _, _, _, o, _, _, e, _⟩ := x; exact Heap.lt_size e
  | set S n => obtain ⟨o, _, _, _, e, _⟩ := x; exact Heap.lt_size e
  | ins C dx fs => obtain ⟨_, _, _, e, _⟩ := x; exact Heap.lt_size e
  | own y => obtain ⟨_, e⟩ := x; exact Heap.lt_size e
  | xd fs => obtain ⟨_, ⟨_, _, _, e, _⟩, _⟩ := x; exact Heap.lt_size e
  | rng lo hi => obtain ⟨_, _, _, e⟩ := x; exact Heap.lt_size e
  | frz ob u => obtain ⟨e, _⟩ := x; exact Heap.lt_size e
  | tbl ps => exact Heap.lt_size (show h.get? a = some _ from x)
  | met f y => exact Heap.lt_size (show h.get? a = some _ from x)
  | ext φ => obtain ⟨_, ⟨_, e⟩, _⟩ := x; exact Heap.lt_size e
theorem Paired.mapP {α β : Type} {F G : α → β → Prop} : ∀ {l₁ : List α} {l₂ : List β}, Paired F l₁ l₂ → (∀ a b, F a b → G a b) → Paired G l₁ l₂
  | _, _, .nil, _ => .nil
  | _, _, .cons r t, f => .cons (f _ _ r) (Paired.mapP t f)
theorem ObjOk.stay (x : ObjOk P w H h a o) (k : ∀ b u, (b = a ∨ H b = some (.own a)) → h.get? b = some u → h'.get? b = some u)
    (ho : ∀ b, H b = some (.own a) → H' b = some (.own a)) (ht : ∀ b xs, H b = some (.tup xs) → H' b = some (.tup xs)) : ObjOk P w H' h' a o := by
  induction o with
  | lst xs => obtain ⟨z, its, n, r, e⟩ := x; exact ⟨z, its, n, r, k _ _ (.inl rfl) e⟩
  | tup xs => obtain ⟨z, its, r, ob, e, c⟩ := x; exact ⟨z, its, r, ob, k _ _ (.inl rfl) e, c⟩
  | dK kvs => obtain ⟨z, y, vs, r, ob, es, ep, e, c⟩ := x; exact ⟨z, y, vs, r, ob, es, ep, k _ _ (.inl rfl) e, c⟩
  | dT kvs =>
    obtain ⟨z, y, xs, r, ob, es, ep, e, c⟩ := x
    exact ⟨z, y, xs, Paired.mapP r fun p q z => ⟨z.1, ht _ _ z.2.1, z.2.2⟩, ob, es, ep, k _ _ (.inl rfl) e, c⟩
  | set S n => obtain ⟨ob, es, ep, t, e, c⟩ := x; exact ⟨ob, es, ep, t, k _ _ (.inl rfl) e, c⟩
  | ins C dx fs =>
    obtain ⟨d, z, ne, e, mA, ⟨od, es, ep, e2, c⟩, r⟩ := x
    exact ⟨ho _ d, z, ne, k _ _ (.inl rfl) e, mA, ⟨od, es, ep, k _ _ (.inr d) e2, c⟩, r⟩
  | own y => obtain ⟨ob, e⟩ := x; exact ⟨ob, k _ _ (.inl rfl) e⟩
  | xd fs => obtain ⟨mA, ⟨od, es, ep, e, c⟩, r⟩ := x; exact ⟨mA, ⟨od, es, ep, k _ _ (.inl rfl) e, c⟩, r⟩
  | rng lo hi => obtain ⟨t, u, v, e⟩ := x; exact ⟨t, u, v, k _ _ (.inl rfl) e⟩
  | frz ob u ih => obtain ⟨e, q⟩ := x; exact ⟨k _ _ (.inl rfl) e, ih q⟩
  | tbl ps =>
    have e : h.get? a = some { cls := .none, data := .fields ps } := x
    show h'.get? a = some { cls := .none, data := .fields ps }
    exact k a _ (.inl rfl) e
  | met f y =>
    have e : h.get? a = some (PySem.W.methodObj (.ref f) (.ref y)) := x
    show h'.get? a = some (PySem.W.methodObj (.ref f) (.ref y))
    exact k a _ (.inl rfl) e
  | ext φ => obtain ⟨p, ⟨o, e⟩, st⟩ := x; exact ⟨st _ _ p fun o q => k _ _ (.inl rfl) q, ⟨o, k _ _ (.inl rfl) e⟩, st⟩
theorem HOk.lt (x : HOk P w H h) (e : H a = some o) : a < h.objs.size := (x a o e).lt
theorem HOk.fresh (x : HOk P w H h) (e : h.objs.size ≤ a) : H a = none := by
  cases q : H a with
  | none => rfl
  | some u => exact absurd (Nat.lt_of_lt_of_le (x.lt q) e) (Nat.lt_irrefl _)
theorem HOk.kept (x : HOk P w H h) (k : ∀ b u, h.get? b = some u → h'.get? b = some u) : HOk P w H h' := fun a o e =>
  (x a o e).stay (fun b u _ q => k b u q) (fun _ q => q) fun _ _ q => q
theorem HOk.laid (x : HOk P w H h) (k : ∀ b u, h.get? b = some u → h'.get? b = some u) (hp : h.objs.size ≤ a) (new : ObjOk P w (upd H a o) h' a o) : HOk P w (upd H a o) h' := fun b u e => by
  have hn := x.fresh hp
  by_cases hb : b = a
  · subst hb; rw [upd_same] at e; cases e; exact new
  · rw [upd_ne hb] at e
    exact (x b u e).stay (fun c v _ q => k c v q) (fun c q => by rw [upd_ne (ne_of_none q hn)]; exact q) fun c xs q => by rw [upd_ne (ne_of_none q hn)]; exact q
end

def Rd (H : Hp) (a : Addr) (u : HO) : Prop := H a = some u ∨ ∃ o, H a = some (.frz o u)
theorem Rd.of {H : Hp} {a : Addr} {u : HO} (h : H a = some u) : Rd H a u := .inl h
theorem Rd.ok {P : Program} {w : World} {H : Hp} {h : Heap} {a : Addr} {u : HO} (r : Rd H a u) (x : HOk P w H h) : ObjOk P w H h a u := by
  rcases r with r | ⟨o, r⟩
  · exact x a u r
  · obtain ⟨_, q⟩ := x a _ r
    exact q
def Mut : Option HO → Prop
  | some (.lst _) => True
  | some (.dK _) => True
  | some (.dT _) => True
  | some (.set _ _) => True
  | some (.ins _ _ _) => True
  | some (.ext _) => True
  | _ => False
section
variable {P : Program} {w : World} {H : Hp} {h h' : Heap} {x e : Addr} {o' : HO}
theorem HOk.write (ok : HOk P w H h) (mu : Mut (H x)) (he : e = x ∨ H e = some (.own x)) (k : ∀ b u, b ≠ e → h.get? b = some u → h'.get? b = some u) (heo : ∃ u, h'.get? e = some u)
    (new : ObjOk P w (upd H x o') h' x o') : HOk P w (upd H x o') h' := fun b u q => by
  have nown : ∀ c y, H c = some (.own y) → c ≠ x := fun c y r z => by subst z; rw [r] at mu; exact mu
  have ntup : ∀ c xs, H c = some (.tup xs) → c ≠ x := fun c xs r z => by subst z; rw [r] at mu; exact mu
  by_cases hb : b = x
  · subst hb; rw [upd_same] at q; cases q; exact new
  · rw [upd_ne hb] at q
    by_cases hbe : b = e
    · have q' : H b = some (.own x) := by
        rcases he with z | z
        · exact absurd (hbe.trans z) hb
        · rw [hbe]; exact z
      rw [q] at q'; cases q'
      obtain ⟨v, hv⟩ := heo
      exact ⟨v, by rw [hbe]; exact hv⟩
    · refine (ok b u q).stay (fun c v hc r => k c v ?_ r) (fun c r => by rw [upd_ne (nown c b r)]; exact r) fun c xs r => by rw [upd_ne (ntup c xs r)]; exact r
      rcases hc with rfl | hc
      · exact hbe
      · rintro rfl
        rcases he with z | z
        · exact nown c b hc z
        · rw [hc] at z; cases z; exact hb rfl
end

structure Un (fs ex : List Addr) (H H' : Hp) (h h' : Heap) : Prop where
  keep : ∀ b o, h.get? b = some o → H b = none → b ∉ fs → b ∉ ex → h'.get? b = some o
  slot : ∀ b o, h.get? b = some o → H b = none → b ∈ fs → b ∉ ex → ∃ sl, h'.get? b = some { o with slots := sl }
  free : ∀ b o, h.get? b = some o → H b = none → b ∉ ex → H' b = none
  there : ∀ b o, h.get? b = some o → b ∉ ex → ∃ o', h'.get? b = some o'
  tups : ∀ b xs, H b = some (.tup xs) → H' b = some (.tup xs)
  frzs : ∀ b o u, H b = some (.frz o u) → H' b = some (.frz o u)
  tbls : ∀ b ps, H b = some (.tbl ps) → ∃ more, H' b = some (.tbl (ps ++ more))
section
variable {fs fs' ex ex' : List Addr} {H H1 H2 : Hp} {h h1 h2 h' : Heap} {a x e : Addr} {o : HO}
theorem Un.any (u : Un fs ex H H1 h h1) {b : Addr} {ob : Obj} (q : h.get? b = some ob) (n : H b = none) (hx : b ∉ ex) : ∃ sl, h1.get? b = some { ob with slots := sl } := by
  by_cases hb : b ∈ fs
  · exact u.slot b ob q n hb hx
  · exact ⟨ob.slots, u.keep b ob q n hb hx⟩
theorem Un.trans (a : Un fs ex H H1 h h1) (b : Un fs ex H1 H2 h1 h2) : Un fs ex H H2 h h2 where
  keep := fun c ob q n hc hx => b.keep c ob (a.keep c ob q n hc hx) (a.free c ob q n hx) hc hx
  slot := fun c ob q n hc hx => by
    obtain ⟨sl, e1⟩ := a.slot c ob q n hc hx
    obtain ⟨sl', e2⟩ := b.slot c _ e1 (a.free c ob q n hx) hc hx
    exact ⟨sl', e2⟩
  free := fun c ob q n hx => by
    obtain ⟨o', e1⟩ := a.there c ob q hx
    exact b.free c o' e1 (a.free c ob q n hx) hx
  there := fun c ob q hx => by
    obtain ⟨o', e1⟩ := a.there c ob q hx
    exact b.there c o' e1 hx
  tups := fun c xs q => b.tups c xs (a.tups c xs q)
  frzs := fun c ob xs q => b.frzs c ob xs (a.frzs c ob xs q)
  tbls := fun c ps q => by
    obtain ⟨m1, e1⟩ := a.tbls c ps q
    obtain ⟨m2, e2⟩ := b.tbls c _ e1
    exact ⟨m1 ++ m2, by rw [e2, Array.append_assoc]⟩
theorem Un.kept (k : ∀ b u, h.get? b = some u → h'.get? b = some u) : Un fs ex H H h h' :=
  ⟨fun b ob q _ _ _ => k b ob q, fun b ob q _ _ _ => ⟨ob.slots, k b ob q⟩, fun _ _ _ n _ => n, fun b ob q _ => ⟨ob, k b ob q⟩, fun _ _ q => q, fun _ _ _ q => q, fun _ ps q => ⟨#[], by rw [q]; simp⟩⟩
theorem Un.refl : Un fs ex H H h h := Un.kept fun _ _ q => q
theorem Un.laid (k : ∀ b u, h.get? b = some u → h'.get? b = some u) (hp : h.objs.size ≤ a) (hn : H a = none) : Un fs ex H (upd H a o) h h' where
  keep := fun b u q _ _ _ => k b u q
  slot := fun b u q _ _ _ => ⟨u.slots, k b u q⟩
  free := fun b u q n _ => by rw [upd_ne (Nat.ne_of_lt (Nat.lt_of_lt_of_le (Heap.lt_size q) hp))]; exact n
  there := fun b u q _ => ⟨u, k b u q⟩
  tups := fun b xs q => by rw [upd_ne (ne_of_none q hn)]; exact q
  frzs := fun b u xs q => by rw [upd_ne (ne_of_none q hn)]; exact q
  tbls := fun b ps q => ⟨#[], by rw [upd_ne (ne_of_none q hn), q]; simp⟩
theorem Un.write (mu : Mut (H x)) (he : e = x ∨ H e = some (.own x)) (k : ∀ b u, b ≠ e → h.get? b = some u → h'.get? b = some u) (heo : ∃ u, h'.get? e = some u) : Un fs ex H (upd H x o) h h' := by
  have hx : ∀ b, H b = none → b ≠ x := fun b n z => by subst z; rw [n] at mu; exact mu
  have hb : ∀ b, H b = none → b ≠ e := fun b n z => by
    subst z
    rcases he with r | r
    · exact hx b n r
    · rw [n] at r; cases r
  have hm : ∀ b u, H b = some u → ¬ Mut (some u) → b ≠ x := fun b u q nm z => by subst z; rw [q] at mu; exact nm mu
  refine ⟨fun b u q n _ _ => k b u (hb b n) q, fun b u q n _ _ => ⟨u.slots, k b u (hb b n) q⟩, fun b u q n _ => by rw [upd_ne (hx b n)]; exact n, fun b u q _ => ?_,
    fun b xs q => by rw [upd_ne (hm b _ q fun z => z)]; exact q, fun b u xs q => by rw [upd_ne (hm b _ q fun z => z)]; exact q, fun b ps q => ⟨#[], by rw [upd_ne (hm b _ q fun z => z), q]; simp⟩⟩
  by_cases hbe : b = e
  · subst hbe; exact heo
  · exact ⟨u, k b u hbe q⟩
theorem Un.mono (u : Un fs ex H H1 h h1) (hs : ∀ b ∈ fs, b ∈ fs') (hx : ∀ b ∈ ex, b ∈ ex') : Un fs' ex' H H1 h h1 :=
  ⟨fun b ob q n hb he => u.keep b ob q n (fun z => hb (hs b z)) fun z => he (hx b z), fun _ _ q n _ he => u.any q n fun z => he (hx _ z), fun b ob q n he => u.free b ob q n fun z => he (hx b z), fun b ob q he => u.there b ob q fun z => he (hx b z), u.tups, u.frzs, u.tbls⟩
end

def trk (h : Heap) (H : Hp) : List Addr := (List.range h.objs.size).filter fun a => (H a).isSome
def hidT (h : Heap) (H : Hp) : Heap := PySem.W.hideAll h (trk h H)
theorem hidT_size (h : Heap) (H : Hp) : (hidT h H).objs.size = h.objs.size := PySem.W.hideAll_size _ _
theorem hidT_get {h : Heap} {H : Hp} {b : Addr} {o : Obj} (e : h.get? b = some o) (n : H b = none) : (hidT h H).get? b = some o :=
  PySem.W.hideAll_get _ e fun hm => by
    have q : (H b).isSome = true := (List.mem_filter.mp hm).2
    rw [n] at q; simp at q
theorem of_hidT {h : Heap} {H : Hp} {b : Addr} {o : Obj} (e : (hidT h H).get? b = some o) : h.get? b = some o ∧ H b = none := by
  have e' : h.get? b = some o := PySem.W.of_hideAll (trk h H) e
  refine ⟨e', ?_⟩
  cases q : H b with
  | none => rfl
  | some x =>
    have hm : b ∈ trk h H := List.mem_filter.mpr ⟨List.mem_range.mpr (Heap.lt_size e'), by simp [q]⟩
    have z : (hidT h H).get? b = none := PySem.W.hideAll_none (trk h H) hm
    rw [z] at e; cases e

def allNews (g h : Heap) (L : Addr) : List (Addr × Obj) := (List.range h.objs.size).filterMap fun a => if a = L ∨ (g.get? a).isSome = true then none else (h.get? a).map fun o => (a, o)
def rest (g h : Heap) (L d : Addr) : List (Addr × Obj) := (allNews g h L).filter fun p => decide (p.1 ≠ d)
end L2

namespace L2
open PySem PySem.Spec PyProof.Rows

structure Mod (K : PySem.W.Frag) (mg : Str → Option Value) (base : Heap) : Prop where
  kin : K.In base
  glob : base.Ns mainGlobals mg
  blt : ∃ mb, base.Ns builtinsNs mb ∧ ∀ x : Str, x ≠ "__name__" → mb x = bootBuiltins x
  nolimit : base.NoLimit

structure Cx where
  prog : Program
  w : World
  K : PySem.W.Frag
  mg : Str → Option Value
  base : Heap
  A : Around
  N : List Str
  s₀ : Shared
  H₀ : Hp
  env : Env
  outer : List Env
  stack : List Env
  ex : List Addr
  fn : Str → Bool
  calm : Bool
  pn : List (Addr × Obj)
  xe : Value → Shared → Prop
def frs (l : List Env) : List Addr := l.filterMap (·.frame)
abbrev Cx.fs (X : Cx) : List Addr := frs X.outer

def Vis (sc : Scope) (x : Str) : Prop := sc.names.lookup x = some .local ∨ sc.names.lookup x = some .cell ∨ sc.names.lookup x = some .free
def Loc (sc : Scope) (x : Str) : Prop := sc.names.lookup x = some .local ∨ sc.names.lookup x = some .cell
def Look (env : Env) (h : Heap) (m : Str → Option Value) (x : Str) (u : Value) : Prop :=
  (env.kindOf x = some .local ∧ m x = some u) ∨ ((env.kindOf x = some .cell ∨ env.kindOf x = some .free) ∧ ∃ c, env.cells.lookup x = some c ∧ h.IsCell c (some u))

structure Cx.Ok (X : Cx) : Prop where
  mod : Mod X.K X.mg X.base
  kind : X.env.scope.kind = .function
  glob : X.env.globals = mainGlobals
  blt : X.env.builtins = builtinsNs
  above : X.s₀.heap.objs.size ≤ X.env.locals
  inj : ∀ x y c, X.env.cells.lookup x = some c → X.env.cells.lookup y = some c → x = y
  has : ∀ x, (X.env.kindOf x = some .cell ∨ X.env.kindOf x = some .free) → ∃ c, X.env.cells.lookup x = some c
  cab : ∀ x c, X.fn x = true → X.env.cells.lookup x = some c → X.s₀.heap.objs.size ≤ c
  hd : X.calm = true → X.A.handled = none
  frames : X.A.frames = some X.stack
  stk : X.stack = X.outer ∨ (X.stack = X.env :: X.outer ∧ X.env.frame = some X.env.locals)
  exf : ∀ b ∈ X.ex, b ≠ X.env.locals ∧ ∀ x c, X.env.cells.lookup x = some c → c ≠ b
  bs : ∀ b o, X.base.get? b = some o → X.s₀.heap.get? b = some o ∧ X.H₀ b = none
  bsz : X.base.objs.size ≤ X.s₀.heap.objs.size
  noex : ∀ b o, X.base.get? b = some o → b ∉ X.ex
  exfs : ∀ b ∈ X.ex, b ∉ X.fs
  funs : X.s₀.heap.FunFrames X.base X.outer
  frf : ∀ b ∈ X.fs, X.H₀ b = none

structure Inv (X : Cx) (pins : List (Addr × Obj)) (σ : List (Option V)) (H : Hp) (s : Shared) : Prop where
  ok : X.Ok
  os : s.os = X.s₀.os
  bare : AllBare s.gens
  base : Un X.fs X.ex X.H₀ H X.s₀.heap s.heap
  loc : ∃ m, s.heap.Ns X.env.locals m ∧ ∀ (i : Nat) (x : Str) (v : V), X.N[i]? = some x → σ[i]? = some (some v) → Vis X.env.scope x → ∃ u, RelV v u ∧ Look X.env s.heap m x u
  cell : ∀ x c, X.env.cells.lookup x = some c → ∃ v, s.heap.IsCell c v
  free : H X.env.locals = none
  freeC : ∀ x c, X.env.cells.lookup x = some c → H c = none
  pin : ∀ p ∈ X.pn ++ pins, s.heap.get? p.1 = some p.2 ∧ H p.1 = none ∧ p.1 ≠ X.env.locals ∧ p.1 ∉ X.fs ∧ ∀ v, p.2.data ≠ .cell v
  hok : HOk X.prog X.w H s.heap
  len : σ.length = X.N.length

section
variable {X : Cx} {pins : List (Addr × Obj)} {σ : List (Option V)} {H H' : Hp} {s : Shared} {h' : Heap}

theorem Cx.Ok.nofr (ok : X.Ok) {b : Addr} {o : Obj} (e : X.base.get? b = some o) : b ∉ X.fs := fun hb => by
  have := (ok.funs.mem hb).1
  rw [e] at this; cases this
theorem Inv.bs (I : Inv X pins σ H s) : ∀ b o, X.base.get? b = some o → s.heap.get? b = some o ∧ H b = none := fun b o e =>
  ⟨I.base.keep b o (I.ok.bs b o e).1 (I.ok.bs b o e).2 (I.ok.nofr e) (I.ok.noex b o e), I.base.free b o (I.ok.bs b o e).1 (I.ok.bs b o e).2 (I.ok.noex b o e)⟩
theorem Inv.bk (I : Inv X pins σ H s) : ∀ b o, X.base.get? b = some o → s.heap.get? b = some o := fun b o e => (I.bs b o e).1
theorem Inv.mod (I : Inv X pins σ H s) : Mod X.K X.mg X.base := I.ok.mod
theorem Inv.kIn (I : Inv X pins σ H s) : X.K.In s.heap := I.ok.mod.kin.keeps I.bk
theorem Inv.nolimit (I : Inv X pins σ H s) : s.heap.NoLimit := I.ok.mod.nolimit.keeps I.bk
theorem Inv.fr (I : Inv X pins σ H s) : ∃ m, Fr X.base X.env.locals s.heap m :=
  let ⟨m, hn, _⟩ := I.loc
  ⟨m, hn, I.bk, Nat.le_trans I.ok.bsz I.ok.above⟩
theorem Inv.lt (I : Inv X pins σ H s) : X.env.locals < s.heap.objs.size := let ⟨_, hn, _⟩ := I.loc; hn.lt
theorem Inv.sz (I : Inv X pins σ H s) : X.s₀.heap.objs.size ≤ s.heap.objs.size := Nat.le_trans I.ok.above (Nat.le_of_lt I.lt)
theorem Inv.nofs (I : Inv X pins σ H s) {a : Addr} (h : s.heap.objs.size ≤ a) : a ∉ X.fs := fun hb => by
  obtain ⟨_, o, ho, _⟩ := I.ok.funs.mem hb
  exact absurd (Nat.lt_of_lt_of_le (Heap.lt_size ho) (Nat.le_trans I.sz h)) (Nat.lt_irrefl _)
theorem Inv.cne (I : Inv X pins σ H s) : ∀ x c, X.env.cells.lookup x = some c → c ≠ X.env.locals := fun x c e z => by
  obtain ⟨v, o, ho, hd⟩ := I.cell x c e
  obtain ⟨m, ⟨o', es, ep, ho', hd', _⟩, _⟩ := I.loc
  rw [z, ho'] at ho; cases ho; rw [hd'] at hd; cases hd
theorem Inv.funs (I : Inv X pins σ H s) : s.heap.FunFrames X.base X.outer := by
  have all : ∀ (l : List Env), (∀ b ∈ frs l, b ∈ X.fs) → X.s₀.heap.FunFrames X.base l → s.heap.FunFrames X.base l := by
    intro l
    induction l with
    | nil => intro _ _; trivial
    | cons env r ih =>
      intro hs hl
      obtain ⟨hk, ⟨L, o, hf, hn, ho, hd⟩, hr⟩ := hl
      have hL : L ∈ X.fs := hs L (by unfold frs; rw [List.filterMap_cons, hf]; exact List.mem_cons_self)
      obtain ⟨sl, e⟩ := I.base.slot L o ho (I.ok.frf L hL) hL fun z => I.ok.exfs L z hL
      exact ⟨hk, ⟨L, _, hf, hn, e, hd⟩, ih (fun b hb => hs b (by unfold frs; rw [List.filterMap_cons, hf]; exact List.mem_cons_of_mem _ hb)) hr⟩
  exact all X.outer (fun _ hb => hb) I.ok.funs

theorem Inv.stack (I : Inv X pins σ H s) : s.heap.FunFrames X.base X.stack := by
  rcases I.ok.stk with e | ⟨e, hf⟩
  · rw [e]; exact I.funs
  · rw [e]
    obtain ⟨m, hn, _⟩ := I.loc
    refine .cons (by rw [I.ok.kind]; decide) hf hn ?_ I.funs
    exact Heap.get?_none_of_le (Nat.le_trans I.ok.bsz I.ok.above)
theorem Inv.stkSub (I : Inv X pins σ H s) : ∀ b ∈ frs X.stack, b ∈ X.env.locals :: X.fs := fun b hb => by
  rcases I.ok.stk with e | ⟨e, hf⟩
  · rw [e] at hb; exact List.mem_cons_of_mem _ hb
  · rw [e] at hb
    unfold frs at hb
    rw [List.filterMap_cons, hf] at hb
    exact hb
theorem Inv.stkFree (I : Inv X pins σ H s) : ∀ b ∈ frs X.stack, H b = none := fun b hb => by
  rcases List.mem_cons.mp (I.stkSub b hb) with e | hb
  · rw [e]; exact I.free
  · obtain ⟨_, o, ho, _⟩ := I.ok.funs.mem hb
    exact I.base.free b o ho (I.ok.frf b hb) fun z => I.ok.exfs b z hb

theorem Inv.step {g' : Array GenState} {t' : Nat} {d' : Drawn} {ch : List Addr} (I : Inv X pins σ H s)
    (hch : ∀ b ∈ ch, (b ∈ X.ex ∨ X.s₀.heap.objs.size ≤ b) ∧ b ≠ X.env.locals ∧ (∀ x c, X.env.cells.lookup x = some c → c ≠ b) ∧ ∀ p ∈ X.pn ++ pins, p.1 ≠ b)
    (keep : ∀ b o, b ≠ X.env.locals → b ∉ X.fs → b ∉ ch → s.heap.get? b = some o → H b = none → h'.get? b = some o)
    (slot : ∀ b o, b ≠ X.env.locals → b ∈ X.fs → b ∉ ch → s.heap.get? b = some o → H b = none → ∃ sl, h'.get? b = some { o with slots := sl }) (free : ∀ b o, b ∉ ch → s.heap.get? b = some o → H b = none → H' b = none)
    (there : ∀ b o, b ∉ ch → s.heap.get? b = some o → ∃ o', h'.get? b = some o')
    (tups : ∀ b xs, H b = some (.tup xs) → H' b = some (.tup xs)) (frzs : ∀ b o u, H b = some (.frz o u) → H' b = some (.frz o u)) (tbls : ∀ b ps, H b = some (.tbl ps) → ∃ more, H' b = some (.tbl (ps ++ more)))
    (ns : ∀ m, s.heap.Ns X.env.locals m → h'.Ns X.env.locals m) (hok : HOk X.prog X.w H' h') (hg : AllBare g') :
    Inv X pins σ H' { s with heap := h', gens := g', drawn := d', toks := t' } := by
  have neL : ∀ b o, X.s₀.heap.get? b = some o → b ≠ X.env.locals := fun b o e => Nat.ne_of_lt (Nat.lt_of_lt_of_le (Heap.lt_size e) I.ok.above)
  have neC : ∀ b o, X.s₀.heap.get? b = some o → b ∉ X.ex → b ∉ ch := fun b o e hx hb => by
    rcases (hch b hb).1 with z | z
    · exact hx z
    · exact absurd (Nat.lt_of_lt_of_le (Heap.lt_size e) z) (Nat.lt_irrefl _)
  have cellK : ∀ x c, X.env.cells.lookup x = some c → ∀ v, s.heap.IsCell c v → h'.IsCell c v := fun x c e v ⟨o, ho, hd⟩ => by
    have nch : c ∉ ch := fun z => (hch c z).2.2.1 x c e rfl
    by_cases hc : c ∈ X.fs
    · obtain ⟨sl, q⟩ := slot c o (I.cne x c e) hc nch ho (I.freeC x c e)
      exact ⟨_, q, hd⟩
    · exact ⟨o, keep c o (I.cne x c e) hc nch ho (I.freeC x c e), hd⟩
  refine ⟨I.ok, I.os, hg, ⟨fun b o e n hb hx => ?_, fun b o e n hb hx => ?_, fun b o e n hx => ?_, fun b o e hx => ?_, fun b xs e => tups b xs (I.base.tups b xs e), fun b o xs e => frzs b o xs (I.base.frzs b o xs e), fun b ps e => ?_⟩, ?_, fun x c e => ?_, ?_, fun x c e => ?_, fun p hp => ?_, hok, I.len⟩
  · exact keep b o (neL b o e) hb (neC b o e hx) (I.base.keep b o e n hb hx) (I.base.free b o e n hx)
  · obtain ⟨sl, e1⟩ := I.base.slot b o e n hb hx
    obtain ⟨sl', e2⟩ := slot b _ (neL b o e) hb (neC b o e hx) e1 (I.base.free b o e n hx)
    exact ⟨sl', e2⟩
  · obtain ⟨o', e1⟩ := I.base.there b o e hx
    exact free b o' (neC b o e hx) e1 (I.base.free b o e n hx)
  · obtain ⟨o', e1⟩ := I.base.there b o e hx
    exact there b o' (neC b o e hx) e1
  · obtain ⟨m1, e1⟩ := I.base.tbls b ps e
    obtain ⟨m2, e2⟩ := tbls b _ e1
    exact ⟨m1 ++ m2, by rw [e2, Array.append_assoc]⟩
  · obtain ⟨m, hn, hl⟩ := I.loc
    refine ⟨m, ns m hn, fun i x v e1 e2 e3 => ?_⟩
    obtain ⟨u, r, l⟩ := hl i x v e1 e2 e3
    refine ⟨u, r, ?_⟩
    rcases l with l | ⟨k, c, e, z⟩
    · exact .inl l
    · exact .inr ⟨k, c, e, cellK x c e _ z⟩
  · obtain ⟨v, z⟩ := I.cell x c e
    exact ⟨v, cellK x c e v z⟩
  · obtain ⟨m, ⟨o, _, _, ho, _⟩, _⟩ := I.loc
    exact free _ o (fun z => (hch _ z).2.1 rfl) ho I.free
  · obtain ⟨v, o, ho, hd⟩ := I.cell x c e
    exact free c o (fun z => (hch c z).2.2.1 x c e rfl) ho (I.freeC x c e)
  · obtain ⟨e, n, ne, nf, d⟩ := I.pin p hp
    have nch : p.1 ∉ ch := fun z => (hch p.1 z).2.2.2 p hp rfl
    exact ⟨keep p.1 p.2 ne nf nch e n, free p.1 p.2 nch e n, ne, nf, d⟩
theorem Inv.un {t' : Nat} (I : Inv X pins σ H s) (u : Un X.fs [] H H' s.heap h') (hok : HOk X.prog X.w H' h') : Inv X pins σ H' { s with heap := h', toks := t' } := by
  obtain ⟨m, ⟨o, es, ep, ho, r⟩, _⟩ := id I.loc
  obtain ⟨sl, hL⟩ := u.any ho I.free (by simp)
  exact I.step (g' := s.gens) (d' := s.drawn) (ch := []) (fun _ z => nomatch z) (fun b o _ hb _ e n => u.keep b o e n hb (by simp)) (fun b o _ hb _ e n => u.slot b o e n hb (by simp)) (fun b o _ e n => u.free b o e n (by simp)) (fun b o _ e => u.there b o e (by simp)) u.tups u.frzs u.tbls (fun m' hm => by
    obtain ⟨o', es', ep', ho', r'⟩ := hm
    rw [ho] at ho'; cases ho'
    exact ⟨_, es', ep', hL, r'⟩) hok I.bare
theorem Inv.call {g' : Array GenState} {t' : Nat} {d' : Drawn} {ch : List Addr} (I : Inv X pins σ H s) (u : Un (frs X.stack) ch H H' s.heap h') (hok : HOk X.prog X.w H' h') (hg : AllBare g')
    (hch : ∀ b ∈ ch, (b ∈ X.ex ∨ X.s₀.heap.objs.size ≤ b) ∧ b ≠ X.env.locals ∧ (∀ x c, X.env.cells.lookup x = some c → c ≠ b) ∧ ∀ p ∈ X.pn ++ pins, p.1 ≠ b) :
    Inv X pins σ H' { s with heap := h', gens := g', drawn := d', toks := t' } := by
  obtain ⟨m, ⟨o, es, ep, ho, r⟩, _⟩ := id I.loc
  obtain ⟨sl, hL⟩ := u.any ho I.free fun z => (hch _ z).2.1 rfl
  exact I.step (ch := ch) hch (fun b o hL hb hc e n => u.keep b o e n (fun z => (List.mem_cons.mp (I.stkSub b z)).elim hL hb) hc) (fun b o _ _ hc e n => u.any e n hc) (fun b o hc e n => u.free b o e n hc) (fun b o hc e => u.there b o e hc) u.tups u.frzs u.tbls (fun m' hm => by
    obtain ⟨o', es', ep', ho', r'⟩ := hm
    rw [ho] at ho'; cases ho'
    exact ⟨_, es', ep', hL, r'⟩) hok hg
theorem Inv.turned {t' : Nat} {it : Addr} (I : Inv X pins σ H s) (k : ∀ b o, b ≠ it → s.heap.get? b = some o → h'.get? b = some o) (hn : H it = none) (hL : it ≠ X.env.locals)
    (h1 : it ∈ X.ex ∨ X.s₀.heap.objs.size ≤ it) (h2 : ∀ x c, X.env.cells.lookup x = some c → c ≠ it) (h3 : ∀ p ∈ X.pn ++ pins, p.1 ≠ it) : Inv X pins σ H { s with heap := h', toks := t' } := by
  have nit : ∀ b u, H b = some u → b ≠ it := fun b u e z => by rw [z, hn] at e; cases e
  refine I.step (g' := s.gens) (d' := s.drawn) (ch := [it]) (fun b hb => ?_) (fun b o _ _ hc e _ => k b o (fun z => hc (by simp [z])) e) (fun b o _ _ hc e _ => ⟨o.slots, k b o (fun z => hc (by simp [z])) e⟩) (fun _ _ _ _ n => n)
    (fun b o hc e => ⟨o, k b o (fun z => hc (by simp [z])) e⟩) (fun _ _ e => e) (fun _ _ _ e => e) (fun b ps e => ⟨#[], by rw [e]; simp⟩) (fun m hm => ?_) (fun b u e => ?_) I.bare
  · have e : b = it := by simpa using hb
    subst e
    exact ⟨h1, hL, h2, h3⟩
  · obtain ⟨o, es, ep, ho, r⟩ := hm
    exact ⟨o, es, ep, k _ o (Ne.symm hL) ho, r⟩
  · refine (I.hok b u e).stay (fun c v hc q => k c v ?_ q) (fun _ q => q) fun _ _ q => q
    rcases hc with z | z
    · rw [z]; exact nit b u e
    · exact nit c _ z
theorem Inv.tok (I : Inv X pins σ H s) (t : Nat) : Inv X pins σ H { s with toks := t } := I.un (h' := s.heap) (t' := t) Un.refl I.hok
theorem Inv.kept {t' : Nat} (I : Inv X pins σ H s) (k : ∀ b u, s.heap.get? b = some u → h'.get? b = some u) : Inv X pins σ H { s with heap := h', toks := t' } := I.un (Un.kept k) (I.hok.kept k)
theorem Inv.laid {a : Addr} {o : HO} {t' : Nat} (I : Inv X pins σ H s) (k : ∀ b u, s.heap.get? b = some u → h'.get? b = some u) (hp : s.heap.objs.size ≤ a) (new : ObjOk X.prog X.w (upd H a o) h' a o) :
    Inv X pins σ (upd H a o) { s with heap := h', toks := t' } := I.un (Un.laid k hp (I.hok.fresh hp)) (I.hok.laid k hp new)
theorem Inv.write {x e : Addr} {o : HO} {t' : Nat} (I : Inv X pins σ H s) (mu : Mut (H x)) (he : e = x ∨ H e = some (.own x)) (k : ∀ b u, b ≠ e → s.heap.get? b = some u → h'.get? b = some u) (heo : ∃ u, h'.get? e = some u)
    (new : ObjOk X.prog X.w (upd H x o) h' x o) : Inv X pins σ (upd H x o) { s with heap := h', toks := t' } := I.un (Un.write mu he k heo) (I.hok.write mu he k heo new)
theorem Inv.pins_of {pins' : List (Addr × Obj)} (I : Inv X pins σ H s) (h : ∀ p ∈ pins', s.heap.get? p.1 = some p.2 ∧ H p.1 = none ∧ p.1 ≠ X.env.locals ∧ p.1 ∉ X.fs ∧ ∀ v, p.2.data ≠ .cell v) : Inv X pins' σ H s :=
  ⟨I.ok, I.os, I.bare, I.base, I.loc, I.cell, I.free, I.freeC, fun p hp => (List.mem_append.mp hp).elim (fun z => I.pin p (List.mem_append_left _ z)) (h p), I.hok, I.len⟩

theorem nodup_ix {N : List Str} (hN : N.Nodup) {i j : Nat} {x : Str} (a : N[i]? = some x) (b : N[j]? = some x) : i = j := by
  obtain ⟨h1, e1⟩ := List.getElem?_eq_some_iff.mp a
  obtain ⟨h2, e2⟩ := List.getElem?_eq_some_iff.mp b
  exact (List.getElem_inj hN).mp (e1.trans e2.symm)

theorem store_ok2 {M : Model} {A : Around} {E : Value → Shared → Prop} {i : Nat} {x : Str} {v : V} {u : Value} {Q : Unit → Shared → Prop} (I : Inv X pins σ H s) (hN : X.N.Nodup) (hi : X.N[i]? = some x) (hx : Loc X.env.scope x) (r : RelV v u)
    (h : ∀ s', Inv X pins (σ.set i (some v)) H s' → (∃ a, Heap.SameBut a s.heap s'.heap ∧ (a = X.env.locals ∨ X.env.cells.lookup x = some a)) → Q () s') (hf : X.fn x = true ∨ X.env.scope.names.lookup x = some .local := by first | exact .inl rfl | exact .inr rfl | assumption) : wpAny M A (storeName X.env x u) Q E s := by
  obtain ⟨m, hn, hl⟩ := id I.loc
  have hcls : (X.env.scope.kind == .class || (X.env.scope.kind == .module && X.env.locals != X.env.globals)) = false := by rw [I.ok.kind]; rfl
  have hiσ : i < σ.length := by rw [I.len]; exact (List.getElem?_eq_some_iff.mp hi).1
  have cne := I.cne
  have tracked : ∀ {a : Addr} {h' : Heap}, (∃ o, s.heap.get? a = some o ∧ H a = none) → Heap.SameBut a s.heap h' → HOk X.prog X.w H h' := fun {a h'} ha hs b ob e => by
    obtain ⟨_, _, hfree⟩ := ha
    refine (I.hok b ob e).stay (fun c w' hc q => (hs.2 c ?_).trans q) (fun _ q => q) fun _ _ q => q
    rintro rfl
    rcases hc with rfl | hc
    · rw [hfree] at e; cases e
    · rw [hfree] at hc; cases hc
  rcases hx with hk | hk
  · refine wpAny_storeName_local hk hn (fun h' hn' hs => ?_) hcls
    obtain ⟨oL, _, _, hoL, _⟩ := id hn
    refine h _ ⟨I.ok, I.os, I.bare, ⟨fun b o e n hb hx => ?_, fun b o e n hb hx => ?_, I.base.free, fun b o e hx => ?_, I.base.tups, I.base.frzs, I.base.tbls⟩, ⟨_, hn', fun j y v' e1 e2 e3 => ?_⟩, fun y c e => ?_, I.free, I.freeC, fun p hp => ?_, tracked ⟨oL, hoL, I.free⟩ hs, by simpa using I.len⟩ ⟨_, hs, .inl rfl⟩
    · exact (hs.2 b (Nat.ne_of_lt (Nat.lt_of_lt_of_le (Heap.lt_size e) I.ok.above))).trans (I.base.keep b o e n hb hx)
    · obtain ⟨sl, e1⟩ := I.base.slot b o e n hb hx
      exact ⟨sl, (hs.2 b (Nat.ne_of_lt (Nat.lt_of_lt_of_le (Heap.lt_size e) I.ok.above))).trans e1⟩
    · obtain ⟨o', e1⟩ := I.base.there b o e hx
      exact ⟨o', (hs.2 b (Nat.ne_of_lt (Nat.lt_of_lt_of_le (Heap.lt_size e) I.ok.above))).trans e1⟩
    · by_cases hj : j = i
      · subst hj
        rw [hi] at e1; cases e1
        rw [List.getElem?_set_self hiσ] at e2
        cases e2
        exact ⟨u, r, .inl ⟨hk, by simp⟩⟩
      · rw [List.getElem?_set_ne (Ne.symm hj)] at e2
        obtain ⟨u', r', q⟩ := hl j y v' e1 e2 e3
        refine ⟨u', r', ?_⟩
        rcases q with ⟨k, e⟩ | ⟨k, c, e, z⟩
        · refine .inl ⟨k, ?_⟩
          have : y ≠ x := fun e => hj (nodup_ix hN e1 (e ▸ hi))
          simp [this, e]
        · exact .inr ⟨k, c, e, z.sameBut hs (cne y c e)⟩
    · obtain ⟨w', z⟩ := I.cell y c e
      exact ⟨w', z.sameBut hs (cne y c e)⟩
    · obtain ⟨e, n, ne, nf, d⟩ := I.pin p hp
      exact ⟨(hs.2 p.1 ne).trans e, n, ne, nf, d⟩
  · have hfn : X.fn x = true := by
      rcases hf with z | z
      · exact z
      · rw [z] at hk; cases hk
    obtain ⟨c, hc⟩ := I.ok.has x (.inl hk)
    obtain ⟨w', z⟩ := I.cell x c hc
    refine wpAny_storeName_cell I.ok.kind hk hc z (fun h' hc' hs => ?_)
    obtain ⟨oc, hoc, hocd⟩ := id z
    refine h { s with heap := h' } ⟨I.ok, I.os, I.bare, ⟨fun b o e n hb hx => ?_, fun b o e n hb hx => ?_, I.base.free, fun b o e hx => ?_, I.base.tups, I.base.frzs, I.base.tbls⟩, ⟨m, hn.sameBut hs (Ne.symm (cne x c hc)), fun j y v' e1 e2 e3 => ?_⟩, fun y c' e => ?_, I.free, I.freeC, fun p hp => ?_, tracked ⟨oc, hoc, I.freeC x c hc⟩ hs, by simpa using I.len⟩ ⟨c, hs, .inr hc⟩
    · exact (hs.2 b (Nat.ne_of_lt (Nat.lt_of_lt_of_le (Heap.lt_size e) (I.ok.cab x c hfn hc)))).trans (I.base.keep b o e n hb hx)
    · obtain ⟨sl, e1⟩ := I.base.slot b o e n hb hx
      exact ⟨sl, (hs.2 b (Nat.ne_of_lt (Nat.lt_of_lt_of_le (Heap.lt_size e) (I.ok.cab x c hfn hc)))).trans e1⟩
    · obtain ⟨o', e1⟩ := I.base.there b o e hx
      exact ⟨o', (hs.2 b (Nat.ne_of_lt (Nat.lt_of_lt_of_le (Heap.lt_size e) (I.ok.cab x c hfn hc)))).trans e1⟩
    · by_cases hj : j = i
      · subst hj
        rw [hi] at e1; cases e1
        rw [List.getElem?_set_self hiσ] at e2
        cases e2
        exact ⟨u, r, .inr ⟨.inl hk, c, hc, hc'⟩⟩
      · rw [List.getElem?_set_ne (Ne.symm hj)] at e2
        obtain ⟨u', r', q⟩ := hl j y v' e1 e2 e3
        refine ⟨u', r', ?_⟩
        rcases q with q | ⟨k, c', e, z'⟩
        · exact .inl q
        · refine .inr ⟨k, c', e, z'.sameBut hs ?_⟩
          rintro rfl
          exact hj (nodup_ix hN e1 (I.ok.inj _ _ _ e hc ▸ hi))
    · by_cases hcc : c' = c
      · subst hcc; exact ⟨_, hc'⟩
      · obtain ⟨w2, z2⟩ := I.cell y c' e
        exact ⟨w2, z2.sameBut hs hcc⟩
    · obtain ⟨e, n, ne, nf, d⟩ := I.pin p hp
      refine ⟨(hs.2 p.1 ?_).trans e, n, ne, nf, d⟩
      intro q
      rw [q, hoc] at e
      have q' : oc = p.2 := Option.some.inj e
      exact d w' (by rw [← q']; exact hocd)
theorem store_ok {M : Model} {A : Around} {E : Value → Shared → Prop} {i : Nat} {x : Str} {v : V} {u : Value} {Q : Unit → Shared → Prop} (I : Inv X pins σ H s) (hN : X.N.Nodup) (hi : X.N[i]? = some x) (hx : Loc X.env.scope x) (r : RelV v u)
    (h : ∀ s', Inv X pins (σ.set i (some v)) H s' → Q () s') (hf : X.fn x = true ∨ X.env.scope.names.lookup x = some .local := by first | exact .inl rfl | exact .inr rfl | assumption) : wpAny M A (storeName X.env x u) Q E s :=
  store_ok2 I hN hi hx r (fun s' I' _ => h s' I') hf
theorem Inv.call' {s' : Shared} {ch : List Addr} (I : Inv X pins σ H s) (ho : s'.os = s.os) (u : Un (frs X.stack) ch H H' s.heap s'.heap) (hok : HOk X.prog X.w H' s'.heap) (hg : AllBare s'.gens)
    (hch : ∀ b ∈ ch, (b ∈ X.ex ∨ X.s₀.heap.objs.size ≤ b) ∧ b ≠ X.env.locals ∧ (∀ x c, X.env.cells.lookup x = some c → c ≠ b) ∧ ∀ p ∈ X.pn ++ pins, p.1 ≠ b) : Inv X pins σ H' s' := by
  obtain ⟨h', g', d', t', o'⟩ := s'
  have e : o' = s.os := ho
  subst e
  exact I.call (g' := g') (t' := t') (d' := d') u hok hg hch
end

abbrev XK := Value → Option Addr → Hp → Prop
abbrev St := List (Option V)
abbrev VK := V → Hp → Prop
abbrev TE := St → Hp → VK → Prop
abbrev TT := St → Hp → (Bool → Hp → Prop) → Prop
abbrev TA := St → Hp → (List V → Hp → Prop) → Prop
structure Ends where
  nx : St → Hp → Prop
  rt : VK
  bk : St → Hp → Prop := fun _ _ => False
  ct : St → Hp → Prop := fun _ _ => False
abbrev TS := Ends → St → Hp → Prop

def EP (X : Cx) (pins : List (Addr × Obj)) (σ : St) (Q : VK) (u : Value) (s' : Shared) : Prop := ∃ v H', Inv X pins σ H' s' ∧ RelV v u ∧ Q v H'
def TP (X : Cx) (pins : List (Addr × Obj)) (σ : St) (Q : Bool → Hp → Prop) (b : Bool) (s' : Shared) : Prop := ∃ H', Inv X pins σ H' s' ∧ Q b H'
def AP (X : Cx) (pins : List (Addr × Obj)) (σ : St) (Q : List V → Hp → Prop) (us : List Value) (s' : Shared) : Prop := ∃ vs H', Inv X pins σ H' s' ∧ Vals vs us ∧ Q vs H'
def SP (X : Cx) (pins : List (Addr × Obj)) (D : Ends) (f : Flow) (s' : Shared) : Prop :=
  match f with
  | .next => ∃ σ' H', Inv X pins σ' H' s' ∧ D.nx σ' H'
  | .brk => ∃ σ' H', Inv X pins σ' H' s' ∧ D.bk σ' H'
  | .cont => ∃ σ' H', Inv X pins σ' H' s' ∧ D.ct σ' H'
  | .ret u => ∃ v σ' H', Inv X pins σ' H' s' ∧ RelV v u ∧ D.rt v H'

def PE (X : Cx) (e : Expr) (t : TE) : Prop :=
  ∀ (pins : List (Addr × Obj)) (s : Shared) (σ : St) (H : Hp) (Q : VK), Inv X pins σ H s → t σ H Q → wpAny (model X.prog X.w) X.A (eval e X.env) (EP X pins σ Q) X.xe s
def PT (X : Cx) (e : Expr) (t : TT) : Prop :=
  ∀ (pins : List (Addr × Obj)) (s : Shared) (σ : St) (H : Hp) (Q : Bool → Hp → Prop), Inv X pins σ H s → t σ H Q → wpAny (model X.prog X.w) X.A (isTrue e X.env (eval e X.env)) (TP X pins σ Q) X.xe s
def PW (X : Cx) (e : Expr) (t : TT) : Prop :=
  ∀ (whole : Sem Value) (pins : List (Addr × Obj)) (s : Shared) (σ : St) (H : Hp) (Q : Bool → Hp → Prop), Inv X pins σ H s → t σ H Q → wpAny (model X.prog X.w) X.A (isTrue e X.env whole) (TP X pins σ Q) X.xe s
theorem PW.pt {X : Cx} {e : Expr} {t : TT} (h : PW X e t) : PT X e t := h _
def PA (X : Cx) (es : List Expr) (t : TA) : Prop :=
  ∀ (pos : Pos) (pins : List (Addr × Obj)) (s : Shared) (σ : St) (H : Hp) (Q : List V → Hp → Prop), Inv X pins σ H s → t σ H Q → wpAny (model X.prog X.w) X.A (spliced (backTo pos (starEach es X.env))) (AP X pins σ Q) X.xe s
def PS (X : Cx) (st : Stmt) (t : TS) : Prop :=
  ∀ (pins : List (Addr × Obj)) (s : Shared) (σ : St) (H : Hp) (D : Ends), Inv X pins σ H s → t D σ H → wpAny (model X.prog X.w) X.A (exec st X.env) (SP X pins D) X.xe s
def PSs (X : Cx) (st : List Stmt) (t : TS) : Prop :=
  ∀ (pins : List (Addr × Obj)) (s : Shared) (σ : St) (H : Hp) (D : Ends), Inv X pins σ H s → t D σ H → wpAny (model X.prog X.w) X.A (execs st X.env) (SP X pins D) X.xe s
theorem thn {α : Type} {t : Sem α} {Q Q' : α → Shared → Prop} {M : Model} {A : Around} {E : Value → Shared → Prop} {s : Shared} (h : wpAny M A t Q E s) (hQ : ∀ a s, Q a s → Q' a s) : wpAny M A t Q' E s := wpAny_mono h hQ fun _ _ x => x
end L2

namespace L2
open PySem PySem.Spec PyProof.Rows
section
variable {X : Cx}

def tVar (i : Nat) : TE := fun σ H Q => ∃ v, σ[i]? = some (some v) ∧ Q v H
def tC (v : V) : TE := fun _ H Q => Q v H
theorem pe_var {i : Nat} {x : Str} {pos : Pos} (hN : X.N[i]? = some x) (hv : Vis X.env.scope x) (hd : (x == ("__debug__" : Str)) = false := by decide) (hcd : (x == ("__classdict__" : Str)) = false := by decide) : PE X (.Name x pos) (tVar i) := by
  intro pins s σ H Q I h
  obtain ⟨v, e, h⟩ := h
  obtain ⟨m, hn, hl⟩ := I.loc
  obtain ⟨u, r, l⟩ := hl i x v hN e hv
  have fin : EP X pins σ Q u s := ⟨v, H, I, r, h⟩
  rcases l with ⟨hk, hm⟩ | ⟨hk, c, hc, hcell⟩
  · exact wpAny_Name (wpAny_loadName_local I.ok.kind hk hn hm fin) hd
  · rcases hk with hk | hk
    · exact wpAny_Name (wpAny_loadName_cell I.ok.kind hk hc hcell fin) hd
    · exact wpAny_Name (wpAny_loadName_free I.ok.kind hk hc hcell fin hcd) hd
theorem pe_int {i j pos} : PE X (.Constant (.int i) j pos) (tC (.int i)) := fun _ _ _ H _ I h => wpAny_Constant_int ⟨.int i, H, I.tok _, ⟨_, rfl⟩, h⟩
theorem pe_bl {b j pos} : PE X (.Constant (.bool b) j pos) (tC (.bl b)) := fun _ _ _ H _ I h => Constant_bool ⟨.bl b, H, I, rfl, h⟩
theorem pe_non {j pos} : PE X (.Constant .none j pos) (tC .non) := fun _ _ _ H _ I h => Constant_none ⟨.non, H, I, rfl, h⟩
theorem pe_str {x j pos} : PE X (.Constant (.str x) j pos) (tC (.str x)) := fun _ _ _ H _ I h => Calls.Constant_str ⟨.str x, H, I.tok _, ⟨_, rfl⟩, h⟩

def Gl (X : Cx) (x : Str) : Prop := X.env.kindOf x = some .globalImplicit
theorem ld_glob {E : Value → Shared → Prop} {pins : List (Addr × Obj)} {s : Shared} {σ : St} {H : Hp} {x : Str} {u : Value} {pos : Pos} {Q : Value → Shared → Prop} (I : Inv X pins σ H s) (hg : Gl X x) (hm : X.mg x = some u) (h : Q u s)
    (hd : (x == ("__debug__" : Str)) = false := by decide) : wpAny (model X.prog X.w) X.A (eval (.Name x pos) X.env) Q E s :=
  Calls.Name_function_global I.ok.kind hg (Calls.loadGlobal_global (by rw [I.ok.glob]; exact I.mod.glob.keeps I.bk) hm h) hd
theorem ld_blt {E : Value → Shared → Prop} {pins : List (Addr × Obj)} {s : Shared} {σ : St} {H : Hp} {x : Str} {u : Value} {pos : Pos} {Q : Value → Shared → Prop} (I : Inv X pins σ H s) (hg : Gl X x) (hm : X.mg x = none) (hv : bootBuiltins x = some u) (h : Q u s)
    (hn : x ≠ "__name__" := by decide) (hd : (x == ("__debug__" : Str)) = false := by decide) : wpAny (model X.prog X.w) X.A (eval (.Name x pos) X.env) Q E s := by
  obtain ⟨mb, h1, h2⟩ := I.mod.blt
  exact Calls.Name_function_global I.ok.kind hg (Calls.loadGlobal_builtin (by rw [I.ok.glob]; exact I.mod.glob.keeps I.bk) hm (by rw [I.ok.blt]; exact h1.keeps I.bk) ((h2 x hn).trans hv) h) hd
theorem pe_glob {x : Str} {v : V} {u : Value} {pos : Pos} (hg : Gl X x) (hm : X.mg x = some u) (r : RelV v u) (hd : (x == ("__debug__" : Str)) = false := by decide) : PE X (.Name x pos) (tC v) :=
  fun _ _ _ H _ I h => ld_glob I hg hm ⟨v, H, I, r, h⟩ hd
theorem pe_bltn {x : Str} {v : V} {u : Value} {pos : Pos} (hg : Gl X x) (hm : X.mg x = none) (hv : bootBuiltins x = some u) (r : RelV v u) (hn : x ≠ "__name__" := by decide) (hd : (x == ("__debug__" : Str)) = false := by decide) : PE X (.Name x pos) (tC v) :=
  fun _ _ _ H _ I h => ld_blt I hg hm hv ⟨v, H, I, r, h⟩ hn hd

variable {a b : Expr} {ta tb : TE} {pos : Pos}
def PC (X : Cx) (op : CmpOp) (a b : Expr) (t : TE) : Prop :=
  ∀ (pins : List (Addr × Obj)) (s : Shared) (σ : St) (H : Hp) (Q : VK), Inv X pins σ H s → t σ H Q →
    wpAny (model X.prog X.w) X.A (eval a X.env) (fun v s₁ => wpAny (model X.prog X.w) X.A (eval b X.env) (fun u s₂ => wpAny (model X.prog X.w) X.A (compareOp op v u) (EP X pins σ Q) X.xe s₂) X.xe s₁) X.xe s
theorem nobehind (b : Expr) {op : CmpOp} (h : op ≠ .In) (h2 : op ≠ .NotIn) : behindInMarks op b = false := by
  have e1 : (op == CmpOp.In) = false := by cases op <;> first | rfl | exact absurd rfl h
  have e2 : (op == CmpOp.NotIn) = false := by cases op <;> first | rfl | exact absurd rfl h2
  cases b <;> simp [behindInMarks, e1, e2]
def tIsN (ta : TE) : TE := fun σ H Q => ta σ H fun x H1 => Q (.bl (decide (x = .non))) H1
def tNotN (ta : TE) : TE := fun σ H Q => ta σ H fun x H1 => Q (.bl (!decide (x = .non))) H1
theorem RelV.none_iff {x : V} {v : Value} (r : RelV x v) : (v == Value.none) = decide (x = .non) := by
  cases x with
  | non => cases r; rfl
  | bl _ => cases r; rfl
  | int _ => obtain ⟨t, rfl⟩ := r; rfl
  | str _ => obtain ⟨t, rfl⟩ := r; rfl
  | byt _ => obtain ⟨t, rfl⟩ := r; rfl
  | flt _ => obtain ⟨t, rfl⟩ := r; rfl
  | ref _ => cases r; rfl
  | ty _ => cases r; rfl
theorem pc_isN {j pos'} (ha : PE X a ta) : PC X .Is a (.Constant .none j pos') (tIsN ta) := by
  intro pins s σ H Q I h
  refine thn (ha pins s σ H _ I h) fun v s1 ⟨x, H1, I1, r1, q1⟩ => ?_
  exact Constant_none (is_none_gen ⟨.bl _, H1, I1, by rw [r1.none_iff]; rfl, q1⟩)
theorem pc_notN {j pos'} (ha : PE X a ta) : PC X .IsNot a (.Constant .none j pos') (tNotN ta) := by
  intro pins s σ H Q I h
  refine thn (ha pins s σ H _ I h) fun v s1 ⟨x, H1, I1, r1, q1⟩ => ?_
  exact Constant_none (isnot_none_gen ⟨.bl _, H1, I1, by rw [r1.none_iff]; rfl, q1⟩)
def tB (t : TE) : TT := fun σ H Q => t σ H fun x H1 => ∃ c, x = .bl c ∧ Q c H1
theorem pe_cmp {op : CmpOp} {t : TE} (h : PC X op a b t) (h1 : behindInMarks op b = false := by first | exact nobehind _ (by decide) (by decide) | rfl) : PE X (.Compare a [op] [b] pos) t := fun pins s σ H Q I hw => wpAny_Compare1 (h pins s σ H Q I hw) h1
theorem pt_cmp {op : CmpOp} {t : TE} (h : PC X op a b t) (h1 : behindInMarks op b = false := by first | exact nobehind _ (by decide) (by decide) | rfl) : PT X (.Compare a [op] [b] pos) (tB t) := by
  intro pins s σ H Q I hw
  refine wpAny_isTrue_Compare1 (thn (h pins s σ H _ I hw) fun v s1 h1 => thn h1 fun u s2 h2 => thn h2 fun c s3 ⟨x, H1, I1, r1, q1⟩ => ?_) h1
  obtain ⟨d, rfl, q⟩ := q1
  cases r1
  exact wpAny_truthy_bool ⟨H1, I1, q⟩
theorem pt_val {e : Expr} {t : TE} (h : PE X e t) (he : ∀ whole, isTrue e X.env whole = (do let v ← whole; standAt e.pos; holding [v] (truthy v)) := by intro _; rfl) : PT X e (tB t) := by
  intro pins s σ H Q I hw
  refine isTrue_plain (thn (h pins s σ H _ I hw) fun v s1 ⟨x, H1, I1, r1, q1⟩ => ?_) (he _)
  obtain ⟨d, rfl, q⟩ := q1
  cases r1
  exact wpAny_truthy_bool ⟨H1, I1, q⟩

variable {tA tB' : TT} {rest : List Expr}
def tAnd (t u : TT) : TT := fun σ H Q => t σ H fun c H1 => if c = true then u σ H1 Q else Q false H1
def tOr (t u : TT) : TT := fun σ H Q => t σ H fun c H1 => if c = true then Q true H1 else u σ H1 Q
def tNot (t : TT) : TT := fun σ H Q => t σ H fun c H1 => Q (!c) H1
theorem pw_and1 (ha : PT X a tA) : PW X (.BoolOp .And [a] pos) tA := by
  intro wh pins s σ H Q I h
  refine isTrue_and (thn (ha pins s σ H Q I h) fun c s1 e => ?_)
  cases c with
  | true => exact isTrue_and_nil e
  | false => exact e
theorem pw_or1 (ha : PT X a tA) : PW X (.BoolOp .Or [a] pos) tA := by
  intro wh pins s σ H Q I h
  refine isTrue_or (thn (ha pins s σ H Q I h) fun c s1 e => ?_)
  cases c with
  | false => exact isTrue_or_nil e
  | true => exact e
theorem pw_and (ha : PT X a tA) (hb : PW X (.BoolOp .And (b :: rest) pos) tB') : PW X (.BoolOp .And (a :: b :: rest) pos) (tAnd tA tB') := by
  intro wh pins s σ H Q I h
  refine isTrue_and (thn (ha pins s σ H _ I h) fun c s1 ⟨H1, I1, q1⟩ => ?_)
  cases c with
  | true => exact hb wh pins s1 σ H1 Q I1 q1
  | false => exact ⟨H1, I1, q1⟩
theorem pw_or (ha : PT X a tA) (hb : PW X (.BoolOp .Or (b :: rest) pos) tB') : PW X (.BoolOp .Or (a :: b :: rest) pos) (tOr tA tB') := by
  intro wh pins s σ H Q I h
  refine isTrue_or (thn (ha pins s σ H _ I h) fun c s1 ⟨H1, I1, q1⟩ => ?_)
  cases c with
  | true => exact ⟨H1, I1, q1⟩
  | false => exact hb wh pins s1 σ H1 Q I1 q1
theorem pt_not (ha : PT X a tA) : PT X (.UnaryOp .Not a pos) (tNot tA) := by
  intro pins s σ H Q I h
  exact isTrue_not (ha pins s σ H (fun c H1 => Q (!c) H1) I h)
def tAndV (ta tb : TE) : TE := fun σ H Q => ta σ H fun x H1 => ∃ c, x = .bl c ∧ if c = true then tb σ H1 Q else Q (.bl false) H1
def tOrV (ta tb : TE) : TE := fun σ H Q => ta σ H fun x H1 => ∃ c, x = .bl c ∧ if c = true then Q (.bl true) H1 else tb σ H1 Q
def tNotV (ta : TE) : TE := fun σ H Q => ta σ H fun x H1 => ∃ c, x = .bl c ∧ Q (.bl (!c)) H1
theorem pe_one {op} {t : TE} (h : PE X a t) : PE X (.BoolOp op [a] pos) t := fun pins s σ H Q I hw => BoolOp_one (h pins s σ H Q I hw)
theorem pe_and (ha : PE X a ta) (hb : PE X (.BoolOp .And (b :: rest) pos) tb) : PE X (.BoolOp .And (a :: b :: rest) pos) (tAndV ta tb) := by
  intro pins s σ H Q I h
  refine BoolOp_and (thn (ha pins s σ H _ I h) fun v s1 ⟨x, H1, I1, r1, q1⟩ => ?_)
  obtain ⟨c, rfl, q1⟩ := q1
  cases r1
  refine wpAny_truthy_bool ?_
  cases c with
  | true => exact hb pins s1 σ H1 Q I1 q1
  | false => exact ⟨.bl false, H1, I1, rfl, q1⟩
theorem pe_or (ha : PE X a ta) (hb : PE X (.BoolOp .Or (b :: rest) pos) tb) : PE X (.BoolOp .Or (a :: b :: rest) pos) (tOrV ta tb) := by
  intro pins s σ H Q I h
  refine BoolOp_or (thn (ha pins s σ H _ I h) fun v s1 ⟨x, H1, I1, r1, q1⟩ => ?_)
  obtain ⟨c, rfl, q1⟩ := q1
  cases r1
  refine wpAny_truthy_bool ?_
  cases c with
  | false => exact hb pins s1 σ H1 Q I1 q1
  | true => exact ⟨.bl true, H1, I1, rfl, q1⟩
theorem pe_not (ha : PE X a ta) : PE X (.UnaryOp .Not a pos) (tNotV ta) := by
  intro pins s σ H Q I h
  refine UnaryOp_ (thn (ha pins s σ H _ I h) fun v s1 ⟨x, H1, I1, r1, q1⟩ => ?_)
  obtain ⟨c, rfl, q1⟩ := q1
  cases r1
  exact not_of (wpAny_truthy_bool ⟨.bl (!c), H1, I1, rfl, q1⟩)
end
end L2

namespace L2
open PySem PySem.Spec PyProof.Rows

def SqL (K : PySem.W.Frag) (H : Hp) (a : Addr) (xs : List V) : Prop :=
  Rd H a (.lst xs) ∨
    ∃ (o : Obj) (its : Array Value) (n : Nat), K.lookup a = some o ∧ o.cls = .type "list" ∧ o.dict = none ∧ o.data = .seq its n ∧ its.size ≤ sizeLine ∧ Vals xs its.toList
def SqT (K : PySem.W.Frag) (H : Hp) (a : Addr) (xs : List V) : Prop :=
  Rd H a (.tup xs) ∨
    ∃ (o : Obj) (its : Array Value) (n : Nat), K.lookup a = some o ∧ o.cls = .type "tuple" ∧ o.data = .seq its n ∧ its.size ≤ sizeLine ∧ Vals xs its.toList
def absV : Value → Option V
  | .none => some .non
  | .bool b => some (.bl b)
  | .int i _ => some (.int i)
  | .str x _ => some (.str x)
  | .bytes b _ => some (.byt b)
  | .float b _ => some (.flt b)
  | .ref a => some (.ref a)
  | .type n => some (.ty n)
  | _ => none
theorem RelV.abs {x : V} {u : Value} (r : RelV x u) : absV u = some x := by
  cases x with
  | non => cases r; rfl
  | bl _ => cases r; rfl
  | int _ => obtain ⟨t, rfl⟩ := r; rfl
  | str _ => obtain ⟨t, rfl⟩ := r; rfl
  | byt _ => obtain ⟨t, rfl⟩ := r; rfl
  | flt _ => obtain ⟨t, rfl⟩ := r; rfl
  | ref _ => cases r; rfl
  | ty _ => cases r; rfl
theorem RelV.inj {x y : V} {u : Value} (r : RelV x u) (q : RelV y u) : x = y := Option.some.inj (r.abs.symm.trans q.abs)
theorem Vals.inj : ∀ {xs ys : List V} {us : List Value}, Vals xs us → Vals ys us → xs = ys
  | _, _, _, .nil, .nil => rfl
  | _, _, _, .cons r t, .cons r' t' => by rw [r.inj r', Vals.inj t t']
section
variable {X : Cx} {pins : List (Addr × Obj)} {σ : St} {H : Hp} {s : Shared} {a : Addr} {xs ys : List V}
theorem SqL.of {K : PySem.W.Frag} (h : H a = some (.lst xs)) : SqL K H a xs := .inl (.inl h)
theorem SqT.of {K : PySem.W.Frag} (h : H a = some (.tup xs)) : SqT K H a xs := .inl (.inl h)
theorem Inv.list (I : Inv X pins σ H s) (h : SqL X.K H a xs) : ∃ its : List Value, Vals xs its ∧ PlainL s.heap a its.toArray ∧ xs.length ≤ sizeLine := by
  rcases h with h | ⟨o, its, n, hk, hc, hd, hs, hz, r⟩
  · obtain ⟨z, its, n, r, e⟩ := h.ok I.hok
    exact ⟨its, r, ⟨_, n, e, rfl, rfl, rfl⟩, z⟩
  · refine ⟨its.toList, r, ⟨o, n, I.kIn a o hk, hc, hd, by simpa using hs⟩, ?_⟩
    have e := r.length
    simp only [Array.length_toList] at e
    omega
theorem Inv.tuple (I : Inv X pins σ H s) (h : SqT X.K H a xs) : ∃ its : List Value, Vals xs its ∧ IsTup s.heap a its.toArray ∧ xs.length ≤ sizeLine := by
  rcases h with h | ⟨o, its, n, hk, hc, hs, hz, r⟩
  · obtain ⟨z, its, r, p⟩ := h.ok I.hok
    exact ⟨its, r, p, z⟩
  · refine ⟨its.toList, r, ⟨o, I.kIn a o hk, hc, n, by simpa using hs⟩, ?_⟩
    have e := r.length
    simp only [Array.length_toList] at e
    omega
theorem Inv.list_inj (I : Inv X pins σ H s) (h : SqL X.K H a xs) (h' : SqL X.K H a ys) : xs = ys := by
  obtain ⟨its, r, ⟨o, n, e, _, _, d⟩, _⟩ := I.list h
  obtain ⟨its', r', ⟨o', n', e', _, _, d'⟩, _⟩ := I.list h'
  rw [e] at e'; cases e'
  rw [d] at d'
  injection d' with d1 _
  have : its = its' := by simpa using congrArg Array.toList d1
  subst this
  exact r.inj r'
theorem Inv.tuple_inj (I : Inv X pins σ H s) (h : SqT X.K H a xs) (h' : SqT X.K H a ys) : xs = ys := by
  obtain ⟨its, r, ⟨o, e, _, n, d⟩, _⟩ := I.tuple h
  obtain ⟨its', r', ⟨o', e', _, n', d'⟩, _⟩ := I.tuple h'
  rw [e] at e'; cases e'
  rw [d] at d'
  injection d' with d1 _
  have : its = its' := by simpa using congrArg Array.toList d1
  subst this
  exact r.inj r'
end

abbrev Cx.wish (X : Cx) (E : Value → Shared → Prop) : Cx := { X with xe := E }
abbrev Cx.nox (X : Cx) : Cx := X.wish fun _ _ => False
theorem Cx.Ok.wish {X : Cx} (ok : X.Ok) (E : Value → Shared → Prop) : (X.wish E).Ok :=
  ⟨ok.mod, ok.kind, ok.glob, ok.blt, ok.above, ok.inj, ok.has, ok.cab, ok.hd, ok.frames, ok.stk, ok.exf, ok.bs, ok.bsz, ok.noex, ok.exfs, ok.funs, ok.frf⟩
theorem Cx.Ok.unwish {X : Cx} {E : Value → Shared → Prop} (ok : (X.wish E).Ok) : X.Ok :=
  ⟨ok.mod, ok.kind, ok.glob, ok.blt, ok.above, ok.inj, ok.has, ok.cab, ok.hd, ok.frames, ok.stk, ok.exf, ok.bs, ok.bsz, ok.noex, ok.exfs, ok.funs, ok.frf⟩
section
variable {X : Cx} {pins : List (Addr × Obj)} {σ : St} {H : Hp} {s : Shared} {E : Value → Shared → Prop}
theorem Inv.wish (I : Inv X pins σ H s) (E : Value → Shared → Prop) : Inv (X.wish E) pins σ H s := ⟨I.ok.wish E, I.os, I.bare, I.base, I.loc, I.cell, I.free, I.freeC, I.pin, I.hok, I.len⟩
theorem Inv.unwish (I : Inv (X.wish E) pins σ H s) : Inv X pins σ H s := ⟨I.ok.unwish, I.os, I.bare, I.base, I.loc, I.cell, I.free, I.freeC, I.pin, I.hok, I.len⟩
theorem SP.unwish {D : Ends} {f : Flow} {s' : Shared} (h : SP (X.wish E) pins D f s') : SP X pins D f s' := by
  cases f with
  | next => obtain ⟨σ', H', I, q⟩ := h; exact ⟨σ', H', I.unwish, q⟩
  | brk => obtain ⟨σ', H', I, q⟩ := h; exact ⟨σ', H', I.unwish, q⟩
  | cont => obtain ⟨σ', H', I, q⟩ := h; exact ⟨σ', H', I.unwish, q⟩
  | ret u => obtain ⟨v, σ', H', I, r, q⟩ := h; exact ⟨v, σ', H', I.unwish, r, q⟩
theorem PE.nox {e : Expr} {t : TE} (h : PE X.nox e t) : PE X e t := fun pins s σ H Q I hw =>
  wpAny_mono (h pins s σ H Q (I.wish _) hw) (fun _ _ ⟨v, H', I', r, q⟩ => ⟨v, H', I'.unwish, r, q⟩) fun _ _ z => False.elim z
theorem PT.nox {e : Expr} {t : TT} (h : PT X.nox e t) : PT X e t := fun pins s σ H Q I hw =>
  wpAny_mono (h pins s σ H Q (I.wish _) hw) (fun _ _ ⟨H', I', q⟩ => ⟨H', I'.unwish, q⟩) fun _ _ z => False.elim z
theorem PSs.nox {st : List Stmt} {t : TS} (h : PSs X.nox st t) : PSs X st t := fun pins s σ H D I hw =>
  wpAny_mono (h pins s σ H D (I.wish _) hw) (fun _ _ q => q.unwish) fun _ _ z => False.elim z
end

section
variable {X : Cx} {st : Stmt} {rest : List Stmt} {t u : TS} {e : Expr} {te : TE} {pos : Pos}
def tNext : TS := fun D σ H => D.nx σ H
def tSeq (t u : TS) : TS := fun D σ H => t { D with nx := u D } σ H
theorem pss_nil : PSs X [] tNext := fun _ _ σ H _ I h => wpAny_execs_nil ⟨σ, H, I, h⟩
theorem pss_cons (h1 : PS X st t) (h2 : PSs X rest u) : PSs X (st :: rest) (tSeq t u) := by
  intro pins s σ H D I h
  refine wpAny_execs_cons (thn (h1 pins s σ H { D with nx := u D } I h) fun f s1 q => ?_)
  cases f with
  | next =>
    obtain ⟨σ', H', I', q⟩ := q
    exact h2 pins s1 σ' H' D I' q
  | ret v => exact q
  | brk => exact q
  | cont => exact q
theorem pss_one (h1 : PS X st t) : PSs X [st] t := by
  intro pins s σ H D I h
  refine wpAny_execs_cons (thn (h1 pins s σ H D I h) fun f s1 q => ?_)
  cases f with
  | next => exact wpAny_execs_nil q
  | ret v => exact q
  | brk => exact q
  | cont => exact q
theorem Inv.quiet {pins : List (Addr × Obj)} {σ : St} {H : Hp} {s : Shared} (I : Inv X pins σ H s) : interactive X.env = false := by simp [interactive, I.ok.kind]
def tDrop (te : TE) : TS := fun D σ H => te σ H fun _ H1 => D.nx σ H1
theorem ps_expr (he : PE X e te) (hs : swapsWith e none pos.line X.env = pure false := by rfl) : PS X (.Expr e pos) (tDrop te) := by
  intro pins s σ H D I h
  exact wpAny_Expr_any (thn (he pins s σ H _ I h) fun v s1 ⟨x, H1, I1, r1, q1⟩ => ⟨σ, H1, I1, q1⟩) I.quiet hs
def tRet (te : TE) : TS := fun D σ H => te σ H D.rt
theorem ps_ret (he : PE X e te) : PS X (.Return (some e) pos) (tRet te) := by
  intro pins s σ H D I h
  exact wpAny_Return_some (thn (he pins s σ H _ I h) fun v s1 ⟨x, H1, I1, r1, q1⟩ => ⟨x, σ, H1, I1, r1, q1⟩)
def tIfS (c : TT) (t u : TS) : TS := fun D σ H => c σ H fun b H1 => if b = true then t D σ H1 else u D σ H1
theorem ps_if {c : Expr} {a b : List Stmt} {tc : TT} (hc : PT X c tc) (ha : PSs X a t) (hb : PSs X b u) : PS X (.If c a b pos) (tIfS tc t u) := by
  intro pins s σ H D I h
  refine wpAny_If (thn (hc pins s σ H _ I h) fun d s1 ⟨H1, I1, q1⟩ => ?_)
  cases d with
  | true => exact ha pins s1 σ H1 D I1 q1
  | false => exact hb pins s1 σ H1 D I1 q1
end

abbrev TG := V → St → Hp → (St → Hp → Prop) → Prop
abbrev TGs := List V → St → Hp → (St → Hp → Prop) → Prop
def PG (X : Cx) (target : Expr) (t : TG) : Prop :=
  ∀ (pins : List (Addr × Obj)) (s : Shared) (σ : St) (H : Hp) (v : V) (u : Value) (Q : St → Hp → Prop), Inv X pins σ H s → RelV v u → t v σ H Q →
    wpAny (model X.prog X.w) X.A (assign target X.env u) (fun _ s' => ∃ σ' H', Inv X pins σ' H' s' ∧ Q σ' H') X.xe s
def PGs (X : Cx) (ts : List Expr) (t : TGs) : Prop :=
  ∀ (pins : List (Addr × Obj)) (s : Shared) (σ : St) (H : Hp) (vs : List V) (us : List Value) (Q : St → Hp → Prop), Inv X pins σ H s → Vals vs us → t vs σ H Q →
    wpAny (model X.prog X.w) X.A (assignInOrder ((assignEach ts X.env).map (·.2)) us) (fun _ s' => ∃ σ' H', Inv X pins σ' H' s' ∧ Q σ' H') X.xe s
abbrev TSet := V → V → V → Hp → (Hp → Prop) → Prop
def PSet (X : Cx) (t : TSet) : Prop :=
  ∀ (pins : List (Addr × Obj)) (s : Shared) (σ : St) (H : Hp) (o i v : V) (ov iv u : Value) (Q : Hp → Prop), Inv X pins σ H s → RelV o ov → RelV i iv → RelV v u → t o i v H Q →
    wpAny (model X.prog X.w) X.A (setItem ov iv u) (fun _ s' => ∃ H', Inv X pins σ H' s' ∧ Q H') X.xe s
abbrev TIp := V → V → Hp → VK → Prop
section
variable {X : Cx} {pos : Pos}
def gName (i : Nat) : TG := fun v σ H Q => Q (σ.set i (some v)) H
theorem pg_name {i : Nat} {x : Str} (hN : X.N.Nodup) (hi : X.N[i]? = some x) (hx : Loc X.env.scope x) (hf : X.fn x = true ∨ X.env.scope.names.lookup x = some .local := by first | exact .inl rfl | exact .inr rfl | assumption) : PG X (.Name x pos) (gName i) := by
  intro pins s σ H v u Q I r h
  exact wpAny_assign_Name (store_ok I hN hi hx r (fun s' I' => ⟨_, H, I', h⟩) hf)
def gNil : TGs := fun vs σ H Q => vs = [] ∧ Q σ H
def gCons (t : TG) (u : TGs) : TGs := fun vs σ H Q => ∃ v r, vs = v :: r ∧ t v σ H fun σ' H' => u r σ' H' Q
theorem pgs_nil : PGs X [] gNil := by
  intro pins s σ H vs us Q I r h
  obtain ⟨e, h⟩ := h
  subst e
  cases r
  exact assignInOrder_nil ⟨σ, H, I, h⟩
theorem pgs_cons {e : Expr} {es : List Expr} {t : TG} {u : TGs} (h1 : PG X e t) (h2 : PGs X es u)
    (hs : (assignEach (e :: es) X.env).map (·.2) = assign e X.env :: (assignEach es X.env).map (·.2) := by rfl) : PGs X (e :: es) (gCons t u) := by
  intro pins s σ H vs us Q I r h
  obtain ⟨v, vr, e1, h⟩ := h
  subst e1
  cases r with
  | cons r rr =>
    rw [hs]
    refine assignInOrder_cons (thn (h1 pins s σ H _ _ _ I r h) fun _ s1 ⟨σ1, H1, I1, q1⟩ => ?_)
    exact h2 pins s1 σ1 H1 _ _ Q I1 rr q1
def gSub (to ti : TE) (t : TSet) : TG := fun v σ H Q => to σ H fun o H1 => ti σ H1 fun i H2 => t o i v H2 fun H3 => Q σ H3
theorem pg_sub {o i : Expr} {to ti : TE} {t : TSet} (ho : PE X o to) (hi : PE X i ti) (hs : PSet X t)
    (ha : ∀ v, assign (.Subscript o i pos) X.env v = (do
      let ov ← holding [v] (eval o X.env)
      let iv ← holding [v, ov] (eval i X.env)
      standAt pos
      holding [v, ov, iv] (setItem ov iv v)
      release [v, ov, iv] []) := by intro _; rfl) : PG X (.Subscript o i pos) (gSub to ti t) := by
  intro pins s σ H v u Q I r h
  rw [ha]
  refine wpAny_bind (wpAny_holding (thn (ho pins s σ H _ I h) fun ov s1 ⟨x, H1, I1, r1, q1⟩ => ?_))
  refine wpAny_bind (wpAny_holding (thn (hi pins s1 σ H1 _ I1 q1) fun iv s2 ⟨y, H2, I2, r2, q2⟩ => ?_))
  refine wpAny_bind (wpAny_standAt (wpAny_bind (wpAny_holding (thn (hs pins s2 σ H2 x y v ov iv u _ I2 r1 r2 r q2) fun _ s3 ⟨H3, I3, q3⟩ => ?_))))
  exact wpAny_release ⟨σ, H3, I3, q3⟩
def tAsg (te : TE) (g : TG) : TS := fun D σ H => te σ H fun x H1 => g x σ H1 D.nx
theorem ps_asg {tg e : Expr} {te : TE} {g : TG} (he : PE X e te) (hg : PG X tg g) (hs : swapsWithSole [tg] e pos.line X.env = pure false := by rfl) (hw : swappedStores [tg] e X.env = pure none := by rfl)
    (h1 : (assignEach [tg] X.env).map (·.2) = [assign tg X.env] := by rfl) : PS X (.Assign [tg] e pos) (tAsg te g) := by
  intro pins s σ H D I h
  refine wpAny_Assign_stores (thn (he pins s σ H _ I h) fun v s1 ⟨x, H1, I1, r1, q1⟩ => ?_) hs hw
  rw [h1]
  exact thn (hg pins s1 σ H1 x v _ I1 r1 q1) fun _ s2 q => q
theorem ps_set {i : Nat} {x : Str} {e : Expr} {te : TE} {pos' : Pos} (hN : X.N.Nodup) (hi : X.N[i]? = some x) (hx : Loc X.env.scope x) (he : PE X e te) (hs : swapsWith e (some (.Name x pos')) pos.line X.env = pure false := by rfl) (hf : X.fn x = true ∨ X.env.scope.names.lookup x = some .local := by first | exact .inl rfl | exact .inr rfl | assumption) :
    PS X (.Assign [.Name x pos'] e pos) (tAsg te (gName i)) := by
  intro pins s σ H D I h
  refine wpAny_Assign_Name (thn (he pins s σ H _ I h) fun v s1 ⟨y, H1, I1, r1, q1⟩ => ?_) hs
  exact store_ok I1 hN hi hx r1 (fun s2 I2 => ⟨_, H1, I2, q1⟩) hf
def tAug (i : Nat) (te : TE) (ti : TIp) : TS := fun D σ H => ∃ x, σ[i]? = some (some x) ∧ te σ H fun y H1 => ti x y H1 fun z H2 => D.nx (σ.set i (some z)) H2
def ipI (f : Int → Int → Int) : TIp := fun x y H Q => ∃ i j, x = .int i ∧ y = .int j ∧ Q (.int (f i j)) H
end

section
variable {X : Cx} {pos : Pos}
end

structure It where
  go : Nat → Hp → Prop
  yld : Nat → Hp → V → Hp → Prop
  stop : Nat → Hp → Prop
def FpOk (X : Cx) (pins : List (Addr × Obj)) (H : Hp) (b : Addr) : Prop :=
  H b = none ∧ b ≠ X.env.locals ∧ b ∉ X.fs ∧ (b ∈ X.ex ∨ X.s₀.heap.objs.size ≤ b) ∧ (∀ x c, X.env.cells.lookup x = some c → c ≠ b) ∧ ∀ p ∈ X.pn ++ pins, p.1 ≠ b
theorem Inv.fpOk {X : Cx} {pins : List (Addr × Obj)} {σ : St} {H H' : Hp} {s : Shared} {b : Addr} (I : Inv X pins σ H s) (hb : s.heap.objs.size ≤ b) (hn : H' b = none) : FpOk X pins H' b := by
  refine ⟨hn, Nat.ne_of_gt (Nat.lt_of_lt_of_le I.lt hb), I.nofs hb, .inr (Nat.le_trans I.sz hb), fun x c e z => ?_, fun p hp z => ?_⟩
  · obtain ⟨v, q⟩ := I.cell x c e
    exact absurd (Nat.lt_of_lt_of_le q.lt (by rw [z]; exact hb)) (Nat.lt_irrefl _)
  · exact absurd (Nat.lt_of_lt_of_le (Heap.lt_size (I.pin p hp).1) (by rw [z]; exact hb)) (Nat.lt_irrefl _)
structure Turn (P : Program) (w : World) (K : PySem.W.Frag) (tg : Expr) (J : It) (fp : List Addr) (it : Addr) (tn : Nat → Heap → Prop) : Prop where
  mem : it ∈ fp
  obj : ∀ i h, tn i h → ∀ b ∈ fp, ∃ o, h.get? b = some o ∧ ∀ v, o.data ≠ .cell v
  keep : ∀ i h h', tn i h → (∀ b ∈ fp, ∀ o, h.get? b = some o → h'.get? b = some o) → tn i h'
  item : ∀ (X : Cx), X.prog = P → X.w = w → X.K = K → X.calm = true → ∀ (i : Nat) (pins : List (Addr × Obj)) (s : Shared) (σ : St) (H : Hp) (E : Value → Shared → Prop), Inv X pins σ H s → (∀ b ∈ fp, FpOk X pins H b) → tn i s.heap → J.go i H →
    wpAny (model P w) X.A (pyNext (.ref it)) (fun r s1 => ∃ u, r = some u ∧
      wpAny (model P w) X.A (letOwnedTupleGo tg (.ref it) u) (fun _ s2 => ∃ x H', Inv X pins σ H' s2 ∧ RelV x u ∧ J.yld i H x H' ∧ tn (i + 1) s2.heap ∧ ∀ b ∈ fp, H' b = none) E s1) E s
  done : ∀ (X : Cx), X.prog = P → X.w = w → X.K = K → X.calm = true → ∀ (i : Nat) (pins : List (Addr × Obj)) (s : Shared) (σ : St) (H : Hp) (E : Value → Shared → Prop), Inv X pins σ H s → (∀ b ∈ fp, FpOk X pins H b) → tn i s.heap → J.stop i H →
    wpAny (model P w) X.A (pyNext (.ref it)) (fun r s1 => r = none ∧ Inv X pins σ H s1) E s
  self : ∀ (A : Around) (i : Nat) (s : Shared) (Q : Value → Shared → Prop) (E : Value → Shared → Prop), tn i s.heap → Q (.ref it) s → wpAny (model P w) A (pyIter (.ref it)) Q E s
abbrev TI := St → Hp → (It → Hp → Prop) → Prop
def PIE (X : Cx) (pins : List (Addr × Obj)) (σ : St) (tg : Expr) (R : It → Hp → Prop) (itv : Value) (s2 : Shared) : Prop :=
  ∃ (it : Addr) (fp : List Addr) (tn : Nat → Heap → Prop) (J : It) (H' : Hp), itv = .ref it ∧ Inv X pins σ H' s2 ∧ Turn X.prog X.w X.K tg J fp it tn ∧ tn 0 s2.heap ∧ (∀ b ∈ fp, FpOk X pins H' b) ∧ R J H'
def PI (X : Cx) (tg iter : Expr) (wi : TI) : Prop :=
  ∀ (pins : List (Addr × Obj)) (s : Shared) (σ : St) (H : Hp) (R : It → Hp → Prop), Inv X pins σ H s → wi σ H R →
    wpAny (model X.prog X.w) X.A (eval iter X.env) (fun v s1 => wpAny (model X.prog X.w) X.A (pyIter v) (PIE X pins σ tg R) X.xe s1) X.xe s

theorem go_of {M : Model} {A : Around} {E : Value → Shared → Prop} {s : Shared} {tg : Expr} {it : Addr} {u : Value} {o : Obj} {n : String} {vs : Array Value} {Q : Unit → Shared → Prop} (ho : s.heap.get? it = some o) (hc : o.cls = .type n) (hd : o.data = .fields vs)
    (hn : ["enumerate", "zip", "dict_itemiterator", "dict_reverseitemiterator", "odict_iterator", "itertools.zip_longest", "itertools.pairwise"].contains n = false) (hQ : Q () s) : wpAny M A (letOwnedTupleGo tg (.ref it) u) Q E s := by
  unfold letOwnedTupleGo
  cases tg <;> first
    | exact wpAny_pure hQ
    | (cases u <;> first
        | exact wpAny_pure hQ
        | (refine wpAny_bind (wpAny_load ho ?_)
           rw [hc, hd]
           show wpAny M A (if (["enumerate", "zip", "dict_itemiterator", "dict_reverseitemiterator", "odict_iterator", "itertools.zip_longest", "itertools.pairwise"].contains n && vs[0]? == some (rawInt _)) = true then _ else _) Q E s
           rw [if_neg (by intro h; rw [hn, Bool.false_and] at h; cases h)]
           exact wpAny_pure hQ))

def Itl (K : PySem.W.Frag) (a : Addr) : It :=
  ⟨fun i H => ∃ xs x, SqL K H a xs ∧ xs[i]? = some x, fun i H x H' => H' = H ∧ ∀ xs, SqL K H a xs → xs[i]? = some x, fun i H => ∃ xs, SqL K H a xs ∧ xs.length ≤ i⟩
def Itt (K : PySem.W.Frag) (a : Addr) : It :=
  ⟨fun i H => ∃ xs x, SqT K H a xs ∧ xs[i]? = some x, fun i H x H' => H' = H ∧ ∀ xs, SqT K H a xs → xs[i]? = some x, fun i H => ∃ xs, SqT K H a xs ∧ xs.length ≤ i⟩
def Itr (lo : Int) (n : Nat) : It := ⟨fun i _ => i < n, fun i H x H' => H' = H ∧ x = .int (lo + i), fun i _ => n ≤ i⟩
theorem turn_list {P : Program} {w : World} {K : PySem.W.Frag} {tg : Expr} (a it : Addr) : Turn P w K tg (Itl K a) [it] it (fun i h => h.IsListIter it a i) where
  mem := by simp
  obj := fun i h st b hb => by
    have e : b = it := by simpa using hb
    subst e
    obtain ⟨o, e, c, d⟩ := st
    exact ⟨o, e, fun v z => by rw [d] at z; cases z⟩
  keep := fun i h h' st k => st.at fun o e => k it (by simp) o e
  item := by
    intro X hP hw hK hc i pins s σ H E I hf st hg
    subst hP hw hK
    obtain ⟨xs, x, hq, hx⟩ := hg
    obtain ⟨its, rv, p, hz⟩ := I.list hq
    obtain ⟨u, hu, ru⟩ := rv.get hx
    obtain ⟨f0, f1, f2, f3, f4, f5⟩ := hf it (by simp)
    refine wpAny_pyNext_list_item st p.isList (x := u) (by simpa using hu) fun h' st' sb => ?_
    have I1 : Inv X pins σ H { s with heap := h' } := I.turned (t' := s.toks) (fun b o hb e => (sb.2 b hb).trans e) f0 f1 f3 f4 f5
    obtain ⟨o, e, c, d⟩ := id st'
    exact ⟨u, rfl, go_of (s := { s with heap := h' }) e c d (by decide) ⟨x, H, I1, ru, ⟨rfl, fun ys hy => by rw [I.list_inj hy hq]; exact hx⟩, st', fun b hb => (hf b hb).1⟩⟩
  done := by
    intro X hP hw hK hc i pins s σ H E I hf st hg
    subst hP hw hK
    obtain ⟨xs, hq, hx⟩ := hg
    obtain ⟨its, rv, p, hz⟩ := I.list hq
    obtain ⟨f0, f1, f2, f3, f4, f5⟩ := hf it (by simp)
    have hl := rv.length
    exact wpAny_pyNext_list_end (I.ok.hd hc) st p.isList (by simp; omega) fun h' eb => ⟨rfl, I.turned (t' := s.toks) (fun b o hb e => eb b o hb e) f0 f1 f3 f4 f5⟩
  self := fun _ _ _ _ _ st h => wpAny_pyIter_listiter st h
theorem turn_tuple {P : Program} {w : World} {K : PySem.W.Frag} {tg : Expr} (a it : Addr) : Turn P w K tg (Itt K a) [it] it (fun i h => h.IsTupleIter it a i) where
  mem := by simp
  obj := fun i h st b hb => by
    have e : b = it := by simpa using hb
    subst e
    obtain ⟨o, e, c, d⟩ := st
    exact ⟨o, e, fun v z => by rw [d] at z; cases z⟩
  keep := fun i h h' st k => st.at fun o e => k it (by simp) o e
  item := by
    intro X hP hw hK hc i pins s σ H E I hf st hg
    subst hP hw hK
    obtain ⟨xs, x, hq, hx⟩ := hg
    obtain ⟨its, rv, p, hz⟩ := I.tuple hq
    obtain ⟨u, hu, ru⟩ := rv.get hx
    obtain ⟨f0, f1, f2, f3, f4, f5⟩ := hf it (by simp)
    refine wpAny_pyNext_tuple_item st (show s.heap.IsTuple a its.toArray from p) (x := u) (by simpa using hu) fun h' st' sb => ?_
    have I1 : Inv X pins σ H { s with heap := h' } := I.turned (t' := s.toks) (fun b o hb e => (sb.2 b hb).trans e) f0 f1 f3 f4 f5
    obtain ⟨o, e, c, d⟩ := id st'
    exact ⟨u, rfl, go_of (s := { s with heap := h' }) e c d (by decide) ⟨x, H, I1, ru, ⟨rfl, fun ys hy => by rw [I.tuple_inj hy hq]; exact hx⟩, st', fun b hb => (hf b hb).1⟩⟩
  done := by
    intro X hP hw hK hc i pins s σ H E I hf st hg
    subst hP hw hK
    obtain ⟨xs, hq, hx⟩ := hg
    obtain ⟨its, rv, p, hz⟩ := I.tuple hq
    obtain ⟨f0, f1, f2, f3, f4, f5⟩ := hf it (by simp)
    have hl := rv.length
    exact wpAny_pyNext_tuple_end (I.ok.hd hc) st (show s.heap.IsTuple a its.toArray from p) (by simp; omega) fun h' eb => ⟨rfl, I.turned (t' := s.toks) (fun b o hb e => eb b o hb e) f0 f1 f3 f4 f5⟩
  self := fun _ _ _ _ _ st h => wpAny_pyIter_tupleiter st h
theorem turn_range {P : Program} {w : World} {K : PySem.W.Frag} {tg : Expr} (it : Addr) (lo : Int) (n : Nat) : Turn P w K tg (Itr lo n) [it] it (fun i h => IsRangeIter h it (lo + (i : Nat) * 1) ((n : Int) - (i : Nat)) 1) where
  mem := by simp
  obj := fun i h st b hb => by
    have e : b = it := by simpa using hb
    subst e
    exact ⟨_, st, fun v z => by
      have z' : Data.fields _ = Data.cell v := z
      cases z'⟩
  keep := fun i h h' st k => k it (by simp) _ st
  item := by
    intro X hP hw hK hc i pins s σ H E I hf st hg
    subst hP hw hK
    obtain ⟨f0, f1, f2, f3, f4, f5⟩ := hf it (by simp)
    have W := Walks.range (prog := X.prog) (w := X.w) (I.ok.hd hc) it lo 1 n
    refine W.item i s _ _ hg st fun v h' tk hv st' kk => ?_
    obtain ⟨t, rfl⟩ := hv
    have I1 : Inv X pins σ H { s with heap := h', toks := tk } := I.turned (fun b o hb e => kk b o (by simpa using hb) e) f0 f1 f3 f4 f5
    refine ⟨_, rfl, go_of (s := { s with heap := h', toks := tk }) (n := "range_iterator") st' rfl rfl (by decide) ⟨.int (lo + i), H, I1, ⟨t, ?_⟩, ⟨rfl, rfl⟩, st', fun b hb => (hf b hb).1⟩⟩
    rw [Int.mul_one]
  done := by
    intro X hP hw hK hc i pins s σ H E I hf st hg
    subst hP hw hK
    obtain ⟨f0, f1, f2, f3, f4, f5⟩ := hf it (by simp)
    exact wpAny_pyNext_range_end (I.ok.hd hc) st (by have : n ≤ i := hg; omega) fun h' eb => ⟨rfl, I.turned (t' := s.toks) (fun b o hb e => eb b o hb e) f0 f1 f3 f4 f5⟩
  self := fun _ _ _ _ _ st h => wpAny_pyIter_rangeiter st h
end L2

namespace L2
open PySem PySem.Spec PyProof.Rows
section
variable {X : Cx} {tg : Expr}
theorem range_it {pins : List (Addr × Obj)} {σ : St} {H : Hp} {s : Shared} {R : It → Hp → Prop} {E : Value → Shared → Prop} {lo hi : Int} {t u v : Tok} {tk : Nat} (I : Inv X pins σ H s) (h1 : -(2 ^ 62) ≤ lo) (h2 : lo < 2 ^ 62) (h3 : -(2 ^ 62) ≤ hi) (h4 : hi < 2 ^ 62)
    (q : R (Itr lo (hi - lo).toNat) H) : wpAny (model X.prog X.w) X.A (pyIter (.ref s.heap.objs.size)) (PIE X pins σ tg R) E { s with heap := s.heap.push { cls := .type "range", data := .fields #[.int lo t, .int hi u, .int 1 v] }, toks := tk } := by
  refine wpAny_pyIter_range (IsRange.new ..) (small_one h1 h2 h3 h4) ?_
  have I1 : Inv X pins σ H { s with heap := s.heap.push { cls := .type "range", data := .fields #[.int lo t, .int hi u, .int 1 v] }, toks := tk } := I.kept fun b o e => Heap.get?_push_of_some _ e
  refine ⟨(s.heap.push { cls := .type "range", data := .fields #[.int lo t, .int hi u, .int 1 v] }).objs.size, [(s.heap.push { cls := .type "range", data := .fields #[.int lo t, .int hi u, .int 1 v] }).objs.size], _, _, H, rfl,
    I1.kept (t' := tk) fun b o e => Heap.get?_push_of_some _ e, turn_range _ lo (hi - lo).toNat, ?_, fun b hb => ?_, q⟩
  · have e1 : lo + ((0 : Nat) : Int) * 1 = lo := by simp
    have e2 : (((hi - lo).toNat : Nat) : Int) - ((0 : Nat) : Int) = Builtin.Range.rangeSize lo hi 1 := by rw [rangeSize_one]; split <;> omega
    show IsRangeIter _ _ (lo + ((0 : Nat) : Int) * 1) ((((hi - lo).toNat : Nat) : Int) - ((0 : Nat) : Int)) 1
    rw [e1, e2]
    exact Heap.get?_push_size _ rfl
  · have e : b = (s.heap.push { cls := .type "range", data := .fields #[.int lo t, .int hi u, .int 1 v] }).objs.size := by simpa using hb
    subst e
    exact I1.fpOk (Nat.le_refl _) (I1.hok.fresh (Nat.le_refl _))
def iRng1 (ta : TA) : TI := fun σ H R => ta σ H fun vs H1 => ∃ j : Int, vs = [.int j] ∧ -(2 ^ 62) ≤ j ∧ j < 2 ^ 62 ∧ R (Itr 0 j.toNat) H1
theorem pi_range1 {a : Expr} {ta : TA} {p pos : Pos} (hg : Gl X "range") (hm : X.mg "range" = none) (ha : PA X [a] ta) (hs : starEach [a] X.env = [(false, eval a X.env)] := by rfl) : PI X tg (.Call (.Name "range" p) [a] [] pos) (iRng1 ta) := by
  intro pins s σ H R I h
  refine Call_ (ld_blt I hg hm boot_range (PyProof.Rows.callWith_type1 (thn (ha pos pins s σ H _ I h) fun us s1 ⟨vs, H1, I1, r1, q1⟩ => ?_) hs rfl))
  obtain ⟨j, e, q1, q2, q⟩ := q1
  subst e
  cases r1 with
  | cons r rr =>
    cases rr
    obtain ⟨t, rfl⟩ := r
    exact call_range_1 (range_it I1 (by omega) (by omega) q1 q2 (by simpa using q))
def tFor (wi : TI) (g : TG) (tb : TS) : TS := fun D σ H => wi σ H fun J H1 => ∃ W : Nat → Nat → St → Hp → Prop, (∃ m, W 0 m σ H1) ∧ ∀ i m σ H, W i m σ H →
  (J.stop i H ∧ D.nx σ H) ∨ (J.go i H ∧ ∃ N : St → Hp → Prop, (∀ σ' H', N σ' H' → ∃ m', m' < m ∧ W (i + 1) m' σ' H') ∧ ∀ x H', J.yld i H x H' → g x σ H' fun σ2 H2 => tb { D with nx := N, ct := N, bk := D.nx } σ2 H2)
def pinsAt (fp : List Addr) (h : Heap) : List (Addr × Obj) := fp.filterMap fun b => (h.get? b).map fun o => (b, o)
theorem mem_pinsAt {fp : List Addr} {h : Heap} {b : Addr} {o : Obj} (hb : b ∈ fp) (e : h.get? b = some o) : (b, o) ∈ pinsAt fp h := List.mem_filterMap.mpr ⟨b, hb, by rw [e]; rfl⟩
theorem of_pinsAt {fp : List Addr} {h : Heap} {p : Addr × Obj} (hp : p ∈ pinsAt fp h) : p.1 ∈ fp ∧ h.get? p.1 = some p.2 := by
  obtain ⟨b, hb, e⟩ := List.mem_filterMap.mp hp
  cases q : h.get? b with
  | none => rw [q] at e; cases e
  | some o =>
    rw [q] at e
    have e' : (b, o) = p := Option.some.inj e
    subst e'
    exact ⟨hb, q⟩
theorem Inv.pinned {pins : List (Addr × Obj)} {σ : St} {H : Hp} {s : Shared} {fp : List Addr} (I : Inv X pins σ H s) (hf : ∀ b ∈ fp, FpOk X pins H b) (ho : ∀ b ∈ fp, ∃ o, s.heap.get? b = some o ∧ ∀ v, o.data ≠ .cell v) : Inv X (pins ++ pinsAt fp s.heap) σ H s :=
  I.pins_of fun p hp => (List.mem_append.mp hp).elim (fun z => I.pin p (List.mem_append_right _ z)) fun z => by
    obtain ⟨hb, e⟩ := of_pinsAt z
    obtain ⟨f0, f1, f2, _⟩ := hf p.1 hb
    obtain ⟨o, e', d⟩ := ho p.1 hb
    rw [e] at e'; cases e'
    exact ⟨e, f0, f1, f2, d⟩
theorem Inv.unpinned {pins pl : List (Addr × Obj)} {σ : St} {H : Hp} {s : Shared} (I : Inv X (pins ++ pl) σ H s) : Inv X pins σ H s := I.pins_of fun p hp => I.pin p (List.mem_append_right _ (List.mem_append_left _ hp))
theorem ps_for {iter : Expr} {body : List Stmt} {wi : TI} {g : TG} {tb : TS} {pos : Pos} (hp : PassesOwn (model X.prog X.w) X.A X.env X.xe) (hc : X.calm = true) (hi : PI X tg iter wi) (hg : PG X tg g) (hb : PSs X body tb)
    (hs : ∀ x, foldedSetIterable iter X.env x = pure x := by intro _; rfl) : PS X (.For tg iter body [] pos) (tFor wi g tb) := by
  intro pins s σ H D I h
  refine wpAny_For (thn (hi pins s σ H _ I h) fun v s1 h1 => thn h1 fun itv s2 h2 => ?_) hs
  obtain ⟨it, fp, tn, J, H2, e, I2, T, st2, f2, W, ⟨m0, w0⟩, turn⟩ := h2
  subst e
  -- what stays true of the iterator's objects through the loop
  have stat : ∀ {H' : Hp}, (∀ b ∈ fp, H' b = none) → ∀ b ∈ fp, FpOk X pins H' b := fun hn b hb => ⟨hn b hb, (f2 b hb).2⟩
  refine codeAny_forLoop_any (fun n s' => ∃ i σ' H', Inv X pins σ' H' s' ∧ tn i s'.heap ∧ (∀ b ∈ fp, H' b = none) ∧ W i n σ' H') ?_ m0 ⟨0, σ, H2, I2, st2, fun b hb => (f2 b hb).1, w0⟩
  rintro n s3 ⟨i, σ3, H3, I3, st3, fr3, w3⟩
  rcases turn i n σ3 H3 w3 with ⟨stop, qn⟩ | ⟨go, N, hN, step⟩
  · refine wpAny_passesOwn hp (thn (T.done X rfl rfl rfl hc i pins s3 σ3 H3 X.xe I3 (stat fr3) st3 stop) fun r s4 ⟨hr, I4⟩ => ?_)
    subst hr
    exact wpAny_execs_nil ⟨σ3, H3, I4, qn⟩
  · refine wpAny_passesOwn hp (thn (T.item X rfl rfl rfl hc i pins s3 σ3 H3 X.xe I3 (stat fr3) st3 go) fun r s4 ⟨u, hr, h4⟩ => ?_)
    subst hr
    refine wpAny_passesOwn hp (thn h4 fun _ s5 ⟨x, H5, I5, r5, y5, st5, fr5⟩ => ?_)
    have I5' := I5.pinned (stat fr5) (T.obj _ _ st5)
    refine wpAny_passesOwn hp (thn (hg _ s5 σ3 H5 x u _ I5' r5 (step x H5 y5)) fun _ s6 ⟨σ6, H6, I6, q6⟩ => ?_)
    refine wpAny_passesOwn hp (thn (hb _ s6 σ6 H6 _ I6 q6) fun f s7 q7 => ?_)
    have again : ∀ {σ7 : St} {H7 : Hp}, Inv X (pins ++ pinsAt fp s5.heap) σ7 H7 s7 → N σ7 H7 → ∃ m, m < n ∧ ∃ i σ' H', Inv X pins σ' H' s7 ∧ tn i s7.heap ∧ (∀ b ∈ fp, H' b = none) ∧ W i m σ' H' := fun {σ7 H7} I7 n7 => by
      obtain ⟨m', hm, w7⟩ := hN σ7 H7 n7
      refine ⟨m', hm, i + 1, σ7, H7, I7.unpinned, T.keep _ _ _ st5 fun b hb o e => (I7.pin (b, o) (List.mem_append_right _ (List.mem_append_right _ (mem_pinsAt hb e)))).1, fun b hb => ?_, w7⟩
      obtain ⟨o, e, d⟩ := T.obj _ _ st5 b hb
      exact (I7.pin (b, o) (List.mem_append_right _ (List.mem_append_right _ (mem_pinsAt hb e)))).2.1
    cases f with
    | next => obtain ⟨σ7, H7, I7, n7⟩ := q7; exact again I7 n7
    | cont => obtain ⟨σ7, H7, I7, n7⟩ := q7; exact again I7 n7
    | brk => obtain ⟨σ7, H7, I7, q7⟩ := q7; exact ⟨σ7, H7, I7.unpinned, q7⟩
    | ret v => obtain ⟨x7, σ7, H7, I7, r7, q7⟩ := q7; exact ⟨x7, σ7, H7, I7.unpinned, r7, q7⟩
end

theorem for_range {lo : Int} {n : Nat} {g : TG} {tb : TS} {D : Ends} {σ : St} {H : Hp} (Pv : Nat → St → Hp → Prop) (h0 : Pv 0 σ H)
    (hs : ∀ i σ H, i < n → Pv i σ H → g (.int (lo + i)) σ H fun σ2 H2 => tb { D with nx := Pv (i + 1), ct := Pv (i + 1), bk := D.nx } σ2 H2) (hd : ∀ σ H, Pv n σ H → D.nx σ H) :
    ∃ W : Nat → Nat → St → Hp → Prop, (∃ m, W 0 m σ H) ∧ ∀ i m σ H, W i m σ H →
      ((Itr lo n).stop i H ∧ D.nx σ H) ∨ ((Itr lo n).go i H ∧ ∃ N : St → Hp → Prop, (∀ σ' H', N σ' H' → ∃ m', m' < m ∧ W (i + 1) m' σ' H') ∧ ∀ x H', (Itr lo n).yld i H x H' → g x σ H' fun σ2 H2 => tb { D with nx := N, ct := N, bk := D.nx } σ2 H2) := by
  refine ⟨fun i m σ H => m = n - i ∧ i ≤ n ∧ Pv i σ H, ⟨n, by simp, Nat.zero_le _, h0⟩, ?_⟩
  rintro i m σ H ⟨rfl, hi, p⟩
  by_cases hlt : i < n
  · refine .inr ⟨hlt, Pv (i + 1), fun σ' H' p' => ⟨n - (i + 1), by omega, rfl, hlt, p'⟩, fun x H' y => ?_⟩
    obtain ⟨e, y⟩ := y
    subst e y
    exact hs i σ _ hlt p
  · have e : i = n := by omega
    subst e
    exact .inl ⟨Nat.le_refl _, hd σ H p⟩
end L2

namespace L2
open PySem PySem.Spec PyProof.Rows

abbrev R2 := V → V → Hp → VK → Prop
def OpR (X : Cx) (f : Value → Value → Sem Value) (r : R2) : Prop :=
  ∀ (pins : List (Addr × Obj)) (s : Shared) (σ : St) (H : Hp) (x y : V) (v u : Value) (Q : VK), Inv X pins σ H s → RelV x v → RelV y u → r x y H Q →
    wpAny (model X.prog X.w) X.A (f v u) (EP X pins σ Q) X.xe s
def UnR (X : Cx) (f : Value → Sem Value) (r : V → Hp → VK → Prop) : Prop :=
  ∀ (pins : List (Addr × Obj)) (s : Shared) (σ : St) (H : Hp) (x : V) (v : Value) (Q : VK), Inv X pins σ H s → RelV x v → r x H Q →
    wpAny (model X.prog X.w) X.A (f v) (EP X pins σ Q) X.xe s
def CallR (X : Cx) (f : Value) (r : List V → Hp → VK → Prop) : Prop :=
  ∀ (pins : List (Addr × Obj)) (s : Shared) (σ : St) (H : Hp) (xs : List V) (us : List Value) (Q : VK), Inv X pins σ H s → Vals xs us → r xs H Q →
    wpAny (model X.prog X.w) X.A (call f us) (EP X pins σ Q) X.xe s
def TruR (X : Cx) (r : V → Hp → (Bool → Hp → Prop) → Prop) : Prop :=
  ∀ (pins : List (Addr × Obj)) (s : Shared) (σ : St) (H : Hp) (x : V) (v : Value) (Q : Bool → Hp → Prop), Inv X pins σ H s → RelV x v → r x H Q →
    wpAny (model X.prog X.w) X.A (truthy v) (TP X pins σ Q) X.xe s

def tOp (r : R2) (ta tb : TE) : TE := fun σ H Q => ta σ H fun x H1 => tb σ H1 fun y H2 => r x y H2 Q
def tUn (r : V → Hp → VK → Prop) (ta : TE) : TE := fun σ H Q => ta σ H fun x H1 => r x H1 Q
def rI (C : Int → Int → Prop) (g : Int → Int → V) : R2 := fun x y H Q => ∃ i j, x = .int i ∧ y = .int j ∧ C i j ∧ Q (g i j) H
def rI0 (g : Int → Int → V) : R2 := fun x y H Q => ∃ i j, x = .int i ∧ y = .int j ∧ Q (g i j) H
def rU (g : Int → V) : V → Hp → VK → Prop := fun x H Q => ∃ i, x = .int i ∧ Q (g i) H

section
variable {X : Cx} {a b c : Expr} {ta tb tc : TE} {pos : Pos}

theorem binT (ha : PE X a ta) (hb : PE X b tb) {pins : List (Addr × Obj)} {s : Shared} {σ : St} {H : Hp} {R : V → V → Hp → Prop} (I : Inv X pins σ H s)
    (h : ta σ H fun x H1 => tb σ H1 fun y H2 => R x y H2) {Q : Value → Shared → Prop} {f : Value → Value → Sem Value}
    (hf : ∀ v u s2 x y H2, Inv X pins σ H2 s2 → RelV x v → RelV y u → R x y H2 → wpAny (model X.prog X.w) X.A (f v u) Q X.xe s2) :
    wpAny (model X.prog X.w) X.A (eval a X.env) (fun v s₁ => wpAny (model X.prog X.w) X.A (eval b X.env) (fun u s₂ => wpAny (model X.prog X.w) X.A (f v u) Q X.xe s₂) X.xe s₁) X.xe s := by
  refine thn (ha pins s σ H _ I h) fun v s1 ⟨x, H1, I1, r1, q1⟩ => ?_
  refine thn (hb pins s1 σ H1 _ I1 q1) fun u s2 ⟨y, H2, I2, r2, q2⟩ => ?_
  exact hf v u s2 x y H2 I2 r1 r2 q2

theorem pe_op {op : Operator} {r : R2} (ho : OpR X (binaryOp op) r) (ha : PE X a ta) (hb : PE X b tb) : PE X (.BinOp a op b pos) (tOp r ta tb) := by
  intro pins s σ H Q I h
  exact wpAny_BinOp (binT ha hb I h fun v u s2 x y H2 I2 rx ry q => ho pins s2 σ H2 x y v u Q I2 rx ry q)
theorem pe_un {op : UnaryOp} {r : V → Hp → VK → Prop} (ho : UnR X (unaryOp op) r) (ha : PE X a ta) : PE X (.UnaryOp op a pos) (tUn r ta) := by
  intro pins s σ H Q I h
  exact UnaryOp_ (thn (ha pins s σ H _ I h) fun v s1 ⟨x, H1, I1, r1, q1⟩ => ho pins s1 σ H1 x v Q I1 r1 q1)
theorem opI {f : Value → Value → Sem Value} {C : Int → Int → Prop} {g : Int → Int → Int}
    (rule : ∀ (i j : Int) (t u : Tok) (s : Shared) (Q : Value → Shared → Prop) (E : Value → Shared → Prop), C i j → Q (.int (g i j) s.toks) { s with toks := s.toks + 1 } → wpAny (model X.prog X.w) X.A (f (.int i t) (.int j u)) Q E s) :
    OpR X f (rI C fun i j => .int (g i j)) := by
  intro pins s σ H x y v u Q I rx ry h
  obtain ⟨i, j, rfl, rfl, hc, q⟩ := h
  obtain ⟨t, rfl⟩ := rx
  obtain ⟨t', rfl⟩ := ry
  exact rule i j t t' s _ _ hc ⟨.int (g i j), H, I.tok _, ⟨_, rfl⟩, q⟩
theorem opI0 {f : Value → Value → Sem Value} {g : Int → Int → Int}
    (rule : ∀ (i j : Int) (t u : Tok) (s : Shared) (Q : Value → Shared → Prop) (E : Value → Shared → Prop), Q (.int (g i j) s.toks) { s with toks := s.toks + 1 } → wpAny (model X.prog X.w) X.A (f (.int i t) (.int j u)) Q E s) :
    OpR X f (rI0 fun i j => .int (g i j)) := by
  intro pins s σ H x y v u Q I rx ry h
  obtain ⟨i, j, rfl, rfl, q⟩ := h
  obtain ⟨t, rfl⟩ := rx
  obtain ⟨t', rfl⟩ := ry
  exact rule i j t t' s _ _ ⟨.int (g i j), H, I.tok _, ⟨_, rfl⟩, q⟩
theorem opB0 {f : Value → Value → Sem Value} {g : Int → Int → Bool}
    (rule : ∀ (i j : Int) (t u : Tok) (s : Shared) (Q : Value → Shared → Prop) (E : Value → Shared → Prop), Q (.bool (g i j)) s → wpAny (model X.prog X.w) X.A (f (.int i t) (.int j u)) Q E s) :
    OpR X f (rI0 fun i j => .bl (g i j)) := by
  intro pins s σ H x y v u Q I rx ry h
  obtain ⟨i, j, rfl, rfl, q⟩ := h
  obtain ⟨t, rfl⟩ := rx
  obtain ⟨t', rfl⟩ := ry
  exact rule i j t t' s _ _ ⟨.bl (g i j), H, I, rfl, q⟩

def CDiv (i j : Int) : Prop := 0 < j ∧ j < 1073741824
def CPow (i j : Int) : Prop := 0 ≤ j ∧ j ≤ 1000000 ∧ i.natAbs < 2 ^ 64
def CMul (i j : Int) : Prop := (-(2 ^ 64) < i ∧ i < 2 ^ 64) ∨ (-(2 ^ 64) < j ∧ j < 2 ^ 64)
theorem CMul.ok {i j : Int} (h : CMul i j) : IntMulOk i j := by
  rcases h with ⟨h1, h2⟩ | ⟨h1, h2⟩
  · exact .of_left (intBits_le_64 h1 h2)
  · exact .of_right (intBits_le_64 h1 h2)
theorem op_add : OpR X (binaryOp .Add) (rI0 fun i j => .int (i + j)) := opI0 fun _ _ _ _ _ _ _ q => add_int q
theorem op_sub : OpR X (binaryOp .Sub) (rI0 fun i j => .int (i - j)) := opI0 fun _ _ _ _ _ _ _ q => sub_int q
theorem op_mul : OpR X (binaryOp .Mult) (rI CMul fun i j => .int (i * j)) := opI fun _ _ _ _ _ _ _ hc q => mul_int q hc.ok
theorem op_fdiv : OpR X (binaryOp .FloorDiv) (rI CDiv fun i j => .int (i / j)) := opI fun i j _ _ _ _ _ hc q => by
  have h1 : (0 : Int) < j := hc.1
  have h2 : j < 1073741824 := hc.2
  exact floordiv_int (by omega) (by rw [Int.fdiv_eq_ediv_of_nonneg i (by omega)]; exact q) (.inl (PyProof.noPylong_small (by omega)))
theorem op_mod : OpR X (binaryOp .Mod) (rI (fun _ j => 0 < j) fun i j => .int (i % j)) := opI fun i j _ _ _ _ _ hc q => by
  have h1 : (0 : Int) < j := hc
  exact mod_int' (by omega) (by rw [Int.fmod_eq_emod_of_nonneg i (by omega)]; exact q)
theorem op_pow : OpR X (binaryOp .Pow) (rI CPow fun i j => .int (i ^ j.toNat)) := opI fun _ _ _ _ _ _ _ hc q => pow_int_small hc.1 hc.2.1 hc.2.2 q
theorem unI {f : Value → Sem Value} {g : Int → Int}
    (rule : ∀ (i : Int) (t : Tok) (s : Shared) (Q : Value → Shared → Prop) (E : Value → Shared → Prop), Q (.int (g i) s.toks) { s with toks := s.toks + 1 } → wpAny (model X.prog X.w) X.A (f (.int i t)) Q E s) :
    UnR X f (rU fun i => .int (g i)) := by
  intro pins s σ H x v Q I rx h
  obtain ⟨i, rfl, q⟩ := h
  obtain ⟨t, rfl⟩ := rx
  exact rule i t s _ _ ⟨.int (g i), H, I.tok _, ⟨_, rfl⟩, q⟩
theorem un_neg : UnR X (unaryOp .USub) (rU fun i => .int (-i)) := unI fun _ _ _ _ _ q => neg_int q
end

def scal : V → V → Bool
  | .non, .non => true | .non, .int _ => true | .int _, .non => true | .non, .bl _ => true | .bl _, .non => true | .non, .str _ => true | .str _, .non => true
  | .int _, .int _ => true | .bl _, .bl _ => true | .str _, .str _ => true | .byt _, .byt _ => true
  | .int _, .str _ => true | .str _, .int _ => true | .bl _, .str _ => true | .str _, .bl _ => true
  | _, _ => false
def rEq : R2 := fun x y H Q => scal x y = true ∧ Q (.bl (decide (x = y))) H
def rNe : R2 := fun x y H Q => scal x y = true ∧ Q (.bl (!decide (x = y))) H

theorem dec_int {i j : Int} : decide (V.int i = V.int j) = (i == j) := by
  rw [Bool.eq_iff_iff]
  simp
theorem dec_bl {i j : Bool} : decide (V.bl i = V.bl j) = (i == j) := by
  rw [Bool.eq_iff_iff]
  simp
theorem dec_str {i j : Str} : decide (V.str i = V.str j) = (i == j) := by
  rw [Bool.eq_iff_iff]
  simp
theorem dec_byt {i j : Array UInt8} : decide (V.byt i = V.byt j) = (i.toList == j.toList) := by
  rw [Bool.eq_iff_iff]
  cases i
  cases j
  simp

section
variable {X : Cx} {a b c : Expr} {ta tb tc : TE} {pos : Pos}
theorem fin_bl {pins : List (Addr × Obj)} {σ : St} {H : Hp} {s : Shared} {Q : VK} {k k' : Bool} (I : Inv X pins σ H s) (q : Q (.bl k) H) (e : k = k') : EP X pins σ Q (.bool k') s := by
  subst e
  exact ⟨.bl k, H, I, rfl, q⟩
theorem op_eq : OpR X (compareOp .Eq) rEq := by
  intro pins s σ H x y v u Q I rx ry h
  obtain ⟨hs, q⟩ := h
  cases x with
  | non =>
    cases rx
    cases y with
    | non => cases ry; exact PySem.EqNone.eq_none_none (fin_bl I q (by simp))
    | bl j => cases ry; exact PySem.EqNone.eq_none_bool (fin_bl I q (by simp))
    | int j => obtain ⟨t', rfl⟩ := ry; exact PySem.EqNone.eq_none_int (fin_bl I q (by simp))
    | str j => obtain ⟨t', rfl⟩ := ry; exact PySem.EqNone.eq_none_str (fin_bl I q (by simp))
    | _ => exact absurd (show false = true from hs) Bool.false_ne_true
  | bl i =>
    cases rx
    cases y with
    | non => cases ry; exact PySem.EqNone.eq_bool_none (fin_bl I q (by simp))
    | bl j => cases ry; exact eq_bool (fin_bl I q dec_bl)
    | str j => obtain ⟨t', rfl⟩ := ry; exact PySem.EqMixed.eq_bool_str (fin_bl I q (by simp))
    | _ => exact absurd (show false = true from hs) Bool.false_ne_true
  | int i =>
    obtain ⟨t, rfl⟩ := rx
    cases y with
    | non => cases ry; exact PySem.EqNone.eq_int_none (fin_bl I q (by simp))
    | int j => obtain ⟨t', rfl⟩ := ry; exact eq_int (fin_bl I q dec_int)
    | str j => obtain ⟨t', rfl⟩ := ry; exact PySem.EqMixed.eq_int_str (fin_bl I q (by simp))
    | _ => exact absurd (show false = true from hs) Bool.false_ne_true
  | str i =>
    obtain ⟨t, rfl⟩ := rx
    cases y with
    | non => cases ry; exact PySem.EqNone.eq_str_none (fin_bl I q (by simp))
    | bl j => cases ry; exact PySem.EqMixed.eq_str_bool (fin_bl I q (by simp))
    | int j => obtain ⟨t', rfl⟩ := ry; exact PySem.EqMixed.eq_str_int (fin_bl I q (by simp))
    | str j => obtain ⟨t', rfl⟩ := ry; exact eq_str (fin_bl I q dec_str)
    | _ => exact absurd (show false = true from hs) Bool.false_ne_true
  | byt i =>
    obtain ⟨t, rfl⟩ := rx
    cases y with
    | byt j => obtain ⟨t', rfl⟩ := ry; exact PySem.W.eq_bytes (fin_bl I q dec_byt)
    | _ => exact absurd (show false = true from hs) Bool.false_ne_true
  | _ => cases y <;> exact absurd (show false = true from hs) Bool.false_ne_true
theorem op_ne : OpR X (compareOp .NotEq) rNe := by
  intro pins s σ H x y v u Q I rx ry h
  obtain ⟨hs, q⟩ := h
  cases x with
  | non =>
    cases rx
    cases y with
    | non => cases ry; exact PySem.EqNone.ne_none_none (fin_bl I q (by simp))
    | bl j => cases ry; exact PySem.EqNone.ne_none_bool (fin_bl I q (by simp))
    | int j => obtain ⟨t', rfl⟩ := ry; exact PySem.EqNone.ne_none_int (fin_bl I q (by simp))
    | str j => obtain ⟨t', rfl⟩ := ry; exact PySem.EqNone.ne_none_str (fin_bl I q (by simp))
    | _ => exact absurd (show false = true from hs) Bool.false_ne_true
  | bl i =>
    cases rx
    cases y with
    | non => cases ry; exact PySem.EqNone.ne_bool_none (fin_bl I q (by simp))
    | bl j => cases ry; exact ne_bool (fin_bl I q (congrArg not dec_bl))
    | str j => obtain ⟨t', rfl⟩ := ry; exact PySem.EqMixed.ne_bool_str (fin_bl I q (by simp))
    | _ => exact absurd (show false = true from hs) Bool.false_ne_true
  | int i =>
    obtain ⟨t, rfl⟩ := rx
    cases y with
    | non => cases ry; exact PySem.EqNone.ne_int_none (fin_bl I q (by simp))
    | int j => obtain ⟨t', rfl⟩ := ry; exact ne_int (fin_bl I q (congrArg not dec_int))
    | str j => obtain ⟨t', rfl⟩ := ry; exact PySem.EqMixed.ne_int_str (fin_bl I q (by simp))
    | _ => exact absurd (show false = true from hs) Bool.false_ne_true
  | str i =>
    obtain ⟨t, rfl⟩ := rx
    cases y with
    | non => cases ry; exact PySem.EqNone.ne_str_none (fin_bl I q (by simp))
    | bl j => cases ry; exact PySem.EqMixed.ne_str_bool (fin_bl I q (by simp))
    | int j => obtain ⟨t', rfl⟩ := ry; exact PySem.EqMixed.ne_str_int (fin_bl I q (by simp))
    | str j => obtain ⟨t', rfl⟩ := ry; exact ne_str (fin_bl I q (congrArg not dec_str))
    | _ => exact absurd (show false = true from hs) Bool.false_ne_true
  | byt i =>
    obtain ⟨t, rfl⟩ := rx
    cases y with
    | byt j => obtain ⟨t', rfl⟩ := ry; exact PySem.W.ne_bytes (fin_bl I q (congrArg not dec_byt))
    | _ => exact absurd (show false = true from hs) Bool.false_ne_true
  | _ => cases y <;> exact absurd (show false = true from hs) Bool.false_ne_true

theorem op_lt : OpR X (compareOp .Lt) (rI0 fun i j => .bl (decide (i < j))) := opB0 fun _ _ _ _ _ _ _ q => lt_int q
theorem op_le : OpR X (compareOp .LtE) (rI0 fun i j => .bl (decide (i ≤ j))) := opB0 fun _ _ _ _ _ _ _ q => le_int q
theorem op_gt : OpR X (compareOp .Gt) (rI0 fun i j => .bl (decide (j < i))) := opB0 fun _ _ _ _ _ _ _ q => gt_int q
theorem op_lt_str : OpR X (compareOp .Lt) (fun x y H Q => ∃ i j, x = .str i ∧ y = .str j ∧ Q (.bl (decide (i.cps.toList < j.cps.toList))) H) := by
  intro pins s σ H x y v u Q I rx ry h
  obtain ⟨i, j, rfl, rfl, q⟩ := h
  obtain ⟨t, rfl⟩ := rx
  obtain ⟨t', rfl⟩ := ry
  exact lt_str (fin_bl I q rfl)
theorem op_in_str : OpR X (compareOp .In) (fun x y H Q => ∃ i j, x = .str i ∧ y = .str j ∧ Q (.bl (!(Builtin.Str.occurrences j i 0 j.length 1).isEmpty)) H) := by
  intro pins s σ H x y v u Q I rx ry h
  obtain ⟨i, j, rfl, rfl, q⟩ := h
  obtain ⟨t, rfl⟩ := rx
  obtain ⟨t', rfl⟩ := ry
  exact in_str (fin_bl I q rfl)

theorem op_notin_str : OpR X (compareOp .NotIn) (fun x y H Q => ∃ i j, x = .str i ∧ y = .str j ∧ Q (.bl (!(!(Builtin.Str.occurrences j i 0 j.length 1).isEmpty))) H) := by
  intro pins s σ H x y v u Q I rx ry h
  obtain ⟨i, j, rfl, rfl, q⟩ := h
  obtain ⟨t, rfl⟩ := rx
  obtain ⟨t', rfl⟩ := ry
  exact notIn_str (fin_bl I q rfl)
theorem OpR.or {f : Value → Value → Sem Value} {r r' : R2} (h : OpR X f r) (h' : OpR X f r') : OpR X f (fun x y H Q => r x y H Q ∨ r' x y H Q) := by
  intro pins s σ H x y v u Q I rx ry q
  rcases q with q | q
  · exact h pins s σ H x y v u Q I rx ry q
  · exact h' pins s σ H x y v u Q I rx ry q

theorem nomark (b : Expr) {op : CmpOp} (h : op ≠ .In := by decide) (h2 : op ≠ .NotIn := by decide) : behindInMarks op b = false := by
  have e1 : (op == CmpOp.In) = false := by cases op <;> first | rfl | exact absurd rfl h
  have e2 : (op == CmpOp.NotIn) = false := by cases op <;> first | rfl | exact absurd rfl h2
  cases b <;> simp [behindInMarks, e1, e2]
theorem pe_cmpR {op : CmpOp} {r : R2} (ho : OpR X (compareOp op) r) (ha : PE X a ta) (hb : PE X b tb) (hm : behindInMarks op b = false) : PE X (.Compare a [op] [b] pos) (tOp r ta tb) := by
  intro pins s σ H Q I h
  exact wpAny_Compare1 (binT ha hb I h fun v u s2 x y H2 I2 rx ry q => ho pins s2 σ H2 x y v u Q I2 rx ry q) hm
def tTest (t : TE) : TT := fun σ H Q => t σ H fun x H' => ∃ k, x = .bl k ∧ Q k H'
theorem pt_cmpR {op : CmpOp} {r : R2} (ho : OpR X (compareOp op) r) (ha : PE X a ta) (hb : PE X b tb) (hm : behindInMarks op b = false) : PT X (.Compare a [op] [b] pos) (tTest (tOp r ta tb)) := by
  intro pins s σ H Q I h
  refine wpAny_isTrue_Compare1 (thn (ha pins s σ H _ I h) fun v s1 ⟨x, H1, I1, r1, q1⟩ => thn (hb pins s1 σ H1 _ I1 q1) fun u s2 ⟨y, H2, I2, r2, q2⟩ =>
    thn (ho pins s2 σ H2 x y v u _ I2 r1 r2 q2) fun c s3 ⟨z, H3, I3, r3, k, e, q3⟩ => ?_) hm
  subst e
  cases r3
  exact wpAny_truthy_bool ⟨H3, I3, q3⟩
def tChain (r r' : R2) (ta tb tc : TE) : TE := fun σ H Q => ta σ H fun x H1 => tb σ H1 fun y H2 => r x y H2 fun z H3 => ∃ k, z = .bl k ∧
  (if k = true then tc σ H3 fun w' H4 => r' y w' H4 Q else Q (.bl false) H3)
theorem pe_chain {op op' : CmpOp} {r r' : R2} (ho : OpR X (compareOp op) r) (ho' : OpR X (compareOp op') r') (ha : PE X a ta) (hb : PE X b tb) (hc : PE X c tc)
    (hm : lastMarks [op, op'] [b, c] = false := by with_unfolding_all rfl) : PE X (.Compare a [op, op'] [b, c] pos) (tChain r r' ta tb tc) := by
  intro pins s σ H Q I h
  refine Compare_chain (thn (ha pins s σ H _ I h) fun v s1 ⟨x, H1, I1, r1, q1⟩ => chain_link (thn (hb pins s1 σ H1 _ I1 q1) fun u s2 ⟨y, H2, I2, r2, q2⟩ =>
    thn (ho pins s2 σ H2 x y v u _ I2 r1 r2 q2) fun d s3 ⟨z, H3, I3, r3, k, e, q3⟩ => ?_)) hm
  subst e
  cases r3
  refine wpAny_truthy_bool ?_
  cases k with
  | false => exact ite_ff ⟨.bl false, H3, I3, rfl, q3⟩
  | true => exact ite_tt (chain_last (thn (hc pins s3 σ H3 _ I3 q3) fun w' s4 ⟨z', H4, I4, r4, q4⟩ => ho' pins s4 σ H4 y z' u w' Q I4 r2 r4 q4))
theorem pt_chain {op op' : CmpOp} {r r' : R2} (ho : OpR X (compareOp op) r) (ho' : OpR X (compareOp op') r') (ha : PE X a ta) (hb : PE X b tb) (hc : PE X c tc)
    (hm : lastMarks [op, op'] [b, c] = false := by with_unfolding_all rfl) : PT X (.Compare a [op, op'] [b, c] pos) (tTest (tChain r r' ta tb tc)) := by
  intro pins s σ H Q I h
  refine isTrue_chain (thn (ha pins s σ H _ I h) fun v s1 ⟨x, H1, I1, r1, q1⟩ => test_link (thn (hb pins s1 σ H1 _ I1 q1) fun u s2 ⟨y, H2, I2, r2, q2⟩ =>
    thn (ho pins s2 σ H2 x y v u _ I2 r1 r2 q2) fun d s3 ⟨z, H3, I3, r3, k, e, q3⟩ => ?_)) hm
  subst e
  cases r3
  refine wpAny_truthy_bool ?_
  cases k with
  | false =>
    obtain ⟨k', e', q'⟩ := q3
    cases e'
    exact ite_ff ⟨H3, I3, q'⟩
  | true =>
    refine ite_tt (test_last (thn (hc pins s3 σ H3 _ I3 q3) fun w' s4 ⟨z', H4, I4, r4, q4⟩ => thn (ho' pins s4 σ H4 y z' u w' _ I4 r2 r4 q4) fun d' s5 ⟨z2, H5, I5, r5, k2, e2, q5⟩ => ?_))
    subst e2
    cases r5
    exact wpAny_truthy_bool ⟨H5, I5, q5⟩

def TruV (K : PySem.W.Frag) (x : V) (H : Hp) (k : Bool) : Prop :=
  match x with
  | .non => k = false
  | .bl b => k = b
  | .int i => k = (i != 0)
  | .str y => y.length ≤ sizeLine ∧ k = ((y.length : Int) != 0)
  | .byt y => y.size ≤ sizeLine ∧ k = ((y.size : Int) != 0)
  | .ref p => (∃ xs, SqL K H p xs ∧ k = !xs.isEmpty) ∨ (∃ xs, SqT K H p xs ∧ k = !xs.isEmpty) ∨ ∃ kvs, H p = some (.dK kvs) ∧ k = !kvs.isEmpty
  | _ => False
theorem isEmpty_kv {κ : Type} {kvs : List (κ × V)} {vs : List (κ × Value)} (r : KV kvs vs) : (!vs.isEmpty) = !kvs.isEmpty := by
  cases r <;> rfl
theorem isEmpty_of {xs : List V} {its : List Value} (r : Vals xs its) : (!its.toArray.isEmpty) = !xs.isEmpty := by
  cases r <;> simp
theorem line63 : (sizeLine : Nat) < 2 ^ 63 := by rw [sizeLine_eq]; decide
theorem tru_ok : TruR X (fun x H Q => ∃ k, TruV X.K x H k ∧ Q k H) := by
  intro pins s σ H x v Q I rx h
  obtain ⟨k, e, q⟩ := h
  have hl := line63
  have hs : sizeLine = 16777216 := sizeLine_eq
  cases x with
  | non =>
    cases rx
    have e' : k = false := e
    subst e'
    exact truthy_none ⟨H, I, q⟩
  | bl b =>
    cases rx
    have e' : k = b := e
    subst e'
    exact wpAny_truthy_bool ⟨H, I, q⟩
  | int i =>
    obtain ⟨t, rfl⟩ := rx
    have e' : k = (i != 0) := e
    subst e'
    exact PySem.P.truthy_int ⟨H, I, q⟩
  | str y =>
    obtain ⟨t, rfl⟩ := rx
    obtain ⟨hy, e'⟩ : y.length ≤ sizeLine ∧ k = ((y.length : Int) != 0) := e
    subst e'
    exact PySem.P.truthy_str (by omega) ⟨H, I.tok _, q⟩
  | byt y =>
    obtain ⟨t, rfl⟩ := rx
    obtain ⟨hy, e'⟩ : y.size ≤ sizeLine ∧ k = ((y.size : Int) != 0) := e
    subst e'
    exact PySem.W.truthy_bytes (by omega) ⟨H, I.tok _, q⟩
  | ref p =>
    cases rx
    have e' : (∃ xs, SqL X.K H p xs ∧ k = !xs.isEmpty) ∨ (∃ xs, SqT X.K H p xs ∧ k = !xs.isEmpty) ∨ ∃ kvs, H p = some (.dK kvs) ∧ k = !kvs.isEmpty := e
    rcases e' with ⟨xs, hx, e'⟩ | ⟨xs, hx, e'⟩ | ⟨kvs, hx, e'⟩
    · subst e'
      obtain ⟨its, r, pl, hz⟩ := I.list hx
      have hlen := r.length
      exact wpAny_truthy_list pl.isList (by simp only [List.size_toArray]; omega) ⟨H, I.tok _, by rw [isEmpty_of r]; exact q⟩
    · subst e'
      obtain ⟨its, r, pl, hz⟩ := I.tuple hx
      have hlen := r.length
      exact truthy_tuple pl (by simp only [List.size_toArray]; omega) ⟨H, I.tok _, by rw [isEmpty_of r]; exact q⟩
    · subst e'
      obtain ⟨hz, hS, vs, r, m⟩ : kvs.length ≤ sizeLine ∧ (p == sysModules) = false ∧ ∃ vs, KV kvs vs ∧ s.heap.DictOf (mixKind X.prog X.w) p vs := I.hok p _ hx
      have hlen : kvs.length = vs.length := Paired.length r
      exact wpAny_truthy_dict hS m (by omega) ⟨H, I.tok _, by rw [isEmpty_kv r]; exact q⟩
  | _ => exact (show False from e).elim
theorem pt_truth (ha : PE X a ta) (he : ∀ whole, isTrue a X.env whole = (do let v ← whole; standAt a.pos; holding [v] (truthy v))) :
    PT X a (fun σ H Q => ta σ H fun x H' => ∃ k, TruV X.K x H' k ∧ Q k H') := by
  intro pins s σ H Q I h
  exact isTrue_plain (thn (ha pins s σ H _ I h) fun v s1 ⟨x, H1, I1, r1, q1⟩ => tru_ok pins s1 σ H1 x v Q I1 r1 q1) (he _)

theorem op_add_str : OpR X (binaryOp .Add) (fun x y H Q => ∃ i j, x = .str i ∧ y = .str j ∧ i.length + j.length ≤ sizeLine ∧ Q (.str (i ++ j)) H) := by
  intro pins s σ H x y v u Q I rx ry h
  obtain ⟨i, j, rfl, rfl, hz, q⟩ := h
  obtain ⟨t, rfl⟩ := rx
  obtain ⟨t', rfl⟩ := ry
  exact add_str (fun t' tk => ⟨.str (i ++ j), H, I.tok _, ⟨_, rfl⟩, q⟩) hz
theorem vals1 {x : V} {us : List Value} (r : Vals [x] us) : ∃ u, us = [u] ∧ RelV x u := by
  cases r with
  | cons r1 r2 => cases r2; exact ⟨_, rfl, r1⟩
theorem call_int1 : CallR X (.type "int") (fun xs H Q => (∃ i, xs = [.int i] ∧ Q (.int i) H) ∨ ∃ k, xs = [.bl k] ∧ Q (.int (if k then 1 else 0)) H) := by
  intro pins s σ H xs us Q I r h
  rcases h with ⟨i, rfl, q⟩ | ⟨k, rfl, q⟩
  · obtain ⟨u, rfl, t, rfl⟩ := vals1 r
    exact call_int_int ⟨.int i, H, I, ⟨_, rfl⟩, q⟩
  · obtain ⟨u, rfl, r1⟩ := vals1 r
    cases r1
    exact call_int_bool ⟨.int (if k then 1 else 0), H, I.tok _, ⟨_, rfl⟩, q⟩
theorem call_str_int : CallR X (.type "str") (fun xs H Q => ∃ i, xs = [.int i] ∧ i.natAbs.log2 < 1920 ∧ Q (.str (toString i)) H) := by
  intro pins s σ H xs us Q I r h
  obtain ⟨i, rfl, hz, q⟩ := h
  obtain ⟨u, rfl, t, rfl⟩ := vals1 r
  exact PySem.P.str_of_int hz ⟨.str _, H, I.tok _, ⟨_, rfl⟩, q⟩
def LenV (K : PySem.W.Frag) (x : V) (H : Hp) (n : Nat) : Prop :=
  match x with
  | .str y => y.length ≤ sizeLine ∧ n = y.length
  | .byt y => y.size ≤ sizeLine ∧ n = y.size
  | .ref p => (∃ xs, SqL K H p xs ∧ n = xs.length) ∨ ∃ xs, SqT K H p xs ∧ n = xs.length
  | _ => False
theorem call_len : CallR X (.builtin "len") (fun xs H Q => ∃ x n, xs = [x] ∧ LenV X.K x H n ∧ Q (.int n) H) := by
  intro pins s σ H xs us Q I r h
  obtain ⟨x, n, rfl, e, q⟩ := h
  obtain ⟨u, rfl, rx⟩ := vals1 r
  have hl := line63
  have hs : sizeLine = 16777216 := sizeLine_eq
  cases x with
  | str y =>
    obtain ⟨t, rfl⟩ := rx
    obtain ⟨hy, e'⟩ : y.length ≤ sizeLine ∧ n = y.length := e
    subst e'
    exact len_str (by omega) ⟨.int _, H, I.tok _, ⟨_, rfl⟩, q⟩
  | byt y =>
    obtain ⟨t, rfl⟩ := rx
    obtain ⟨hy, e'⟩ : y.size ≤ sizeLine ∧ n = y.size := e
    subst e'
    exact PySem.W.len_bytes (by omega) ⟨.int _, H, I.tok _, ⟨_, rfl⟩, q⟩
  | ref p =>
    cases rx
    have e' : (∃ xs, SqL X.K H p xs ∧ n = xs.length) ∨ ∃ xs, SqT X.K H p xs ∧ n = xs.length := e
    rcases e' with ⟨xs, hx, e'⟩ | ⟨xs, hx, e'⟩
    · subst e'
      obtain ⟨its, r', pl, hz⟩ := I.list hx
      have hlen := r'.length
      exact Calls.call_len_list pl.isList (by simp only [List.size_toArray]; omega) ⟨.int xs.length, H, I.tok _, ⟨_, by simp only [List.size_toArray]; rw [hlen]⟩, q⟩
    · subst e'
      obtain ⟨its, r', pl, hz⟩ := I.tuple hx
      have hlen := r'.length
      exact len_tuple pl (by simp only [List.size_toArray]; omega) ⟨.int xs.length, H, I.tok _, ⟨_, by simp only [List.size_toArray]; rw [hlen]⟩, q⟩
  | _ => exact (show False from e).elim
end
end L2

namespace L2
open PySem PySem.Spec PyProof.Rows

structure ObjM (h : Heap) (x dx C : Addr) (mA : Str → Option Value) : Prop where
  obj : h.get? x = some (PySem.W.instObj C dx)
  ns : h.Ns1 dx mA
  ne : dx ≠ x

theorem lookIn_ns {h : Heap} {dx : Addr} {mA : Str → Option Value} (n : h.Ns1 dx mA) : ∃ od, h.get? dx = some od ∧ ∀ name, PySem.W.lookIn name od = some (mA name) := by
  obtain ⟨o, es, ep, ho, hd, hk, _, hm⟩ := n
  refine ⟨o, ho, fun name => ?_⟩
  have e := hm name
  unfold nsFind findBy at e
  rw [← Array.find?_toList] at e
  unfold PySem.W.lookIn
  rw [hd]
  dsimp only
  split
  · rename_i y q
    rw [q] at e
    exact congrArg some e
  · rename_i q
    rw [q] at e
    have a : es.toList.any (·.refKey) = false := by
      rw [List.any_eq_false]
      intro y hy
      obtain ⟨z, t, hkey⟩ := hk y (Array.mem_toList_iff.mp hy)
      simp [DictEntry.refKey, hkey]
    have a' : ¬ es.toList.any (·.refKey) = true := by rw [a]; exact Bool.false_ne_true
    rw [if_neg a']
    exact congrArg some e

theorem ObjM.look {h : Heap} {x dx C : Addr} {mA : Str → Option Value} (I : ObjM h x dx C mA) : ∃ od, PySem.W.InstAt h x (PySem.W.instObj C dx) C (some od) ∧ ∀ name, PySem.W.lookIn name od = some (mA name) :=
  let ⟨od, ho, hl⟩ := lookIn_ns I.ns
  ⟨od, ⟨I.obj, rfl, rfl, ho⟩, hl⟩

section
variable {prog : Program} {w : World} {A : Around} {E : Value → Shared → Prop} {s : Shared} {K : PySem.W.Frag} {x dx C f : Addr} {mA : Str → Option Value} {name : Str} {v : Value}

end

section
variable {P : Program} {w : World} {H H' : Hp} {h h' : Heap} {a C dx : Addr} {fs fs' : List (Str × V)}
theorem ins_get (hok : HOk P w H h) (e : H a = some (.ins C dx fs)) : ∃ mA, ObjM h a dx C mA ∧ (∀ f, RelO (fs.lookup f) (mA f)) ∧ PySem.Within mA (fs.map (·.1)) ∧ fs.length ≤ 1000 ∧ H dx = some (.own a) := by
  obtain ⟨d, z, ne, ob, mA, n, r, q⟩ := (show ObjOk P w H h a (.ins C dx fs) from hok a _ e)
  exact ⟨mA, ⟨ob, n, ne⟩, r, q, z, d⟩
end

structure Cls (K : PySem.W.Frag) (C : Addr) : Prop where
  pg : PySem.W.plainGet K C Str.empty = true
  hd : PySem.W.hasDictIn K C = true
  po : PySem.W.plainOver K C = true
  sa : PySem.W.findIn K (.ref C) "__setattr__" = some (some (.builtin "object.__setattr__"))
theorem Cls.get {K : PySem.W.Frag} {C : Addr} (c : Cls K C) (f : Str) : PySem.W.plainGet K C f = true := c.pg
structure Con (K : PySem.W.Frag) (C : Addr) (f : Str) (v : V) (u : Value) : Prop where
  at_ : PySem.W.findIn K (.ref C) f = some (some u)
  rel : RelV v u
  get : PySem.W.specialIn K u "__get__" = some none
  cp : PySem.W.copiedNames.contains f = false
structure Meth (K : PySem.W.Frag) (C : Addr) (m : Str) (f : Addr) : Prop where
  at_ : PySem.W.findIn K (.ref C) m = some (some (.ref f))
  fn : PySem.W.isFn K (.ref f) = true
  kp : PySem.W.keepIn K (.ref f) = true

section
variable {X : Cx} {pins : List (Addr × Obj)} {σ : St} {H : Hp} {s : Shared} {a C dx : Addr} {fs : List (Str × V)} {f : Str} {v : V} {A : Around} {E : Value → Shared → Prop}

end

section
variable {X : Cx} {o e value : Expr} {f : Str} {pos pos' tpos : Pos} {ta tv : TE}
end

section
variable {X : Cx} {pins : List (Addr × Obj)} {σ : St} {H : Hp} {s : Shared} {A : Around} {E : Value → Shared → Prop} {Q : Value → Shared → Prop} {c : Value} {b : Bool}
inductive TyOf (K : PySem.W.Frag) (H : Hp) : V → Value → Prop where
  | non : TyOf K H .non (.type "NoneType")
  | bl (x : Bool) : TyOf K H (.bl x) (.type "bool")
  | int (i : Int) : TyOf K H (.int i) (.type "int")
  | str (x : Str) : TyOf K H (.str x) (.type "str")
  | flt (x : UInt64) : TyOf K H (.flt x) (.type "float")
  | lst {a : Addr} {xs : List V} (e : H a = some (.lst xs)) : TyOf K H (.ref a) (.type "list")
  | frz {a : Addr} {o : Obj} {xs : List V} (e : H a = some (.frz o (.lst xs))) : TyOf K H (.ref a) (.type "list")
  | tup {a : Addr} {xs : List V} (e : H a = some (.tup xs)) : TyOf K H (.ref a) (.type "tuple")
  | dK {a : Addr} {kvs : List (Key × V)} (e : H a = some (.dK kvs)) : TyOf K H (.ref a) (.type "dict")
  | dT {a : Addr} {kvs : List (List Key × V)} (e : H a = some (.dT kvs)) : TyOf K H (.ref a) (.type "dict")
  | ins {a C dx : Addr} {fs : List (Str × V)} (e : H a = some (.ins C dx fs)) (cl : Cls K C) (ha : PySem.W.findIn K (.ref C) "__class__" = some (some (.builtin "object.__class__")))
      (hn : PySem.W.specialIn K (.builtin "object.__class__") "__get__" = some (some (.builtin "getset_descriptor.__get__"))) (htk : PySem.W.takesIn K (.builtin "object.__class__") = some true)
      (hm : PySem.W.mroIn K C (.type "object") = some true) : TyOf K H (.ref a) (.ref C)
theorem isinst_ok {x : V} {u t : Value} (I : Inv X pins σ H s) (rx : RelV x u) (ty : TyOf X.K H x t) (e : PySem.W.kitOne X.K t c = some b) (h : ∀ tk, Q (.bool b) { s with toks := tk }) :
    wpAny (model X.prog X.w) A (call (.builtin "isinstance") [u, c]) Q E s := by
  cases ty with
  | non => cases (show u = Value.none from rx); exact PySem.W.kia_one PySem.W.kitx_none I.kIn True.intro e (fun z => nomatch z) h
  | bl y => cases (show u = Value.bool y from rx); exact PySem.W.kia_one PySem.W.kitx_bool I.kIn True.intro e (fun z => nomatch z) h
  | int i => obtain ⟨t, q⟩ := (show ∃ t, u = Value.int i t from rx); cases q; exact PySem.W.kia_one PySem.W.kitx_int I.kIn True.intro e (fun z => nomatch z) h
  | str y => obtain ⟨t, q⟩ := (show ∃ t, u = Value.str y t from rx); cases q; exact PySem.W.kia_one PySem.W.kitx_str I.kIn True.intro e (fun z => nomatch z) h
  | flt y => obtain ⟨t, q⟩ := (show ∃ t, u = Value.float y t from rx); cases q; exact PySem.W.kia_one PySem.W.kitx_float I.kIn True.intro e (fun z => nomatch z) h
  | @lst a xs ea =>
    cases (show u = Value.ref a from rx)
    obtain ⟨_, _, n, _, h1⟩ := (show ObjOk X.prog X.w H s.heap a (.lst xs) from I.hok a _ ea)
    exact PySem.W.kia_one PySem.W.kitx_list I.kIn ⟨_, h1, rfl⟩ e (fun z => nomatch z) h
  | @frz a ob xs ea =>
    cases (show u = Value.ref a from rx)
    obtain ⟨_, _, _, n, _, h1⟩ := (show ObjOk X.prog X.w H s.heap a (.frz ob (.lst xs)) from I.hok a _ ea)
    exact PySem.W.kia_one PySem.W.kitx_list I.kIn ⟨_, h1, rfl⟩ e (fun z => nomatch z) h
  | @tup a xs ea =>
    cases (show u = Value.ref a from rx)
    obtain ⟨_, _, _, p⟩ := (show ObjOk X.prog X.w H s.heap a (.tup xs) from I.hok a _ ea)
    obtain ⟨o, h1, h2, _⟩ := p
    exact PySem.W.kia_one PySem.W.kitx_tuple I.kIn ⟨o, h1, h2⟩ e (fun z => nomatch z) h
  | @dK a kvs ea =>
    cases (show u = Value.ref a from rx)
    obtain ⟨_, _, vs, _, p⟩ := (show ObjOk X.prog X.w H s.heap a (.dK kvs) from I.hok a _ ea)
    obtain ⟨o, es, ep, h1, h2, _⟩ := p
    exact PySem.W.kia_one PySem.W.kitx_dict I.kIn ⟨o, h1, h2.1⟩ e (fun z => nomatch z) h
  | @dT a kvs ea =>
    cases (show u = Value.ref a from rx)
    obtain ⟨_, _, xs, _, o, es, ep, h1, h2, _⟩ := (show ObjOk X.prog X.w H s.heap a (.dT kvs) from I.hok a _ ea)
    exact PySem.W.kia_one PySem.W.kitx_dict I.kIn ⟨o, h1, h2.1⟩ e (fun z => nomatch z) h
  | @ins a C dx fs ea cl ha hn htk hm =>
    cases (show u = Value.ref a from rx)
    obtain ⟨mA, O, _⟩ := ins_get I.hok ea
    obtain ⟨od, J, _⟩ := O.look
    exact PySem.W.kia_one (PySem.W.kitx_own (cl.get _) cl.hd ha hn htk hm) I.kIn J e (fun z => nomatch z) h
end
end L2

namespace L2
open PySem PySem.Spec PyProof.Rows

structure Room (k : Nat) (A : Around) : Prop where
  hd : A.handled = none
  dp : A.depth + 3 * k + 5 < recursionLimit
  un : A.units + 16 * k + 200 < cLine
theorem Room.mono {j k : Nat} {A : Around} (r : Room k A) (h : j ≤ k) : Room j A := ⟨r.hd, by have := r.dp; omega, by have := r.un; omega⟩
theorem Room.deeper {k : Nat} {A : Around} (r : Room (k + 1) A) (env : Env) : Room k (A.deeper env) :=
  ⟨r.hd, by have := r.dp; show A.depth + 1 + 3 * k + 5 < _; omega, by have := r.un; show A.units + 3 + 16 * k + 200 < _; omega⟩
theorem Room.in1 {k : Nat} {A : Around} (r : Room (k + 1) A) : Room k A.in1 :=
  ⟨r.hd, by have := r.dp; show A.depth + 3 * k + 5 < _; omega, by have := r.un; show A.units + 1 + 16 * k + 200 < _; omega⟩
theorem Room.depth {k : Nat} {A : Around} (r : Room k A) : A.depth < recursionLimit := by have := r.dp; omega
theorem Room.units {k : Nat} {A : Around} (r : Room k A) : A.units + 64 < cLine := by have := r.un; omega
def tNil : TA := fun _ H Q => Q [] H
def tCons (ta : TE) (tr : TA) : TA := fun σ H Q => ta σ H fun x H1 => tr σ H1 fun xs H2 => Q (x :: xs) H2
section
variable {X : Cx} {e : Expr} {es : List Expr} {te : TE} {t : TA} {pos : Pos}
theorem pa_nil : PA X [] tNil := fun _ _ _ _ H Q I h => Calls.spliced_nil ⟨[], H, I, .nil, h⟩
theorem pa_cons (ha : PE X e te) (hr : PA X es t) (hs : starEach (e :: es) X.env = (false, eval e X.env) :: starEach es X.env := by rfl) : PA X (e :: es) (tCons te t) := by
  intro pos pins s σ H Q I h
  rw [hs]
  show wpAny _ _ (spliced ((false, eval e X.env) :: backTo pos (starEach es X.env))) _ _ s
  refine Calls.spliced_cons (thn (ha pins s σ H _ I h) fun u s1 ⟨x, H1, I1, r1, q1⟩ => ?_)
  exact thn (hr pos pins s1 σ H1 _ I1 q1) fun us s2 ⟨xs, H2, I2, r2, q2⟩ => ⟨x :: xs, H2, I2, .cons r1 r2, q2⟩

def tTup (t : TA) : TE := fun σ H Q => t σ H fun xs H1 => xs.length ≤ sizeLine ∧ ∀ p, H1 p = none → Q (.ref p) (upd H1 p (.tup xs))
def tLst (t : TA) : TE := fun σ H Q => t σ H fun xs H1 => xs.length ≤ sizeLine ∧ ∀ p, H1 p = none → Q (.ref p) (upd H1 p (.lst xs))
theorem pe_tup {x1} (h : PA X es t) : PE X (.Tuple es x1 pos) (tTup t) := by
  intro pins s σ H Q I hq
  refine wpAny_Tuple_spliced (thn (h pos pins s σ H _ I hq) fun us s1 ⟨xs, H1, I1, r, z, q⟩ => ⟨by rw [← r.length]; exact z, ?_⟩)
  have hf : H1 s1.heap.objs.size = none := I1.hok.fresh (Nat.le_refl _)
  refine ⟨.ref s1.heap.objs.size, upd H1 s1.heap.objs.size (.tup xs), I1.laid (t' := s1.toks) (fun b u e => Heap.get?_push_of_some _ e) (Nat.le_refl _) ?_, rfl, q _ hf⟩
  exact ⟨z, us, r, ⟨_, Heap.get?_push_size _ rfl, rfl, _, rfl⟩⟩
theorem pe_lst (h : PA X es t) : PE X (.List es pos) (tLst t) := by
  intro pins s σ H Q I hq
  refine wpAny_List_spliced (thn (h pos pins s σ H _ I hq) fun us s1 ⟨xs, H1, I1, r, z, q⟩ => ⟨by rw [← r.length]; exact z, ?_⟩)
  have hf : H1 s1.heap.objs.size = none := I1.hok.fresh (Nat.le_refl _)
  refine ⟨.ref s1.heap.objs.size, upd H1 s1.heap.objs.size (.lst xs), I1.laid (t' := s1.toks) (fun b u e => Heap.get?_push_of_some _ e) (Nat.le_refl _) ?_, rfl, q _ hf⟩
  exact ⟨z, us, 0, r, Heap.get?_push_size _ rfl⟩
end

abbrev Sp := List V → Hp → VK → XK → Prop
abbrev CXT := List Env → Hp → Shared → XK → Value → Shared → Prop

structure Env0 (P : Program) (w : World) (K : PySem.W.Frag) (mg : Str → Option Value) (base : Heap) (A : Around) (outer : List Env) (s : Shared) (H : Hp) : Prop where
  frames : A.frames = some outer
  mod : Mod K mg base
  bs : ∀ b o, base.get? b = some o → s.heap.get? b = some o ∧ H b = none
  bsz : base.objs.size ≤ s.heap.objs.size
  funs : s.heap.FunFrames base outer
  frf : ∀ b ∈ frs outer, H b = none
  hok : HOk P w H s.heap
  bare : AllBare s.gens
def CE (outer : List Env) (P : Program) (w : World) (H : Hp) (s : Shared) (Q : VK) (u : Value) (s' : Shared) : Prop :=
  ∃ v H', s'.os = s.os ∧ AllBare s'.gens ∧ Un (frs outer) [] H H' s.heap s'.heap ∧ HOk P w H' s'.heap ∧ RelV v u ∧ Q v H'
def CR (CX : CXT) (outer : List Env) (P : Program) (w : World) (H : Hp) (s : Shared) (Q : VK) (E : XK) (r : Result) (s' : Shared) : Prop :=
  match r with
  | .ok (.ret u) => CE outer P w H s Q u s'
  | .ok _ => False
  | .error e => CX outer H s E e s'
structure FnOk (P : Program) (w : World) (K : PySem.W.Frag) (mg : Str → Option Value) (base : Heap) (CX : CXT) (k : Nat) (f : Addr) (fd : FuncData) (ps : List Str) (sp : Sp) : Prop where
  len : ∀ vs H Q E, sp vs H Q E → vs.length = ps.length
  run : ∀ (A : Around) (outer : List Env) (s : Shared) (H : Hp) (args : Args) (us : List Value) (vs : List V) (Q : VK) (E : XK), Room k A → Env0 P w K mg base A outer s H → BindsTo s fd args (ps.zip us) → Vals vs us → sp vs H Q E →
    codeAny (model P w) A (.call (.ref f) args) (CR CX outer P w H s Q E) s
theorem FnOk.mono {P : Program} {w : World} {K : PySem.W.Frag} {mg : Str → Option Value} {base : Heap} {CX : CXT} {j k : Nat} {f : Addr} {fd : FuncData} {ps : List Str} {sp : Sp} (F : FnOk P w K mg base CX j f fd ps sp) (h : j ≤ k) :
    FnOk P w K mg base CX k f fd ps sp := ⟨F.len, fun A outer s H args us vs Q E hr => F.run A outer s H args us vs Q E (hr.mono h)⟩
theorem Env0.in1 {P : Program} {w : World} {K : PySem.W.Frag} {mg : Str → Option Value} {base : Heap} {A : Around} {outer : List Env} {s : Shared} {H : Hp} (e : Env0 P w K mg base A outer s H) :
    Env0 P w K mg base A.in1 outer s H := ⟨e.frames, e.mod, e.bs, e.bsz, e.funs, e.frf, e.hok, e.bare⟩

section
variable {X : Cx} {pins : List (Addr × Obj)} {σ : St} {H : Hp} {s s' : Shared}
theorem Inv.env0 (I : Inv X pins σ H s) : Env0 X.prog X.w X.K X.mg X.base X.A X.stack s H :=
  ⟨I.ok.frames, I.ok.mod, I.bs, Nat.le_trans I.ok.bsz I.sz, I.stack, I.stkFree, I.hok, I.bare⟩
theorem Inv.after {Q : VK} {u : Value} (I : Inv X pins σ H s) (h : CE X.stack X.prog X.w H s Q u s') : EP X pins σ Q u s' := by
  obtain ⟨v, H', os, bare, un, hok, r, q⟩ := h
  obtain ⟨hh, g, d, t, os'⟩ := s'
  obtain rfl : os' = s.os := os
  exact ⟨v, H', I.call (h' := hh) (g' := g) (d' := d) (t' := t) (ch := []) un hok bare (fun b z => absurd z (by simp)), r, q⟩
end

def tCall (sp : Sp) (dvs : List V) (E : XK) (t : TA) : TE := fun σ H Q => t σ H fun vs H1 => sp (vs ++ dvs) H1 Q E
def Binds (K : PySem.W.Frag) (fd : FuncData) (ps : List Str) (ds : List Value) : Prop :=
  ∀ (s : Shared) (us : List Value), K.In s.heap → (us ++ ds).length = ps.length → BindsTo s fd ⟨us, []⟩ (ps.zip (us ++ ds))
theorem Binds.all {K : PySem.W.Frag} {fd : FuncData} {ps : List Str} (h : ∀ us : List Value, us.length = ps.length → bindArgs fd ⟨us, []⟩ = pure (ps.zip us)) : Binds K fd ps [] := fun s us _ hl => by
  rw [List.append_nil] at hl ⊢
  exact .of_eq (h us hl)

def Passes (CX : CXT) (X : Cx) (E : XK) : Prop := ∀ (pins : List (Addr × Obj)) (σ : St) (H : Hp) (s : Shared) (e : Value) (s' : Shared), Inv X pins σ H s → CX X.stack H s E e s' → X.xe e s'

section
variable {X : Cx} {CX : CXT} {k : Nat} {f C : Addr} {fd : FuncData} {ps : List Str} {sp : Sp} {dvs : List V} {ds : List Value} {E : XK} {x m : Str} {p pos apos : Pos} {e o : Expr} {es : List Expr} {ta : TE} {t : TA}

theorem run_fn {pins : List (Addr × Obj)} {σ : St} {H : Hp} {s : Shared} {Q : VK} {us : List Value} {vs : List V} (F : FnOk X.prog X.w X.K X.mg X.base CX k f fd ps sp) (hr : Room k X.A) (hb : Binds X.K fd ps ds) (hd : Vals dvs ds) (hx : Passes CX X E)
    (I : Inv X pins σ H s) (r : Vals vs us) (h : sp (vs ++ dvs) H Q E) : wpAny (model X.prog X.w) X.A (call (.ref f) us) (EP X pins σ Q) X.xe s := by
  have r2 : Vals (vs ++ dvs) (us ++ ds) := r.append hd
  have hl : (us ++ ds).length = ps.length := by rw [← r2.length]; exact F.len _ _ _ _ h
  refine wpAny_call (codeAny_mono (F.run X.A X.stack s H ⟨us, []⟩ (us ++ ds) (vs ++ dvs) Q E hr I.env0 (hb s us I.kIn hl) r2 h) fun r s' hq => ?_)
  cases r with
  | error e => exact hx pins σ H s e s' I hq
  | ok fl =>
    cases fl with
    | ret u => exact I.after hq
    | next => exact False.elim hq
    | brk => exact False.elim hq
    | cont => exact False.elim hq

theorem pe_call (F : FnOk X.prog X.w X.K X.mg X.base CX k f fd ps sp) (hr : Room k X.A) (hg : Gl X x) (hm : X.mg x = some (.ref f)) (hk : PySem.W.keepIn X.K (.ref f) = true) (hb : Binds X.K fd ps ds) (hd : Vals dvs ds) (hx : Passes CX X E)
    (ha : PA X (e :: es) t) (hdb : (x == ("__debug__" : Str)) = false := by decide) (he : starEach (e :: es) X.env = (false, eval e X.env) :: starEach es X.env := by rfl) (hpl : (backTo pos (starEach es X.env)).any (·.1) = false := by rfl) :
    PE X (.Call (.Name x p) (e :: es) [] pos) (tCall sp dvs E t) := by
  intro pins s σ H Q I h
  refine wpAny_Call_Name_kw (ld_glob I hg hm ?_ hdb)
  refine PySem.W.callWith_K (h₀ := X.base) I.ok.mod.kin hk (thn (ha pos pins s σ H _ I h) fun us s1 ⟨vs, H1, I1, r, q⟩ => ⟨I1.kIn, ?_⟩) he hpl
  exact run_fn F hr hb hd hx I1 r q
theorem pe_call0 (F : FnOk X.prog X.w X.K X.mg X.base CX k f fd ps sp) (hr : Room k X.A) (hg : Gl X x) (hm : X.mg x = some (.ref f)) (hk : PySem.W.keepIn X.K (.ref f) = true) (hb : Binds X.K fd ps ds) (hd : Vals dvs ds) (hx : Passes CX X E)
    (hdb : (x == ("__debug__" : Str)) = false := by decide) : PE X (.Call (.Name x p) [] [] pos) (tCall sp dvs E tNil) := by
  intro pins s σ H Q I h
  refine wpAny_Call_Name_kw (ld_glob I hg hm ?_ hdb)
  exact PySem.W.callWith_K0 I.kIn hk (run_fn (us := []) F hr hb hd hx I .nil h)

structure Mk (K : PySem.W.Frag) (C f : Addr) : Prop where
  makes : PySem.W.makesIn K C = true
  init : PySem.W.findIn K (.ref C) "__init__" = some (some (.ref f))
  fn : PySem.W.isFn K (.ref f) = true
  kp : PySem.W.keepIn K (.ref C) = true

end

section
variable {X : Cx} {CX : CXT} {k : Nat} {f C : Addr} {fd : FuncData} {ps ks : List Str} {sp : Sp} {E : XK} {x m : Str} {p pos apos kpos : Pos} {e o : Expr} {es : List Expr} {kws : List Keyword} {te ta : TE} {t tk : TA} {nm : Option Str}
structure KBinds (K : PySem.W.Frag) (fd : FuncData) (ps ks : List Str) (g : List Value → List Value → List Value) (gV : List V → List V → List V) : Prop where
  to : ∀ (s : Shared) (us ws : List Value), K.In s.heap → (g us ws).length = ps.length → BindsTo s fd ⟨us, ks.zip ws⟩ (ps.zip (g us ws))
  rel : ∀ {vs : List V} {us : List Value} {zs : List V} {ws : List Value}, Vals vs us → Vals zs ws → Vals (gV vs zs) (g us ws)
variable {g : List Value → List Value → List Value} {gV : List V → List V → List V}
end

structure FnScope (N P : List Str) (sc : Scope) : Prop where
  kind : sc.kind = .function
  co : sc.isCoroutine = false
  gen : sc.isGenerator = false
  nd : N.Nodup
  pre : N.take P.length = P
  par : ∀ x ∈ P, sc.names.lookup x = some .local ∨ sc.names.lookup x = some .cell
  nofree : ∀ y ∈ sc.names, y.2 ≠ .free

theorem bindL_out {kindOf : Str → Option NameKind} {x : Str} : ∀ {binds : List (Str × Value)} {m : Str → Option Value}, (∀ v, (x, v) ∉ binds) → bindL kindOf binds m x = m x
  | [], _, _ => rfl
  | (n, v) :: r, m, h => by
    unfold bindL
    rw [bindL_out fun w hw => h w (List.mem_cons_of_mem _ hw)]
    split
    · have : x ≠ n := by rintro rfl; exact h v List.mem_cons_self
      simp [this]
    · rfl
theorem bindC_out {kindOf : Str → Option NameKind} {x : Str} : ∀ {binds : List (Str × Value)} {m : Str → Option Value}, (∀ v, (x, v) ∉ binds) → bindC kindOf binds m x = m x
  | [], _, _ => rfl
  | (n, v) :: r, m, h => by
    unfold bindC
    rw [bindC_out fun w hw => h w (List.mem_cons_of_mem _ hw)]
    split
    · rfl
    · have : x ≠ n := by rintro rfl; exact h v List.mem_cons_self
      simp [this]
theorem bindL_get {kindOf : Str → Option NameKind} {x : Str} {v : Value} : ∀ {P : List Str} {vs : List Value} {i : Nat} {m : Str → Option Value}, P.Nodup → P[i]? = some x → vs[i]? = some v → kindOf x = some .local →
    bindL kindOf (P.zip vs) m x = some v
  | [], _, _, _, _, h, _, _ => by simp at h
  | _ :: _, [], _, _, _, _, h, _ => by simp at h
  | p :: P, w :: vs, 0, m, nd, h1, h2, hk => by
    simp at h1 h2; subst h1; subst h2
    show bindL kindOf ((p, w) :: P.zip vs) m p = _
    unfold bindL
    rw [bindL_out fun v hv => (List.nodup_cons.mp nd).1 (List.of_mem_zip hv).1, if_pos hk]
    simp
  | p :: P, w :: vs, i + 1, m, nd, h1, h2, hk => by
    show bindL kindOf ((p, w) :: P.zip vs) m x = _
    unfold bindL
    exact bindL_get (i := i) (List.nodup_cons.mp nd).2 (by simpa using h1) (by simpa using h2) hk
theorem bindC_get {kindOf : Str → Option NameKind} {x : Str} {v : Value} : ∀ {P : List Str} {vs : List Value} {i : Nat} {m : Str → Option Value}, P.Nodup → P[i]? = some x → vs[i]? = some v → kindOf x ≠ some .local →
    bindC kindOf (P.zip vs) m x = some v
  | [], _, _, _, _, h, _, _ => by simp at h
  | _ :: _, [], _, _, _, _, h, _ => by simp at h
  | p :: P, w :: vs, 0, m, nd, h1, h2, hk => by
    simp at h1 h2; subst h1; subst h2
    show bindC kindOf ((p, w) :: P.zip vs) m p = _
    unfold bindC
    rw [bindC_out fun v hv => (List.nodup_cons.mp nd).1 (List.of_mem_zip hv).1, if_neg hk]
    simp
  | p :: P, w :: vs, i + 1, m, nd, h1, h2, hk => by
    show bindC kindOf ((p, w) :: P.zip vs) m x = _
    unfold bindC
    exact bindC_get (i := i) (List.nodup_cons.mp nd).2 (by simpa using h1) (by simpa using h2) hk

def start (N : List Str) (vs : List V) : St := vs.map some ++ List.replicate (N.length - vs.length) none

def cxOf (CX : CXT) (P : Program) (w : World) (K : PySem.W.Frag) (mg : Str → Option Value) (base : Heap) (N : List Str) (qual : Str) (scope : Scope) (f : Addr) (cd : Value) (A : Around) (outer : List Env) (s : Shared) (H : Hp) (E : XK) : Cx where
  prog := P
  w := w
  K := K
  mg := mg
  base := base
  A := A.deeper (envOfC qual scope s.heap.objs.size f cd)
  N := N
  s₀ := s
  H₀ := H
  env := envOfC qual scope s.heap.objs.size f cd
  outer := outer
  stack := envOfC qual scope s.heap.objs.size f cd :: outer
  ex := []
  calm := true
  fn := fun _ => true
  pn := []
  xe := fun e s' => wpAny (model P w) (A.deeper (envOfC qual scope s.heap.objs.size f cd)) (leaving (envOfC qual scope s.heap.objs.size f cd) e) (fun _ s'' => CX outer H s E e s'') (fun e' s'' => CX outer H s E e' s'') s'

theorem cell_has {sc : Scope} {n : Nat} {x : Str} (h : sc.names.lookup x = some .cell) : ∃ c, (cellsFrom n sc.names []).lookup x = some c := by
  have q := PySem.W.cellsFrom_some sc.names n [] (.inl h)
  exact Option.isSome_iff_exists.mp q

theorem inv_start {CX : CXT} {P : Program} {w : World} {K : PySem.W.Frag} {mg : Str → Option Value} {base : Heap} {N ps : List Str} {qual : Str} {scope : Scope} {f : Addr} {cd : Value} {A : Around} {outer : List Env} {s s1 : Shared} {H : Hp} {E : XK} {us : List Value} {vs : List V}
    (S : FnScope N ps scope) (hd : A.handled = none) (e0 : Env0 P w K mg base A outer s H) (hl : vs.length = ps.length) (r : Vals vs us)
    (x : InCallC s s.heap.objs.size (bindL (envOfC qual scope s.heap.objs.size f cd).kindOf (ps.zip us) fun _ => none) (cellsFrom (s.heap.objs.size + 1) scope.names []) (bindC (envOfC qual scope s.heap.objs.size f cd).kindOf (ps.zip us) fun _ => none) s1) :
    Inv (cxOf CX P w K mg base N qual scope f cd A outer s H E) [] (start N vs) H s1 := by
  have hpl : ps.length ≤ N.length := by have := congrArg List.length S.pre; rw [List.length_take] at this; omega
  obtain ⟨h1, tk, rfl, hk⟩ := x.done
  have noA : ∀ b : Addr, b ∉ (cxOf CX P w K mg base N qual scope f cd A outer s H E).ex := fun b z => absurd (show b ∈ ([] : List Addr) from z) (by simp)
  refine ⟨⟨e0.mod, S.kind, rfl, rfl, Nat.le_refl _, fun y z c h1 h2 => ?_, fun y hy => ?_, fun y c _ h => ?_, fun _ => hd, Around.frames_deeper e0.frames, .inr ⟨rfl, rfl⟩, fun b z => absurd z (noA b), e0.bs, e0.bsz, fun b _ _ => noA b, fun b z => absurd z (noA b), e0.funs, e0.frf⟩,
    rfl, e0.bare, Un.kept hk, ⟨_, x.toInCall.ns, fun i y v h1 h2 h3 => ?_⟩, fun y c h => ⟨_, x.cell y c h⟩, e0.hok.fresh (Nat.le_refl _), fun y c h => ?_, fun p hp => absurd (show p ∈ ([] : List (Addr × Obj)) from hp) (by simp), e0.hok.kept hk, ?_⟩
  · exact name_of_addr x.apart (PySem.mem_of_lookup h1) (PySem.mem_of_lookup h2)
  · have hy : scope.names.lookup y = some .cell ∨ scope.names.lookup y = some .free := hy
    rcases hy with hy | hy
    · exact cell_has hy
    · exact absurd rfl (S.nofree _ (PySem.mem_of_lookup hy))
  · exact Nat.le_of_lt (x.above y c (PySem.mem_of_lookup h))
  · have hi : i < vs.length := by
      unfold start at h2
      by_cases hi : i < vs.length
      · exact hi
      · rw [List.getElem?_append_right (by simpa using hi)] at h2
        rw [List.getElem?_replicate] at h2
        split at h2 <;> cases h2
    have ha : vs[i]? = some v := by
      unfold start at h2
      rw [List.getElem?_append_left (by simpa using hi), List.getElem?_map] at h2
      cases e : vs[i]? with
      | none => rw [e] at h2; cases h2
      | some a => rw [e] at h2; cases h2; rfl
    obtain ⟨u, hu, rv⟩ := r.get ha
    have hp : ps[i]? = some y := by
      rw [← S.pre, List.getElem?_take_of_lt (by omega)]; exact h1
    have ndP : ps.Nodup := by rw [← S.pre]; exact S.nd.sublist (List.take_sublist _ _)
    refine ⟨u, rv, ?_⟩
    rcases S.par y (List.mem_of_getElem? hp) with k | k
    · exact .inl ⟨k, bindL_get ndP hp hu k⟩
    · obtain ⟨c, e⟩ := cell_has (n := s.heap.objs.size + 1) k
      refine .inr ⟨.inl k, c, e, ?_⟩
      have q := x.cell y c e
      rw [bindC_get ndP hp hu (by show scope.names.lookup y ≠ _; rw [k]; decide)] at q
      exact q
  · exact e0.hok.fresh (Nat.le_of_lt (x.above y c (PySem.mem_of_lookup h)))
  · unfold start
    show _ = N.length
    rw [List.length_append, List.length_map, List.length_replicate]
    omega

theorem fn_of {CX : CXT} {P : Program} {w : World} {K : PySem.W.Frag} {mg : Str → Option Value} {base : Heap} {k : Nat} {f : Addr} {name qual : Str} {params : Arguments} {body : List Stmt} {scope : Scope} {dV kV doc pm cdv ct oc : Value} {an od : Option Addr}
    {osl : Array (Option Value)} {N ps : List Str} {sp : Sp} (lk : K.lookup f = some ⟨oc, od, .func (PySem.W.fnOf name qual params body scope dV kV doc pm an cdv ct), osl⟩) (hcd : PySem.W.codeIn K cdv qual = true) (S : FnScope N ps scope)
    (len : ∀ vs H Q E, sp vs H Q E → vs.length = ps.length)
    (hbody : ∀ (A : Around) (outer : List Env) (s : Shared) (H : Hp) (vs : List V) (Q : VK) (E : XK), Room k (A.deeper (envOfC qual scope s.heap.objs.size f cdv)) → sp vs H Q E →
      ∃ t, PSs (cxOf CX P w K mg base N qual scope f cdv A outer s H E) body t ∧ t { nx := fun _ H' => Q .non H', rt := Q } (start N vs) H) :
    FnOk P w K mg base CX (k + 1) f (PySem.W.fnOf name qual params body scope dV kV doc pm an cdv ct) ps sp := by
  refine ⟨len, fun A outer s H args us vs Q E hr e0 hb r hsp => ?_⟩
  have hl := len _ _ _ _ hsp
  have KX : K.In s.heap := e0.mod.kin.keeps fun b o e => (e0.bs b o e).1
  have lim : s.heap.NoLimit := e0.mod.nolimit.keeps fun b o e => (e0.bs b o e).1
  have hkind : ∀ y ∈ ps.zip us, scope.names.lookup y.1 = some .local ∨ (scope.names.lookup y.1 = some .cell ∧ ((cellsFrom (s.heap.objs.size + 1) scope.names []).lookup y.1).isSome = true) := fun ⟨n, v⟩ hy => by
    rcases S.par n (List.of_mem_zip hy).1 with q | q
    · exact .inl q
    · exact .inr ⟨q, PySem.W.cellsFrom_some _ _ _ (.inl q)⟩
  refine codeAny_call_function hr.depth (KX _ _ lk) rfl S.co S.gen rfl (PySem.W.codeRec_of KX hcd) (hb _ _ _ _ ?_)
  refine wpAny_newFunctionEnv_cells S.kind hkind fun env he s1 x => ?_
  subst he
  refine ⟨lim.keeps x.toInCall.keep, codeAny_func ?_⟩
  obtain ⟨t, ht, hq⟩ := hbody A outer s H vs Q E (hr.deeper _) hsp
  have I : Inv (cxOf CX P w K mg base N qual scope f cdv A outer s H E) [] (start N vs) H s1 := inv_start S hr.hd e0 hl r x
  refine wpAny_mono (ht [] s1 (start N vs) H _ I hq) (fun fl s' hs => ?_) fun e s' hs => hs
  have fin : ∀ {σ' : St} {H' : Hp} {v : V} {u : Value}, Inv (cxOf CX P w K mg base N qual scope f cdv A outer s H E) [] σ' H' s' → RelV v u → Q v H' → CE outer P w H s Q u s' :=
    fun {σ' H' v u} J rv q => ⟨v, H', J.os, J.bare, J.base, J.hok, rv, q⟩
  cases fl with
  | ret u =>
    obtain ⟨v, σ', H', J, rv, q⟩ := hs
    exact fin J rv q
  | next =>
    obtain ⟨σ', H', J, q⟩ := hs
    exact fin (v := V.non) (u := Value.none) J rfl q
  | brk =>
    obtain ⟨_, _, _, q⟩ := hs
    exact False.elim q
  | cont =>
    obtain ⟨_, _, _, q⟩ := hs
    exact False.elim q
end L2

namespace L2
open PySem PySem.Spec PyProof.Rows
section
variable {X : Cx} {x : Str} {p pos : Pos} {e : Expr} {es : List Expr} {t : TA} {id T : String} {r : List V → Hp → VK → Prop}

def tCB (r : List V → Hp → VK → Prop) (t : TA) : TE := fun σ H Q => t σ H fun vs H1 => r vs H1 Q
theorem pe_callB (hc : CallR X (.builtin id) r) (hg : Gl X x) (hm : X.mg x = none) (hv : bootBuiltins x = some (.builtin id)) (ha : PA X (e :: es) t) (hn : x ≠ "__name__" := by decide) (hdb : (x == ("__debug__" : Str)) = false := by decide)
    (he : starEach (e :: es) X.env = (false, eval e X.env) :: starEach es X.env := by rfl) (hpl : (backTo pos (starEach es X.env)).any (·.1) = false := by rfl) : PE X (.Call (.Name x p) (e :: es) [] pos) (tCB r t) := by
  intro pins s σ H Q I h
  refine wpAny_Call_Name_kw (ld_blt I hg hm hv ?_ hn hdb)
  exact PyProof.Rows.callWith_builtin1 (thn (ha pos pins s σ H _ I h) fun us s1 ⟨vs, H1, I1, r1, q1⟩ => hc pins s1 σ H1 vs us Q I1 r1 q1) he hpl
theorem pe_callTy (hc : CallR X (.type T) r) (hg : Gl X x) (hm : X.mg x = none) (hv : bootBuiltins x = some (.type T)) (ha : PA X (e :: es) t) (hn : x ≠ "__name__" := by decide) (hdb : (x == ("__debug__" : Str)) = false := by decide)
    (he : starEach (e :: es) X.env = (false, eval e X.env) :: starEach es X.env := by rfl) (hpl : (backTo pos (starEach es X.env)).any (·.1) = false := by rfl) : PE X (.Call (.Name x p) (e :: es) [] pos) (tCB r t) := by
  intro pins s σ H Q I h
  refine wpAny_Call_Name_kw (ld_blt I hg hm hv ?_ hn hdb)
  exact PyProof.Rows.callWith_type1 (thn (ha pos pins s σ H _ I h) fun us s1 ⟨vs, H1, I1, r1, q1⟩ => hc pins s1 σ H1 vs us Q I1 r1 q1) he hpl
end
end L2

namespace HT
open PySem PyProof.Rows

section
open PySem.SeqAt
open PySem.AutoSeq1 (wpAny_loadPart')
open PySem.MeetsSeq PySem.MeetsSeq2 PySem.MeetsSeq3

end

section
variable {prog : Program} {w : World} {A : Around} {E : Value → Shared → Prop} {s : Shared}

theorem cat_tup {t b : Addr} {vs ws : List Value} {Q : Value → Shared → Prop} (ht : IsTup s.heap t vs.toArray) (hb : IsTup s.heap b ws.toArray) (hv : vs ≠ [])
    (h1 : ws = [] → Q (.ref t) s) (h2 : ws ≠ [] → Q (.ref s.heap.objs.size) { s with heap := s.heap.push { cls := .type "tuple", data := .seq (vs ++ ws).toArray } })
    (hsz : vs.length + ws.length ≤ sizeLine) : wpAny (model prog w) A (binaryOp .Add (.ref t) (.ref b)) Q E s := by
  obtain ⟨⟨cls, dd, data, sl⟩, ho, hc, n, hd⟩ := id ht
  obtain ⟨⟨cls2, dd2, data2, sl2⟩, ho2, hc2, n2, hd2⟩ := id hb
  simp only at hc hd hc2 hd2
  subst hc hd hc2 hd2
  have e : vs.toArray ++ ws.toArray = (vs ++ ws).toArray := by simp
  by_cases hw : ws = []
  · exact concat_meets ⟨_, ho, rfl⟩ ⟨_, ho2, rfl⟩ noFill_tuple_add seq_tuple_add PySem.F.slot_tuple_add PySem.F.entry_tuple_add (PySem.F.args_tuple_add_2 _ _)
      (tuple_addW1 t b vs.toArray ws.toArray n n2 dd dd2 sl sl2 (by simpa using hv) (by simp [hw])) ⟨ho, ho2, h1 hw⟩
  · refine concat_meets ⟨_, ho, rfl⟩ ⟨_, ho2, rfl⟩ noFill_tuple_add seq_tuple_add PySem.F.slot_tuple_add PySem.F.entry_tuple_add (PySem.F.args_tuple_add_2 _ _)
      (tuple_addW2 t b vs.toArray ws.toArray n n2 dd dd2 sl sl2 (by simpa using hv) (by simpa using hw) (by rw [List.size_toArray, List.size_toArray]; exact hsz)) ⟨ho, ho2, ?_⟩
    rw [e]
    exact h2 hw

def sIx (n d : Nat) : Option Int → Nat
  | none => d
  | some v => if v < 0 then (v + (n : Int)).toNat else min v.toNat n
theorem sIx_le (n d : Nat) (hd : d ≤ n) (o : Option Int) : sIx n d o ≤ n := by
  cases o with
  | none => exact hd
  | some v =>
    show (if v < 0 then (v + (n : Int)).toNat else min v.toNat n) ≤ n
    by_cases hv : v < 0
    · rw [if_pos hv]; omega
    · rw [if_neg hv]; exact Nat.min_le_right _ _
theorem clip_eq (v : Int) (n d : Nat) : (if v < 0 then max (v + (n : Int)) 0 else min v (n : Int)) = ((sIx n d (some v) : Nat) : Int) := by
  show (if v < 0 then max (v + (n : Int)) 0 else min v (n : Int)) = (((if v < 0 then (v + (n : Int)).toNat else min v.toNat n) : Nat) : Int)
  by_cases hv : v < 0
  · simp only [if_pos hv]; omega
  · simp only [if_neg hv]; omega
theorem adjust_gen (lo hi : Option Int) (n : Nat) : Builtin.Slice.sliceAdjust lo hi 1 (n : Int) = (((sIx n 0 lo : Nat) : Int), ((sIx n n hi : Nat) : Int)) := by
  have h1 : ¬ ((1 : Int) < 0) := by omega
  unfold Builtin.Slice.sliceAdjust
  simp only [h1, if_false]
  refine Prod.ext ?_ ?_
  · cases lo with
    | none => rfl
    | some v => exact clip_eq v n 0
  · cases hi with
    | none => rfl
    | some v => exact clip_eq v n n
theorem places_gen (i j : Nat) : Builtin.Slice.slicePlaces (i : Int) (j : Int) 1 = j - i := by
  unfold Builtin.Slice.slicePlaces
  have h1 : (1 : Int) > 0 := by omega
  simp only [h1, if_true, Int.ediv_one]
  split <;> omega
theorem slicePart_ {v : Value} {o : Option Int} {Q : Option Int → Shared → Prop} (p : IsPart v o) (h : Q o s) : wpAny (model prog w) A (Builtin.Slice.slicePartIndex v) Q E s := by
  cases p with
  | none => exact slicePart_none h
  | int i t => exact slicePart_int h
theorem sliceApplied_gen {sl : Addr} {vl vu : Value} {lo hi : Option Int} {n : Nat} {Q : Int × Int × Nat → Shared → Prop} (hs : s.heap.IsSliceOf sl vl vu .none) (pl : IsPart vl lo) (pu : IsPart vu hi)
    (h : Q (((sIx n 0 lo : Nat) : Int), 1, sIx n n hi - sIx n 0 lo) s) : wpAny (model prog w) A (Builtin.Slice.sliceApplied (.ref sl) (pure (n : Int))) Q E s := by
  obtain ⟨os, hos, hcs, hds⟩ := id hs
  unfold Builtin.Slice.sliceApplied Builtin.Slice.sliceFields
  refine wpAny_bind (wpAny_bind (wpAny_field hos hds (x := vl) rfl (wpAny_bind (wpAny_field hos hds (x := vu) rfl (wpAny_bind (wpAny_field hos hds (x := .none) rfl (wpAny_pure ?_)))))))
  refine wpAny_bind (slicePart_none ?_)
  show wpAny _ _ (if ((1 : Int) == 0) = true then _ else _) _ _ s
  rw [if_neg (by decide)]
  refine wpAny_bind (slicePart_ pl (wpAny_bind (slicePart_ pu (wpAny_bind (wpAny_pure ?_)))))
  show wpAny _ _ (match Builtin.Slice.sliceAdjust lo hi 1 (n : Int) with | (lo, hi) => pure (lo, (1 : Int), Builtin.Slice.slicePlaces lo hi 1)) _ _ s
  rw [adjust_gen lo hi n]
  show wpAny _ _ (pure (((sIx n 0 lo : Nat) : Int), (1 : Int), Builtin.Slice.slicePlaces ((sIx n 0 lo : Nat) : Int) ((sIx n n hi : Nat) : Int) 1)) _ _ s
  rw [places_gen]
  exact wpAny_pure h
theorem pick_gen (xs : Array Value) (i k : Nat) : ((List.range k).filterMap fun (m : Nat) => xs[((i : Int) + (m : Int) * 1).toNat]?).toArray = ((xs.toList.drop i).take k).toArray := by
  have e : (fun (m : Nat) => xs[((i : Int) + (m : Int) * 1).toNat]?) = fun m => xs[i + m]? := by
    funext m
    have : ((i : Int) + (m : Int) * 1).toNat = i + m := by omega
    rw [this]
  rw [e]
  have := pick_run xs i k
  rw [List.filterMap_map] at this
  have e2 : ((fun x => xs[x]?) ∘ fun x => i + x) = fun m => xs[i + m]? := rfl
  rw [e2] at this
  rw [this]

theorem getItem_tuple_cut {t sl : Addr} {items : Array Value} {vl vu : Value} {lo hi : Option Int} {Q : Value → Shared → Prop} (ht : IsTup s.heap t items) (hs : s.heap.IsSliceOf sl vl vu .none) (pl : IsPart vl lo) (pu : IsPart vu hi)
    (hw : ¬ (sIx items.size 0 lo = 0 ∧ sIx items.size items.size hi = items.size))
    (h : Q (.ref s.heap.objs.size) { s with heap := s.heap.push { cls := .type "tuple", data := .seq ((items.toList.drop (sIx items.size 0 lo)).take (sIx items.size items.size hi - sIx items.size 0 lo)).toArray } })
    (hsz : items.size ≤ sizeLine) : wpAny (model prog w) A (getItem (.ref t) (.ref sl)) Q E s := by
  have htake : sizeOk (.seq ((items.toList.drop (sIx items.size 0 lo)).take (sIx items.size items.size hi - sIx items.size 0 lo)).toArray) := by
    show ((items.toList.drop (sIx items.size 0 lo)).take (sIx items.size items.size hi - sIx items.size 0 lo)).toArray.size ≤ sizeLine
    rw [List.size_toArray, List.length_take, List.length_drop, Array.length_toList]
    omega
  have hj : sIx items.size items.size hi ≤ items.size := sIx_le _ _ (Nat.le_refl _) hi
  obtain ⟨os, hos, hcs, hds⟩ := id hs
  have hTs : s.TypeIs (.ref sl) "slice" := ⟨os, hos, hcs⟩
  unfold getItem
  try with_reducible refine wpAny_holding ?_
  first | refine wpAny_bind (wpAny_pure ?_) | skip
  refine wpAny_bind (wpAny_sequenceKey ht.typeIs (by decide) ?_)
  refine wpAny_bind (wpAny_callSpecial?_slot (name := Str.ofString "__getitem__") ht.typeIs PyProof.Rows.slot_tuple_getitem
    (wpAny_call_entry PyProof.Rows.slot_tuple_getitem ht.typeIs entry_tuple_getitem ?_ (args_tuple_getitem _ _)))
  show wpAny _ _ (Builtin.Tuple.tupleItemsOf (.ref t) >>= _) _ _ s
  refine wpAny_bind (tupleItemsOf_ ht ?_)
  refine wpAny_bind (wpAny_typeOf hTs ?_)
  rw [if_pos (by decide)]
  refine wpAny_bind (sliceApplied_gen hs pl pu ?_)
  have hno : ¬ ((((sIx items.size 0 lo : Nat) : Int) == 0 && (1 : Int) == 1 && (sIx items.size items.size hi - sIx items.size 0 lo) == items.size) = true) := by
    intro q
    rw [Bool.and_eq_true, Bool.and_eq_true] at q
    have q1 : ((sIx items.size 0 lo : Nat) : Int) = 0 := eq_of_beq q.1.1
    have q2 : sIx items.size items.size hi - sIx items.size 0 lo = items.size := eq_of_beq q.2
    exact hw ⟨by omega, by omega⟩
  show wpAny _ _ (if (((sIx items.size 0 lo : Nat) : Int) == 0 && (1 : Int) == 1 && (sIx items.size items.size hi - sIx items.size 0 lo) == items.size) = true then _ else _) _ _ s
  rw [if_neg hno, pick_gen]
  first
    | exact wpAny_bind (m := Builtin.Tuple.tupleExact _) (wpAny_newObj_type (wpAny_pure ⟨_, rfl, wpAny_pure h⟩) htake)
    | exact wpAny_bind (m := Builtin.Tuple.tupleExact _) (wpAny_newObj_type (wpAny_bind (wpAny_pure (wpAny_pure ⟨_, rfl, wpAny_pure h⟩))) htake)
    | exact wpAny_bind (wpAny_bind (m := Builtin.Tuple.tupleExact _) (wpAny_newObj_type (wpAny_pure (wpAny_pure ⟨_, rfl, wpAny_pure h⟩)) htake))
    | exact wpAny_bind (wpAny_bind (m := Builtin.Tuple.tupleExact _) (wpAny_newObj_type (wpAny_pure ⟨_, rfl, wpAny_pure h⟩) htake))
end
end HT

namespace L2
open PySem PySem.Spec PyProof.Rows

abbrev TO := St → Hp → (Option Int → Hp → Prop) → Prop
def PO (X : Cx) (e : Option Expr) (t : TO) : Prop :=
  ∀ (pins : List (Addr × Obj)) (s : Shared) (σ : St) (H : Hp) (Q : Option Int → Hp → Prop), Inv X pins σ H s → t σ H Q →
    wpAny (model X.prog X.w) X.A (evalPart e X.env) (fun u s' => ∃ o H', Inv X pins σ H' s' ∧ IsPart u o ∧ Q o H') X.xe s
def tNoPart : TO := fun _ H Q => Q none H
def tPart (t : TE) : TO := fun σ H Q => t σ H fun x H1 => ∃ i, x = .int i ∧ Q (some i) H1

section
variable {X : Cx} {e : Expr} {te : TE} {lo hi : Option Expr} {tl th : TO} {pos p2 : Pos}

theorem po_none : PO X none tNoPart := by
  intro pins s σ H Q I h
  rw [evalPart_none]
  exact wpAny_pure ⟨none, H, I, .none, h⟩
theorem po_some (h : PE X e te) : PO X (some e) (tPart te) := by
  intro pins s σ H Q I hw
  rw [evalPart_some]
  refine thn (h pins s σ H _ I hw) fun u s1 ⟨x, H1, I1, r1, q1⟩ => ?_
  obtain ⟨i, rfl, q⟩ := q1
  obtain ⟨t, rfl⟩ := r1
  exact ⟨some i, H1, I1, .int i t, q⟩

def SlR (X : Cx) (r : V → Option Int → Option Int → Hp → VK → Prop) : Prop :=
  ∀ (pins : List (Addr × Obj)) (s : Shared) (σ : St) (H : Hp) (x : V) (v vl vu : Value) (lo hi : Option Int) (sl : Addr) (Q : VK), Inv X pins σ H s → RelV x v → s.heap.IsSliceOf sl vl vu .none → IsPart vl lo → IsPart vu hi → r x lo hi H Q →
    ∃ T id, typeLookup (.type T) "__getitem__" = pure (some (.builtin id)) ∧ s.TypeIs v T ∧ wpAny (model X.prog X.w) X.A (getItem v (.ref sl)) (EP X pins σ Q) X.xe s
theorem SlR.or {r r' : V → Option Int → Option Int → Hp → VK → Prop} (h : SlR X r) (h' : SlR X r') : SlR X (fun x lo hi H Q => r x lo hi H Q ∨ r' x lo hi H Q) := by
  intro pins s σ H x v vl vu lo hi sl Q I rx hs pl pu q
  rcases q with q | q
  · exact h pins s σ H x v vl vu lo hi sl Q I rx hs pl pu q
  · exact h' pins s σ H x v vl vu lo hi sl Q I rx hs pl pu q
def tSl (r : V → Option Int → Option Int → Hp → VK → Prop) (te : TE) (tl th : TO) : TE := fun σ H Q => te σ H fun x H1 => tl σ H1 fun l H2 => th σ H2 fun u H3 => r x l u H3 Q
theorem pe_slice {r : V → Option Int → Option Int → Hp → VK → Prop} (hr : SlR X r) (he : PE X e te) (hl : PO X lo tl) (hu : PO X hi th) : PE X (.Subscript e (.Slice lo hi none p2) pos) (tSl r te tl th) := by
  intro pins s σ H Q I h
  refine Subscript_ (thn (he pins s σ H _ I h) fun v s1 ⟨x, H1, I1, r1, q1⟩ => ?_)
  refine wpAny_Slice (thn (hl pins s1 σ H1 _ I1 q1) fun vl s2 ⟨l, H2, I2, pl, q2⟩ => thn (hu pins s2 σ H2 _ I2 q2) fun vu s3 ⟨u, H3, I3, pu, q3⟩ => ?_)
  rw [evalPart_none]
  refine wpAny_pure ?_
  have I4 : Inv X pins σ H3 { s3 with heap := s3.heap.push { cls := .type "slice", data := .fields #[vl, vu, .none] } } := I3.kept (t' := s3.toks) fun b ob q => Heap.get?_push_of_some _ q
  obtain ⟨T, id, hT, ht, hg⟩ := hr pins { s3 with heap := s3.heap.push { cls := .type "slice", data := .fields #[vl, vu, .none] } } σ H3 x v vl vu l u s3.heap.objs.size Q I4 r1 (Heap.IsSliceOf.new ..) pl pu q3
  show wpAny (model X.prog X.w) X.A (subscriptTail e (.Slice lo hi none p2) v (.ref s3.heap.objs.size)) (EP X pins σ Q) X.xe { s3 with heap := s3.heap.push { cls := .type "slice", data := .fields #[vl, vu, .none] } }
  exact tail_any (ops := [.ref s3.heap.objs.size, v]) ht hT hg (by with_unfolding_all rfl)

def cutV (xs : List V) (lo hi : Option Int) : List V := (xs.drop (HT.sIx xs.length 0 lo)).take (HT.sIx xs.length xs.length hi - HT.sIx xs.length 0 lo)
theorem cutV_length (xs : List V) (lo hi : Option Int) : (cutV xs lo hi).length ≤ xs.length := by
  unfold cutV
  rw [List.length_take, List.length_drop]
  omega
def rSlT (K : PySem.W.Frag) : V → Option Int → Option Int → Hp → VK → Prop := fun x lo hi H Q => ∃ a xs, x = .ref a ∧ SqT K H a xs ∧
  ¬ (HT.sIx xs.length 0 lo = 0 ∧ HT.sIx xs.length xs.length hi = xs.length) ∧ ∀ p, H p = none → Q (.ref p) (upd H p (.tup (cutV xs lo hi)))
theorem sl_tup : SlR X (rSlT X.K) := by
  intro pins s σ H x v vl vu lo hi sl Q I rx hs pl pu h
  obtain ⟨a, xs, rfl, hx, hw, q⟩ := h
  cases rx
  obtain ⟨its, r, ht, hz⟩ := I.tuple hx
  have hlen : its.toArray.size = xs.length := by rw [List.size_toArray]; exact r.length.symm
  refine ⟨"tuple", _, PyProof.Rows.slot_tuple_getitem.lookup, ht.typeIs, ?_⟩
  refine HT.getItem_tuple_cut ht hs pl pu (by rw [hlen]; exact hw) ?_ (by rw [hlen]; exact hz)
  rw [hlen]
  refine ⟨.ref s.heap.objs.size, _, I.laid (t' := s.toks) (o := .tup (cutV xs lo hi)) (fun b ob q => Heap.get?_push_of_some _ q) (Nat.le_refl _) ?_, rfl, q _ (I.hok.fresh (Nat.le_refl _))⟩
  exact ⟨Nat.le_trans (cutV_length xs lo hi) hz, _, (r.drop (HT.sIx xs.length 0 lo)).take (HT.sIx xs.length xs.length hi - HT.sIx xs.length 0 lo), IsTup.new _ _⟩

def rCatT (K : PySem.W.Frag) : R2 := fun x y H Q => ∃ a b xs ys, x = .ref a ∧ y = .ref b ∧ SqT K H a xs ∧ SqT K H b ys ∧ xs ≠ [] ∧ xs.length + ys.length ≤ sizeLine ∧
  (ys = [] → Q (.ref a) H) ∧ (ys ≠ [] → ∀ p, H p = none → Q (.ref p) (upd H p (.tup (xs ++ ys))))
theorem Vals.nil_iff {xs : List V} {us : List Value} (r : Vals xs us) : us = [] ↔ xs = [] := by
  cases r with
  | nil => simp
  | cons _ _ => simp
theorem op_catT : OpR X (binaryOp .Add) (rCatT X.K) := by
  intro pins s σ H x y v u Q I rx ry h
  obtain ⟨a, b, xs, ys, rfl, rfl, ha, hb, hx, hz, q1, q2⟩ := h
  cases rx
  cases ry
  obtain ⟨its, r1, p1, _⟩ := I.tuple ha
  obtain ⟨its2, r2, p2, _⟩ := I.tuple hb
  refine HT.cat_tup p1 p2 (fun z => hx (r1.nil_iff.mp z)) (fun z => ⟨.ref a, H, I, rfl, q1 (r2.nil_iff.mp z)⟩) (fun z => ?_) (by rw [← r1.length, ← r2.length]; exact hz)
  refine ⟨.ref s.heap.objs.size, _, I.laid (t' := s.toks) (o := .tup (xs ++ ys)) (fun b ob q => Heap.get?_push_of_some _ q) (Nat.le_refl _) ?_, rfl, q2 (fun w => z (r2.nil_iff.mpr w)) _ (I.hok.fresh (Nat.le_refl _))⟩
  exact ⟨by rw [List.length_append]; exact hz, _, r1.append r2, IsTup.new _ _⟩
end
end L2

namespace L2
open PySem PySem.Spec PyProof.Rows

def ixN (n : Nat) (i : Int) : Option Nat := if 0 ≤ i then (if i < n then some i.toNat else none) else if -(n : Int) ≤ i then some (i + n).toNat else none
def atI {α : Type} (xs : List α) (i : Int) : Option α := (ixN xs.length i).bind fun j => xs[j]?
theorem ixN_seq {n : Nat} {i : Int} {j : Nat} (h : ixN n i = some j) : seqIndex? i n = some j ∧ j < n ∧ -(n : Int) ≤ i ∧ i < n := by
  unfold ixN at h
  by_cases h0 : 0 ≤ i
  · rw [if_pos h0] at h
    by_cases h1 : i < n
    · rw [if_pos h1] at h
      have e : i.toNat = j := Option.some.inj h
      exact ⟨by rw [seqIndex_of h0 h1, e], by omega, by omega, h1⟩
    · rw [if_neg h1] at h; cases h
  · rw [if_neg h0] at h
    by_cases h1 : -(n : Int) ≤ i
    · rw [if_pos h1] at h
      have e : (i + n).toNat = j := Option.some.inj h
      exact ⟨by rw [seqIndex_neg (by omega) h1, e], by omega, h1, by omega⟩
    · rw [if_neg h1] at h; cases h
theorem atI_get {α : Type} {xs : List α} {i : Int} {v : α} (h : atI xs i = some v) : ∃ j, seqIndex? i xs.length = some j ∧ xs[j]? = some v ∧ j < xs.length ∧ -(xs.length : Int) ≤ i ∧ i < xs.length := by
  unfold atI at h
  cases e : ixN xs.length i with
  | none => rw [e] at h; cases h
  | some j =>
    rw [e] at h
    obtain ⟨h1, h2, h3, h4⟩ := ixN_seq e
    exact ⟨j, h1, h, h2, h3, h4⟩
theorem atI_nat {α : Type} {xs : List α} {j : Nat} {v : α} (h : xs[j]? = some v) : atI xs (j : Int) = some v := by
  have hj : j < xs.length := (List.getElem?_eq_some_iff.mp h).1
  have e : ixN xs.length (j : Int) = some j := by
    unfold ixN
    rw [if_pos (by omega), if_pos (by omega)]; simp
  unfold atI; rw [e]; exact h
def PlainIx (b : Expr) : Prop := ∀ o i, subscripted b false o i = operate [o, i] (getItem o i)
def IxR (X : Cx) (r : R2) : Prop :=
  ∀ (value slice : Expr) (pins : List (Addr × Obj)) (s : Shared) (σ : St) (H : Hp) (x y : V) (v u : Value) (Q : VK), Inv X pins σ H s → RelV x v → RelV y u → r x y H Q →
    subscripted slice false v u = operate [v, u] (getItem v u) → wpAny (model X.prog X.w) X.A (subscriptTail value slice v u) (EP X pins σ Q) X.xe s
def MtR (X : Cx) (id : String) (r : V → List V → Hp → VK → Prop) : Prop :=
  ∀ (pins : List (Addr × Obj)) (s : Shared) (σ : St) (H : Hp) (x : V) (xs : List V) (v : Value) (us : List Value) (Q : VK), Inv X pins σ H s → RelV x v → Vals xs us → r x xs H Q →
    wpAny (model X.prog X.w) X.A (call (.builtin id) (v :: us)) (EP X pins σ Q) X.xe s
section
variable {X : Cx} {a b : Expr} {ta tb : TE} {pos : Pos}
theorem IxR.or {r r' : R2} (h : IxR X r) (h' : IxR X r') : IxR X (fun x y H Q => r x y H Q ∨ r' x y H Q) := by
  intro value slice pins s σ H x y v u Q I rx ry q hs
  rcases q with q | q
  · exact h value slice pins s σ H x y v u Q I rx ry q hs
  · exact h' value slice pins s σ H x y v u Q I rx ry q hs
theorem MtR.or {id : String} {r r' : V → List V → Hp → VK → Prop} (h : MtR X id r) (h' : MtR X id r') : MtR X id (fun x xs H Q => r x xs H Q ∨ r' x xs H Q) := by
  intro pins s σ H x xs v us Q I rx rs q
  rcases q with q | q
  · exact h pins s σ H x xs v us Q I rx rs q
  · exact h' pins s σ H x xs v us Q I rx rs q
theorem pe_ix {r : R2} (hr : IxR X r) (ha : PE X a ta) (hb : PE X b tb) (hs : PlainIx b) : PE X (.Subscript a b pos) (tOp r ta tb) := by
  intro pins s σ H Q I h
  exact Subscript_ (binT ha hb I h fun v u s2 x y H2 I2 rx ry q => hr a b pins s2 σ H2 x y v u Q I2 rx ry q (hs _ _))

def rIxL (K : PySem.W.Frag) : R2 := fun x y H Q => ∃ p xs i v, x = .ref p ∧ y = .int i ∧ SqL K H p xs ∧ atI xs i = some v ∧ Q v H
def rIxT (K : PySem.W.Frag) : R2 := fun x y H Q => ∃ p xs i v, x = .ref p ∧ y = .int i ∧ SqT K H p xs ∧ atI xs i = some v ∧ Q v H
def rIxS : R2 := fun x y H Q => ∃ z i c, x = .str z ∧ y = .int i ∧ z.length ≤ sizeLine ∧ atI z.cps.toList i = some c ∧ Q (.str ⟨#[c]⟩) H
theorem ix_list : IxR X (rIxL X.K) := by
  intro value slice pins s σ H x y v u Q I rx ry h hs
  obtain ⟨p, xs, i, z, rfl, rfl, hq, he, q⟩ := h
  cases rx
  obtain ⟨t, rfl⟩ := ry
  obtain ⟨its, r, pl, hz⟩ := I.list hq
  obtain ⟨j, h1, h2, h3, h4, h5⟩ := atI_get he
  obtain ⟨w, ew, rw'⟩ := r.get h2
  have hl := r.length
  have hn := line63
  have fin : EP X pins σ Q w s := ⟨z, H, I, rw', q⟩
  by_cases h0 : 0 ≤ i
  · have hj : i.toNat = j := by
      rw [seqIndex_of h0 h5] at h1
      exact Option.some.inj h1
    exact item_listR pl.isList h0 (by omega) (by rw [hj]; simpa using ew) fin hs
  · have hj : (i + (its.toArray.size : Int)).toNat = j := by
      rw [seqIndex_neg (by omega) h4] at h1
      rw [List.size_toArray, ← hl]
      exact Option.some.inj h1
    exact subscriptTail_builtinR (x := w) pl.isList.typeIs slot_list_getitem.lookup
      (wpAny_getItem_list_neg (Q := fun r s' => r = w ∧ EP X pins σ Q r s') pl.isList (by omega) (by rw [List.size_toArray] <;> omega) (by omega) (by rw [hj]; simpa using ew) ⟨rfl, fin⟩) hs
theorem ix_tup : IxR X (rIxT X.K) := by
  intro value slice pins s σ H x y v u Q I rx ry h hs
  obtain ⟨p, xs, i, z, rfl, rfl, hq, he, q⟩ := h
  cases rx
  obtain ⟨t, rfl⟩ := ry
  obtain ⟨its, r, pl, hz⟩ := I.tuple hq
  obtain ⟨j, h1, h2, h3, h4, h5⟩ := atI_get he
  obtain ⟨w, ew, rw'⟩ := r.get h2
  have hl := r.length
  have hn := line63
  have fin : EP X pins σ Q w s := ⟨z, H, I, rw', q⟩
  exact subscriptTail_builtinR (x := w) pl.typeIs slot_tuple_getitem.lookup
    (getItem_tuple (j := j) (Q := fun r s' => r = w ∧ EP X pins σ Q r s') pl (by omega) (by omega) (by rw [List.size_toArray, ← hl]; exact h1) (by simpa using ew) ⟨rfl, fin⟩) hs
theorem ix_str : IxR X rIxS := by
  intro value slice pins s σ H x y v u Q I rx ry h hs
  obtain ⟨z, i, c, rfl, rfl, hz, he, q⟩ := h
  obtain ⟨t, rfl⟩ := rx
  obtain ⟨t', rfl⟩ := ry
  obtain ⟨j, h1, h2, h3, h4, h5⟩ := atI_get he
  have hl : z.cps.toList.length = z.length := by simp [Str.length]
  rw [hl] at h1 h4 h5
  have hn := line63
  exact tail_any (typeIs_str s z t) slot_str_getitem.lookup (getItem_str (c := c) (by
    have e1 : decide (i < -(2 ^ 63 : Int)) = false := decide_eq_false (by omega)
    have e2 : decide (i ≥ 2 ^ 63) = false := decide_eq_false (by omega)
    rw [e1, e2, Bool.or_false]) (by rw [h1]; simpa using h2) ⟨.str ⟨#[c]⟩, H, I.tok _, ⟨_, rfl⟩, q⟩) hs
def rIx (K : PySem.W.Frag) : R2 := fun x y H Q => rIxL K x y H Q ∨ rIxT K x y H Q ∨ rIxS x y H Q
theorem ix_seq : IxR X (rIx X.K) := ix_list.or (ix_tup.or ix_str)

theorem mapSeq_set (its : List Value) (n j : Nat) (u : Value) : Obj.mapSeq (·.setIfInBounds j u) { cls := .type "list", data := .seq its.toArray n } = { cls := .type "list", data := .seq (its.set j u).toArray n } := by
  simp [Obj.mapSeq]
theorem Inv.lst {pins : List (Addr × Obj)} {σ : St} {H : Hp} {s : Shared} {p : Addr} {xs : List V} (I : Inv X pins σ H s) (h : H p = some (.lst xs)) :
    ∃ (its : List Value) (n : Nat), Vals xs its ∧ s.heap.get? p = some { cls := .type "list", data := .seq its.toArray n } ∧ xs.length ≤ sizeLine := by
  obtain ⟨z, its, n, r, e⟩ := I.hok p _ h
  exact ⟨its, n, r, e, z⟩
theorem Inv.lstUpd {pins : List (Addr × Obj)} {σ : St} {H : Hp} {s : Shared} {p : Addr} {xs ys : List V} {its its' : List Value} {n n' : Nat} {f : Obj → Obj} (I : Inv X pins σ H s) (h : H p = some (.lst xs))
    (ho : s.heap.get? p = some { cls := .type "list", data := .seq its.toArray n }) (hf : f { cls := .type "list", data := .seq its.toArray n } = { cls := .type "list", data := .seq its'.toArray n' }) (r : Vals ys its') (hz : ys.length ≤ sizeLine) (t : Nat) :
    Inv X pins σ (upd H p (.lst ys)) { s with heap := s.heap.update p f, toks := t } := by
  have e : (s.heap.update p f).get? p = some { cls := .type "list", data := .seq its'.toArray n' } := by
    rw [Heap.get?_update_self f ho (by rw [hf] <;> rfl), hf]
  refine I.write (x := p) (e := p) (by rw [h]; trivial) (.inl rfl) (fun b u hb q => (Heap.get?_update_other _ _ (Ne.symm hb)).trans q) ⟨_, e⟩ ?_
  exact ⟨hz, its', n', r, e⟩
def rSetL : V → V → V → Hp → (Hp → Prop) → Prop := fun o i v H Q => ∃ p xs k j, o = .ref p ∧ i = .int k ∧ H p = some (.lst xs) ∧ ixN xs.length k = some j ∧ Q (upd H p (.lst (xs.set j v)))
theorem set_list : PSet X rSetL := by
  intro pins s σ H o i v ov iv u Q I ro ri rv h
  obtain ⟨p, xs, k, j, rfl, rfl, hp, hj, q⟩ := h
  cases ro
  obtain ⟨t, rfl⟩ := ri
  obtain ⟨its, n, r, ho, hz⟩ := I.lst hp
  obtain ⟨h1, h2, h3, h4⟩ := ixN_seq hj
  have hl := r.length
  have hn := line63
  have I' : Inv X pins σ (upd H p (.lst (xs.set j v))) { s with heap := s.heap.update p (Obj.mapSeq (·.setIfInBounds j u)) } :=
    I.lstUpd hp ho (mapSeq_set its n j u) (r.set rv j) (by rw [List.length_set]; exact hz) s.toks
  by_cases h0 : 0 ≤ k
  · have hk : k.toNat = j := by
      rw [seqIndex_of h0 h4] at h1
      exact Option.some.inj h1
    exact PySem.W.ki_setAt ho h0 (by omega) (by rw [List.size_toArray, ← hl]; exact h4) (by rw [hk]; exact ⟨_, I', q⟩)
  · have hk : (k + (its.toArray.size : Int)).toNat = j := by
      rw [seqIndex_neg (by omega) h3] at h1
      rw [List.size_toArray, ← hl]
      exact Option.some.inj h1
    exact PySem.W.ki_setBack ho (by omega) (by rw [List.size_toArray, ← hl]; exact h3) (by omega) (by rw [hk]; exact ⟨_, I', q⟩)

theorem slice_bounds (lo hi : Option Int) (n : Nat) : (sliceBounds lo hi none n).1 = ((HT.sIx n 0 lo : Nat) : Int) ∧ (sliceBounds lo hi none n).2.1 = ((HT.sIx n n hi : Nat) : Int) ∧ (sliceBounds lo hi none n).2.2 = 1 := by
  refine ⟨?_, ?_, rfl⟩
  · cases lo with
    | none => simp [sliceBounds, HT.sIx]
    | some i =>
      simp only [sliceBounds, HT.sIx, Option.getD_none, show (1 : Int) > 0 by decide, if_true]
      by_cases h : i < 0
      · simp only [h, if_true] <;> omega
      · simp only [h, if_false] <;> omega
  · cases hi with
    | none => simp [sliceBounds, HT.sIx]
    | some i =>
      simp only [sliceBounds, HT.sIx, Option.getD_none, show (1 : Int) > 0 by decide, if_true]
      by_cases h : i < 0
      · simp only [h, if_true] <;> omega
      · simp only [h, if_false] <;> omega
theorem slicePick_cut (its : List Value) (lo hi : Option Int) : slicePick its.toArray lo hi none = ((its.drop (HT.sIx its.length 0 lo)).take (HT.sIx its.length its.length hi - HT.sIx its.length 0 lo)).toArray := by
  obtain ⟨h1, h2, h3⟩ := slice_bounds lo hi its.toArray.size
  unfold slicePick
  rw [h1, h2, h3]
  simp only [sliceRange_one, pick_run, List.size_toArray] <;> rfl
def rSlL (K : PySem.W.Frag) : V → Option Int → Option Int → Hp → VK → Prop := fun x lo hi H Q => ∃ a xs, x = .ref a ∧ SqL K H a xs ∧ ∀ p, H p = none → Q (.ref p) (upd H p (.lst (cutV xs lo hi)))
theorem sl_list : SlR X (rSlL X.K) := by
  intro pins s σ H x v vl vu lo hi sl Q I rx hs pl pu h
  obtain ⟨a, xs, rfl, hx, q⟩ := h
  cases rx
  obtain ⟨its, r, ht, hz⟩ := I.list hx
  have hlen := r.length
  refine ⟨"list", _, slot_list_getitem.lookup, ht.isList.typeIs, ?_⟩
  refine wpAny_getItem_list_slice ht.isList hs pl pu .none (by simp) ?_ (by rw [List.size_toArray] <;> omega)
  rw [slicePick_cut, ← hlen]
  refine ⟨.ref s.heap.objs.size, _, I.laid (t' := s.toks) (o := .lst (cutV xs lo hi)) (fun b ob q => Heap.get?_push_of_some _ q) (Nat.le_refl _) ?_, rfl, q _ (I.hok.fresh (Nat.le_refl _))⟩
  exact ⟨Nat.le_trans (cutV_length xs lo hi) hz, _, 0, (r.drop (HT.sIx xs.length 0 lo)).take (HT.sIx xs.length xs.length hi - HT.sIx xs.length 0 lo), Heap.get?_push_size _ rfl⟩

def flatV : V → Bool
  | .non => true
  | .bl _ => true
  | .int _ => true
  | .str _ => true
  | _ => false
def eqV : V → V → Bool
  | .non, .non => true
  | .bl a, .bl b => a == b
  | .bl a, .int b => (if a then 1 else 0) == b
  | .int a, .bl b => a == (if b then 1 else 0)
  | .int a, .int b => a == b
  | .str a, .str b => a == b
  | _, _ => false
theorem eqAt_V {A : Around} {s : Shared} {y x : V} {u v : Value} (ry : RelV y u) (rx : RelV x v) (fy : flatV y = true) (fx : flatV x = true) : SeqAt.EqAt A s u v (eqV y x) := by
  cases y with
  | non =>
    cases ry
    cases x with
    | non => cases rx; exact SeqAt.EqAt.same _
    | bl b => cases rx; exact SeqAt.EqAt.none_bool b
    | int b => obtain ⟨t, rfl⟩ := rx; exact SeqAt.EqAt.none_int b t
    | str b => obtain ⟨t, rfl⟩ := rx; exact SeqAt.EqAt.none_str b t
    | _ => exact absurd (show false = true from fx) Bool.false_ne_true
  | bl a =>
    cases ry
    cases x with
    | non => cases rx; exact SeqAt.EqAt.bool_none a
    | bl b => cases rx; exact SeqAt.EqAt.bool_bool a b
    | int b => obtain ⟨t, rfl⟩ := rx; exact SeqAt.EqAt.bool_int a b t
    | str b => obtain ⟨t, rfl⟩ := rx; exact SeqAt.EqAt.bool_str a b t
    | _ => exact absurd (show false = true from fx) Bool.false_ne_true
  | int a =>
    obtain ⟨t', rfl⟩ := ry
    cases x with
    | non => cases rx; exact SeqAt.EqAt.int_none a t'
    | bl b => cases rx; exact SeqAt.EqAt.int_bool a t' b
    | int b => obtain ⟨t, rfl⟩ := rx; exact SeqAt.EqAt.int_int a t' b t
    | str b => obtain ⟨t, rfl⟩ := rx; exact SeqAt.EqAt.int_str a t' b t
    | _ => exact absurd (show false = true from fx) Bool.false_ne_true
  | str a =>
    obtain ⟨t', rfl⟩ := ry
    cases x with
    | non => cases rx; exact SeqAt.EqAt.str_none a t'
    | bl b => cases rx; exact SeqAt.EqAt.str_bool a t' b
    | int b => obtain ⟨t, rfl⟩ := rx; exact SeqAt.EqAt.str_int a t' b t
    | str b => obtain ⟨t, rfl⟩ := rx; exact SeqAt.EqAt.str_str a t' b t
    | _ => exact absurd (show false = true from fx) Bool.false_ne_true
  | _ => exact absurd (show false = true from fy) Bool.false_ne_true
def eqU (x : V) (u : Value) : Bool := match u with
  | .none => eqV .non x
  | .bool b => eqV (.bl b) x
  | .int i _ => eqV (.int i) x
  | .str z _ => eqV (.str z) x
  | _ => false
theorem eqU_of {x y : V} {u : Value} (r : RelV y u) (f : flatV y = true) : eqU x u = eqV y x := by
  cases y with
  | non => cases r; rfl
  | bl b => cases r; rfl
  | int i => obtain ⟨t, rfl⟩ := r; rfl
  | str z => obtain ⟨t, rfl⟩ := r; rfl
  | _ => exact absurd (show false = true from f) Bool.false_ne_true
theorem any_eqU {x : V} : ∀ {xs : List V} {us : List Value}, Vals xs us → xs.all flatV = true → us.any (eqU x) = xs.any fun y => eqV y x
  | _, _, .nil, _ => rfl
  | y :: xs, u :: us, .cons r t, f => by
    rw [List.all_cons, Bool.and_eq_true] at f
    rw [List.any_cons, List.any_cons, eqU_of r f.1, any_eqU t f.2]
theorem mem_eqAt {A : Around} {s : Shared} {x : V} {v : Value} (rx : RelV x v) (fx : flatV x = true) : ∀ {xs : List V} {us : List Value}, Vals xs us → xs.all flatV = true → ∀ u ∈ us, SeqAt.EqAt A s u v (eqU x u)
  | _, _, .nil, _ => fun u hu => by cases hu
  | y :: xs, u :: us, .cons r t, f => fun u' hu => by
    rw [List.all_cons, Bool.and_eq_true] at f
    rcases List.mem_cons.mp hu with rfl | hu
    · rw [eqU_of r f.1]; exact eqAt_V r rx f.1 fx
    · exact mem_eqAt rx fx t f.2 u' hu
def inV (x : V) (xs : List V) : Bool := xs.any fun y => eqV y x
def rIn (K : PySem.W.Frag) (neg : Bool) : R2 := fun x y H Q => ∃ p xs, y = .ref p ∧ (SqL K H p xs ∨ SqT K H p xs) ∧ flatV x = true ∧ xs.all flatV = true ∧ Q (.bl (if neg then !inV x xs else inV x xs)) H
theorem op_in_seq : OpR X (compareOp .In) (rIn X.K false) := by
  intro pins s σ H x y v u Q I rx ry h
  obtain ⟨p, xs, rfl, hq, fx, fs, q⟩ := h
  cases ry
  rcases hq with hq | hq
  · obtain ⟨its, r, pl, hz⟩ := I.list hq
    refine SeqAt.in_listAt (eqU x) pl.isList (fun w hw => mem_eqAt rx fx r fs w (by simpa using hw)) ⟨.bl _, H, I, rfl, ?_⟩
    rw [show its.toArray.any (eqU x) = its.any (eqU x) by simp, any_eqU r fs]
    exact q
  · obtain ⟨its, r, pl, hz⟩ := I.tuple hq
    refine SeqAt.in_tupleAt (eqU x) pl (fun w hw => mem_eqAt rx fx r fs w (by simpa using hw)) ⟨.bl _, H, I, rfl, ?_⟩
    rw [show its.toArray.any (eqU x) = its.any (eqU x) by simp, any_eqU r fs]
    exact q
theorem op_notIn_seq : OpR X (compareOp .NotIn) (rIn X.K true) := by
  intro pins s σ H x y v u Q I rx ry h
  obtain ⟨p, xs, rfl, hq, fx, fs, q⟩ := h
  cases ry
  rcases hq with hq | hq
  · obtain ⟨its, r, pl, hz⟩ := I.list hq
    refine SeqAt.notIn_listAt (eqU x) pl.isList (fun w hw => mem_eqAt rx fx r fs w (by simpa using hw)) ⟨.bl _, H, I, rfl, ?_⟩
    rw [show its.toArray.any (eqU x) = its.any (eqU x) by simp, any_eqU r fs]
    exact q
  · obtain ⟨its, r, pl, hz⟩ := I.tuple hq
    refine SeqAt.notIn_tupleAt (eqU x) pl (fun w hw => mem_eqAt rx fx r fs w (by simpa using hw)) ⟨.bl _, H, I, rfl, ?_⟩
    rw [show its.toArray.any (eqU x) = its.any (eqU x) by simp, any_eqU r fs]
    exact q
theorem CallR.or {f : Value} {r r' : List V → Hp → VK → Prop} (h : CallR X f r) (h' : CallR X f r') : CallR X f (fun xs H Q => r xs H Q ∨ r' xs H Q) := by
  intro pins s σ H xs us Q I rs q
  rcases q with q | q
  · exact h pins s σ H xs us Q I rs q
  · exact h' pins s σ H xs us Q I rs q
theorem call_tuple_of : CallR X (.type "tuple") (fun xs H Q => ∃ p ys, xs = [.ref p] ∧ ((SqL X.K H p ys ∧ ∀ l, H l = none → Q (.ref l) (upd H l (.tup ys))) ∨ (SqT X.K H p ys ∧ Q (.ref p) H))) := by
  intro pins s σ H xs us Q I r h
  obtain ⟨p, ys, rfl, h⟩ := h
  obtain ⟨u, rfl, rx⟩ := vals1 r
  cases rx
  rcases h with ⟨hq, q⟩ | ⟨hq, q⟩
  · obtain ⟨its, r', pl, hz⟩ := I.list hq
    have hlen := r'.length
    refine call_tuple_list pl.isList (fun h' kp => ?_) (by simp only [List.size_toArray] <;> omega)
    have I1 : Inv X pins σ H { s with heap := h' } := I.kept (t' := s.toks) kp
    have I2 : Inv X pins σ (upd H h'.objs.size (.tup ys)) { s with heap := h'.push { cls := .type "tuple", data := .seq its.toArray } } :=
      I1.laid (t' := s.toks) (fun b o e => Heap.get?_push_of_some _ e) (Nat.le_refl _) (show ObjOk X.prog X.w _ _ _ (.tup ys) from ⟨hz, its, r', IsTup.new _ _⟩)
    exact ⟨.ref h'.objs.size, _, I2, rfl, q _ (I1.hok.fresh (Nat.le_refl _))⟩
  · obtain ⟨its, r', pl, hz⟩ := I.tuple hq
    exact call_tuple_same pl ⟨.ref p, H, I, rfl, q⟩

def tyV (K : PySem.W.Frag) (T : String) (x : V) (H : Hp) : Prop := match x with
  | .str _ => T = "str"
  | .int _ => T = "int"
  | .ref p => (T = "list" ∧ ∃ xs, SqL K H p xs) ∨ (T = "tuple" ∧ ∃ o, K.lookup p = some o ∧ o.cls = .type "tuple" ∧ o.dict = none) ∨
      (T = "dict" ∧ ((∃ kvs, H p = some (.dK kvs)) ∨ ∃ kvs, H p = some (.dT kvs))) ∨ (T = "set" ∧ ∃ S n, H p = some (.set S n))
  | _ => False
theorem tyV_is {pins : List (Addr × Obj)} {σ : St} {H : Hp} {s : Shared} {T : String} {x : V} {v : Value} (I : Inv X pins σ H s) (r : RelV x v) (ty : tyV X.K T x H) :
    s.TypeIs v T ∧ ∀ a, v = .ref a → ∃ ob, s.heap.get? a = some ob ∧ ob.dict = none := by
  cases x with
  | str z =>
    obtain ⟨t, rfl⟩ := r
    cases (show T = "str" from ty)
    exact ⟨typeIs_str s z t, fun _ e => nomatch e⟩
  | int i =>
    obtain ⟨t, rfl⟩ := r
    cases (show T = "int" from ty)
    exact ⟨typeIs_int s i t, fun _ e => nomatch e⟩
  | ref p =>
    cases r
    rcases ty with ⟨rfl, xs, hq⟩ | ⟨rfl, o, hk, hc, hd⟩ | ⟨rfl, hk⟩ | ⟨rfl, S, n, hk⟩
    · obtain ⟨its, _, pl, _⟩ := I.list hq
      refine ⟨pl.isList.typeIs, fun a e => ?_⟩
      cases e
      obtain ⟨o, n, e, c, hd, _⟩ := pl
      exact ⟨o, e, hd⟩
    · refine ⟨⟨o, I.kIn p o hk, hc⟩, fun a e => ?_⟩
      cases e
      exact ⟨o, I.kIn _ o hk, hd⟩
    · have z : ∃ o, s.heap.get? p = some o ∧ o.ExactDict := by
        rcases hk with ⟨kvs, hk⟩ | ⟨kvs, hk⟩
        · obtain ⟨_, _, _, _, o, _, _, e, ex, _⟩ := I.hok p _ hk
          exact ⟨o, e, ex⟩
        · obtain ⟨_, _, _, _, o, _, _, e, ex, _⟩ := I.hok p _ hk
          exact ⟨o, e, ex⟩
      obtain ⟨o, e, ex⟩ := z
      refine ⟨⟨o, e, ex.1⟩, fun a e2 => ?_⟩
      cases e2
      exact ⟨o, e, ex.2.1⟩
    · obtain ⟨o, _, _, _, e, ex, _⟩ := I.hok p _ hk
      refine ⟨⟨o, e, ex.1⟩, fun a e2 => ?_⟩
      cases e2
      exact ⟨o, e, ex.2.1⟩
  | _ => exact False.elim ty
def tBM0 (K : PySem.W.Frag) (T : String) (r : V → List V → Hp → VK → Prop) (to : TE) : TE := fun σ H Q => to σ H fun x H1 => tyV K T x H1 ∧ r x [] H1 Q
def tBM (K : PySem.W.Frag) (T : String) (r : V → List V → Hp → VK → Prop) (to : TE) (t : TA) : TE := fun σ H Q => to σ H fun x H1 => tyV K T x H1 ∧ t σ H1 fun xs H2 => r x xs H2 Q
variable {o e : Expr} {es : List Expr} {to : TE} {t : TA} {name : Str} {apos cpos : Pos} {T id : String} {r : V → List V → Hp → VK → Prop}
theorem pe_bm0 (pa : PlainAttrs T) (slot : Slot T name id) (hty : typeOf (.builtin id) = pure (.type "method_descriptor")) (hm : MtR X id r) (ho : PE X o to)
    (hbase : attributeBase o name X.env (eval o X.env) = eval o X.env := by rfl) (hline : (apos.endLine == cpos.line) = true := by rfl) : PE X (.Call (.Attribute o name apos) [] [] cpos) (tBM0 X.K T r to) := by
  intro pins s σ H Q I h
  refine wpAny_Call_method0_late hbase hline (thn (ho pins s σ H _ I h) fun v s1 ⟨x, H1, I1, r1, ty, q1⟩ => ?_)
  obtain ⟨h1, h2⟩ := tyV_is I1 r1 ty
  exact ⟨T, id, pa, slot, hty, h1, h2, Calls.callWith_builtin rfl (PySem.evalArgs_none (hm pins s1 σ H1 x [] v [] Q I1 r1 .nil q1))⟩
theorem pe_bm (pa : PlainAttrs T) (slot : Slot T name id) (hty : typeOf (.builtin id) = pure (.type "method_descriptor")) (hm : MtR X id r) (ho : PE X o to) (ha : PA X (e :: es) t)
    (hbase : attributeBase o name X.env (eval o X.env) = eval o X.env := by rfl)
    (hfew : ((backTo cpos (starEach (e :: es) X.env)).all (fun x => !x.1) && (backToKw cpos (keywordEach [] X.env)).all (fun x => x.1.isSome)
      && decide ((e :: es).length + ([] : List Keyword).length + (if ([] : List Keyword).isEmpty then 0 else 1) < 30)) = true := by rfl)
    (hline : (apos.endLine == cpos.line) = true := by rfl) (hs : starEach (e :: es) X.env = (false, eval e X.env) :: starEach es X.env := by rfl) (hplain : (backTo cpos (starEach es X.env)).any (·.1) = false := by rfl) :
    PE X (.Call (.Attribute o name apos) (e :: es) [] cpos) (tBM X.K T r to t) := by
  intro pins s σ H Q I h
  refine wpAny_Call_method_late hbase hfew hline rfl (thn (ho pins s σ H _ I h) fun v s1 ⟨x, H1, I1, r1, ty, q1⟩ => ?_)
  obtain ⟨h1, h2⟩ := tyV_is I1 r1 ty
  refine ⟨T, id, pa, slot, hty, h1, h2, ?_⟩
  have hA := ha cpos pins s1 σ H1 _ I1 q1
  rw [hs] at hA ⊢
  refine Calls.callWith_builtin (by show (false || (backTo cpos (starEach es X.env)).any (·.1)) = false; rw [hplain] <;> rfl) (Calls.evalArgs_plain ?_)
  exact thn hA fun us s2 ⟨vs, H2, I2, r2, q2⟩ => hm pins s2 σ H2 x vs v us Q I2 r1 r2 q2
/- xs.append(e), list.index on a module's tuple .. are MtR facts of 06m -/
end
end L2

namespace L2
open PySem PySem.Spec PyProof.Rows

def MtM (X : Cx) (id : String) (r : V → List V → Hp → VK → Prop) : Prop :=
  ∀ (pins : List (Addr × Obj)) (s : Shared) (σ : St) (H : Hp) (x : V) (xs : List V) (v : Value) (us : List Value) (Q : VK), Inv X pins σ H s → RelV x v → Vals xs us → r x xs H Q →
    wpAny (model X.prog X.w) X.A (call (.builtin id) (v :: us)) (EP X pins σ Q) X.xe s

theorem Vals.one : ∀ {x : V} {us : List Value}, Vals [x] us → ∃ u, us = [u] ∧ RelV x u
  | _, _, .cons r .nil => ⟨_, rfl, r⟩
theorem Vals.two : ∀ {x y : V} {us : List Value}, Vals [x, y] us → ∃ u v, us = [u, v] ∧ RelV x u ∧ RelV y v
  | _, _, _, .cons r (.cons q .nil) => ⟨_, _, rfl, r, q⟩
theorem Vals.zero : ∀ {us : List Value}, Vals [] us → us = []
  | _, .nil => rfl
theorem Vals.dropLast {xs : List V} {us : List Value} (h : Vals xs us) : Vals xs.dropLast us.dropLast := by
  induction h with
  | nil => exact .nil
  | cons r t ih =>
    cases t with
    | nil => exact .nil
    | cons q t' => exact .cons r ih
theorem Vals.reverse {xs : List V} {us : List Value} (h : Vals xs us) : Vals xs.reverse us.reverse := by
  induction h with
  | nil => exact .nil
  | cons r t ih => rw [List.reverse_cons, List.reverse_cons]; exact Vals.append ih (.cons r .nil)
theorem Vals.rep {xs : List V} {us : List Value} (h : Vals xs us) : ∀ k : Nat, Vals (List.replicate k xs).flatten (List.replicate k us).flatten
  | 0 => .nil
  | k + 1 => by
    rw [List.replicate_succ, List.replicate_succ, List.flatten_cons, List.flatten_cons]
    exact Vals.append h (Vals.rep h k)
theorem foldl_rep (its : List Value) : ∀ (k : Nat) (acc : List Value),
    List.foldl (fun x1 x2 => x1 ++ x2) acc.toArray (List.replicate k its.toArray) = (acc ++ (List.replicate k its).flatten).toArray
  | 0, acc => by simp
  | k + 1, acc => by
    have e : acc.toArray ++ its.toArray = (acc ++ its).toArray := by simp
    have e2 : (acc ++ its) ++ (List.replicate k its).flatten = acc ++ (List.replicate (k + 1) its).flatten := by
      rw [List.replicate_succ, List.flatten_cons, List.append_assoc]
    rw [← e2, ← foldl_rep its k (acc ++ its), ← e, List.replicate_succ, List.foldl_cons]

section
variable {X : Cx} {pins : List (Addr × Obj)} {σ : St} {H : Hp} {s : Shared} {l b : Addr} {xs ys zs : List V}

theorem Inv.lset {its its' : List Value} {n : Nat} {f : Array Value → Array Value} {t' : Nat} (I : Inv X pins σ H s) (hH : H l = some (.lst xs))
    (e : s.heap.get? l = some { cls := .type "list", data := .seq its.toArray n }) (hf : f its.toArray = its'.toArray) (hv : Vals ys its') (hz : ys.length ≤ sizeLine) :
    Inv X pins σ (upd H l (.lst ys)) { s with heap := s.heap.update l (Obj.mapSeq f), toks := t' } := by
  have q := PySem.IsL.update e f
  rw [hf] at q
  refine I.write (x := l) (e := l) (by rw [hH]; exact trivial) (.inl rfl) (fun b' u hb hu => (Heap.get?_update_other s.heap (Obj.mapSeq f) (Ne.symm hb)).trans hu) ⟨_, q⟩ ?_
  exact ⟨hz, its', _, hv, q⟩
theorem Inv.lnew {its : List Value} {t' : Nat} (I : Inv X pins σ H s) (hv : Vals ys its) (hz : ys.length ≤ sizeLine) :
    Inv X pins σ (upd H s.heap.objs.size (.lst ys)) { s with heap := s.heap.push { cls := .type "list", data := .seq its.toArray }, toks := t' } :=
  I.laid (fun _ _ q => Heap.get?_push_of_some _ q) (Nat.le_refl _) ⟨hz, its, 0, hv, Heap.get?_push_size _ rfl⟩
theorem Inv.fresh (I : Inv X pins σ H s) : H s.heap.objs.size = none := I.hok.fresh (Nat.le_refl _)
theorem Inv.lstM (I : Inv X pins σ H s) (hH : H l = some (.lst xs)) : xs.length ≤ sizeLine ∧ ∃ (its : List Value) (n : Nat), Vals xs its ∧ xs.length = its.length ∧ s.heap.get? l = some { cls := .type "list", data := .seq its.toArray n } := by
  obtain ⟨z, its, n, r, e⟩ := I.hok l _ hH
  exact ⟨z, its, n, r, r.length, e⟩

theorem notLongL {n : Nat} (h : n ≤ sizeLine) : Builtin.List.listTooLong n = false := by
  unfold Builtin.List.listTooLong
  exact decide_eq_false (by omega)
end

section
variable {X : Cx}

def rAppend : V → List V → Hp → VK → Prop := fun x vs H Q => ∃ l xs y, x = .ref l ∧ vs = [y] ∧ H l = some (.lst xs) ∧ xs.length < sizeLine ∧ Q .non (upd H l (.lst (xs ++ [y])))
theorem mt_append : MtM X "list.append" rAppend := by
  intro pins s σ H x vs v us Q I rx rv h
  obtain ⟨l, xs, y, rfl, rfl, hH, hz, q⟩ := h
  cases rx
  obtain ⟨u, rfl, ru⟩ := rv.one
  obtain ⟨z, its, n, r, hl, e⟩ := I.lstM hH
  refine call_meets F.slot_list_append ⟨_, e, rfl⟩ F.entry_list_append (F.args_list_append_2 _ _) (PySem.list_append l its.toArray n u (by rw [List.size_toArray]; omega)) ⟨e, ?_⟩
  refine ⟨.non, _, I.lset (its' := its ++ [u]) hH e (by simp) (r.append (.cons ru .nil)) ?_, rfl, q⟩
  rw [List.length_append, List.length_singleton]
  omega

def rCat : R2 := fun x y H Q => ∃ l b xs zs, x = .ref l ∧ y = .ref b ∧ H l = some (.lst xs) ∧ H b = some (.lst zs) ∧ xs.length + zs.length ≤ sizeLine ∧ ∀ p, H p = none → Q (.ref p) (upd H p (.lst (xs ++ zs)))
theorem op_cat : OpR X (binaryOp .Add) rCat := by
  intro pins s σ H x y v u Q I rx ry h
  obtain ⟨l, b, xs, zs, rfl, rfl, hH, hB, hz, q⟩ := h
  cases rx
  cases ry
  obtain ⟨z, its, n, r, hl, e⟩ := I.lstM hH
  obtain ⟨z2, its2, n2, r2, hl2, e2⟩ := I.lstM hB
  refine PySem.P.add_list e e2 ?_ (by rw [List.size_toArray, List.size_toArray]; omega)
  have ea : its.toArray ++ its2.toArray = (its ++ its2).toArray := by simp
  rw [ea]
  exact ⟨.ref _, _, I.lnew (t' := s.toks) (r.append r2) (by rw [List.length_append]; omega), rfl, q _ I.fresh⟩
def rRep : R2 := fun x y H Q => ∃ l k xs, x = .ref l ∧ y = .int k ∧ H l = some (.lst xs) ∧ -(2 ^ 63) ≤ k ∧ k < 2 ^ 63 ∧ xs.length * k.toNat ≤ sizeLine ∧
  ∀ p, H p = none → Q (.ref p) (upd H p (.lst (List.replicate k.toNat xs).flatten))
theorem len_rep {α : Type} (xs : List α) (k : Nat) : (List.replicate k xs).flatten.length = k * xs.length := by
  induction k with
  | zero => simp
  | succ k ih => rw [List.replicate_succ, List.flatten_cons, List.length_append, ih, Nat.succ_mul, Nat.add_comm]
theorem op_rep : OpR X (binaryOp .Mult) rRep := by
  intro pins s σ H x y v u Q I rx ry h
  obtain ⟨l, k, xs, rfl, rfl, hH, h1, h2, hz, q⟩ := h
  cases rx
  obtain ⟨t, rfl⟩ := ry
  obtain ⟨z, its, n, r, hl, e⟩ := I.lstM hH
  have hlen : its.toArray.size * k.toNat ≤ sizeLine := by rw [List.size_toArray, ← hl]; exact hz
  have hcap : ¬ its.toArray.size * k.toNat > (2 ^ 63 - 1) / 8 := by
    have : (sizeLine : Nat) ≤ (2 ^ 63 - 1) / 8 := by decide
    omega
  have hfit : ¬ (!Builtin.List.listFitsIndex k) = true := by
    rw [fitsIndex_both h1 h2]
    exact Bool.false_ne_true
  have hlong : ¬ Builtin.List.listTooLong (its.toArray.size * k.toNat) = true := by
    rw [notLongL hlen]
    exact Bool.false_ne_true
  have hnew : List.foldl (fun x1 x2 => x1 ++ x2) #[] (List.replicate (if its.toArray.isEmpty = true then 0 else k.toNat) its.toArray) = (List.replicate k.toNat its).flatten.toArray := by
    have f0 : ∀ m : Nat, List.foldl (fun x1 x2 => x1 ++ x2) #[] (List.replicate m its.toArray) = (List.replicate m its).flatten.toArray := fun m => by
      have := foldl_rep its m []
      rw [List.nil_append] at this
      exact this
    rw [f0]
    cases its with
    | nil => simp
    | cons a r' => rw [if_neg (by simp)]
  refine wpAny_binaryOp_repeat_ref (T := "list") (U := "int") (by decide) ⟨_, e, rfl⟩ (fun s' => typeIs_int s' k t) noFill_list_mul F.fills_int_mul F.slot_int_rmul repeat_list F.slot_int_index.lookup
    (call_meets F.slot_int_rmul (typeIs_int s k t) F.entry_int_rmul (F.args_int_rmul_2 _ _) (int___rmul___int_list k t l its.toArray n)
      ⟨e, rfl, ⟨_, e, rfl⟩, call_meets F.slot_list_mul ⟨_, e, rfl⟩ F.entry_list_mul (F.args_list_mul_2 _ _) (AutoListH.list___mul___list_int_3 l its.toArray n k t hfit hcap hlong) ⟨e, ?_⟩⟩)
  rw [hnew]
  exact ⟨.ref _, _, I.lnew (t' := s.toks) (r.rep k.toNat) (by rw [len_rep, Nat.mul_comm]; exact hz), rfl, q _ I.fresh⟩

end

section
variable {prog : Program} {w : World} {A : Around} {E : Value → Shared → Prop} {s : Shared}
end

section
variable {X : Cx}
end
end L2

namespace Att
open PySem PySem.W PySem.Calls PyProof.Rows

theorem ints_of_wellAll {P : Params} {h : Heap} : ∀ (ns : List Int) (vs : List Value), WellAll P h vs (ns.map WData.int) → IntsAre vs ns := by
  intro ns
  induction ns with
  | nil =>
    intro vs w
    rw [List.map_nil] at w
    cases w
    exact .nil
  | cons n ns ih =>
    intro vs w
    rw [List.map_cons] at w
    cases w with
    | cons a b =>
      cases a
      exact .cons _ _ (ih _ b)

theorem script_of {l : OpenLaw} {n : Nat} (hn : l.most = some n) {P : Params} {h : Heap} {args : List WData} {vals : List Value}
    (hpre : l.row.toRowW.claim.pre args = true) (hwl : WellAll P h vals args) :
    ∃ a vs ns, vals = [Value.ref a] ∧ args = [WData.list (ns.map WData.int)] ∧ h.get? a = some { cls := .type "list", data := .seq vs.toArray } ∧ IntsAre vs ns ∧ ns.length ≤ n := by
  have hsh : WShape.hasAll [] args [.list .int] = true := (pre_splitW hpre).1
  have hc : l.pre.holds [] { args := args } = true := (pre_splitW hpre).2
  obtain ⟨d, r, rfl, h1, h2⟩ := hasAllW_cons hsh
  obtain rfl := hasAllW_nil h2
  obtain ⟨xs, rfl, h3⟩ := hasW_list h1
  obtain ⟨ns, rfl⟩ := items_int h3
  have hlen : ns.length ≤ n := by
    unfold OpenLaw.pre at hc
    have h4 : (WTm.not (.lt (.lit (.int (n : Int))) (.len (.arg 0)))).holds [] { args := [.list (ns.map .int)] } = true := by
      have h4 := (holds_andW hc).1
      rw [hn] at h4
      exact h4
    have h5 := condW_of h4 (w_not (w_lt w_lit (w_len_list (w_arg rfl))))
    rw [List.length_map] at h5
    refine Nat.le_of_not_lt fun q => ?_
    have q' : (n : Int) < ((ns.length : Nat) : Int) := by omega
    first
      | (rw [decide_eq_true q'] at h5; exact absurd h5 (by decide))
      | (simp at h5; omega)
  cases hwl with
  | cons w1 w2 =>
    cases w2
    cases w1 with
    | list ho hall => exact ⟨_, _, ns, rfl, rfl, ho, ints_of_wellAll ns _ hall, hlen⟩

theorem post_true (l : OpenLaw) (args : List WData) : l.row.toRowW.claim.post args (.bool true) args = true :=
  postW_of (r := l.row.toRowW) (X := (true == true))
    (show WShape.has [] (.bool true) .bool = true by first | rfl | decide | simp [WShape.has, WShape.arms, WShape.armsAll])
    (show (WTm.eq .res (.lit (.bool true))).value [] { args := args, res := some (.bool true), after := args } = some (.bool (true == true)) from w_eq_bool (w_res rfl) w_lit) rfl

theorem attach_call {l : OpenLaw} {n : Nat} {q : Program} {loose : List Str} {XP : (Str → Option Value) → Heap → Prop} {YP : World → Heap → Prop} {d : DefRec}
    (hn : l.most = some n) (hdf : d.params.defaults = [])
    (call : ∀ (w : World) (s₀ s₁ : Shared) (mg mb : Str → Option Value) (fa : Addr) (o : Obj) (pm cd doc : Value) (a : Addr) (vs : List Value) (ns : List Int),
      Ground q loose [] XP w s₀ mg mb s₁.heap → YP w s₁.heap →
      s₁.heap.get? fa = some o → o.data = .func (docDef d.name d.params d.body d.scope pm cd doc) → s₁.heap.CodeRec cd d.name → mg d.name = some (.ref fa) →
      s₁.heap.get? a = some { cls := .type "list", data := .seq vs.toArray } → IntsAre vs ns → ns.length ≤ n → s₁.gens = #[] →
      codeAny (model l.prog w) callerA (.call (.ref fa) ⟨[.ref a], []⟩) (fun r s' => r = .ok (.ret (.bool true)) ∧ OldK s₁.heap s'.heap ∧ s'.os = s₁.os ∧ AllBare s'.gens) s₁) :
    WalkO q loose XP YP l.row.toRowW d [] (fun f vs => PySem.call f vs) := by
  intro w s₀ s₁ mg mb G Y fa o pm cd doc dV kV ho hd hcd hD hmg hg args vals as hpre hlay hrd hwl hlo
  obtain rfl : dV = .none := Dflts.none hD hdf
  obtain rfl : kV = .none := Dflts.noKw hD
  obtain ⟨a, vs, ns, rfl, rfl, hobj, hints, hlen⟩ := script_of hn hpre hwl
  refine enter_call (codeAny_mono (call w s₀ s₁ mg mb fa o pm cd doc a vs ns G Y ho (fd_plain hd) hcd hmg hobj hints hlen hg) fun r s' hq => ?_)
  obtain ⟨rfl, h2, h3, h4⟩ := hq
  exact ⟨.inl ⟨.bool true, .bool true, [], rfl, fun _ => rfl, .bool true, post_true l _, fun _ => ⟨List.Pairwise.nil, fun _ hm => (nomatch hm)⟩⟩, h2, h3, h4⟩

section
variable {prog : Program} {w : World} {A : Around} {E : Value → Shared → Prop} {s : Shared} {K : Frag}

end
end Att

namespace L2
open PySem PySem.Spec PyProof.Rows

theorem vals_ints : ∀ {vs : List Value} {ns : List Int}, IntsAre vs ns → Vals (ns.map V.int) vs
  | _, _, .nil => .nil
  | _, _, .cons n t h => .cons ⟨t, rfl⟩ (vals_ints h)

def Only (H : Hp) : Prop := ∀ b, H b = none ∨ ∃ o xs, H b = some (.frz o (.lst xs))

theorem law_call {P : Program} {w : World} {K : PySem.W.Frag} {mg mb : Str → Option Value} {CX : CXT} {k : Nat} {fa a : Addr} {fd : FuncData} {x : Str} {sp : Sp} {s₁ : Shared} {vs : List Value} {ns : List Int}
    (KX : K.In s₁.heap) (hns : s₁.heap.Ns mainGlobals mg) (hb : s₁.heap.Ns builtinsNs mb) (hbb : ∀ x : Str, x ≠ "__name__" → mb x = bootBuiltins x) (hlim : s₁.heap.NoLimit) (hg : s₁.gens = #[])
    (ha : s₁.heap.get? a = some { cls := .type "list", data := .seq vs.toArray }) (hi : IntsAre vs ns) (hl : ns.length ≤ sizeLine) (hr : Room k callerA)
    (F : ∀ base : Heap, K.In base → base.Ns mainGlobals mg → FnOk P w K mg base CX k fa fd [x] sp) (hbind : ∀ (s : Shared) (u : Value), BindsTo s fd ⟨[u], []⟩ [(x, u)])
    (hsp : ∀ H : Hp, Only H → SqL K H a (ns.map V.int) → sp [.ref a] H (fun v _ => v = .bl true) fun _ _ _ => False)
    (hCX : ∀ H e s', CX [] H s₁ (fun _ _ _ => False) e s' → False) :
    codeAny (model P w) callerA (.call (.ref fa) ⟨[.ref a], []⟩) (fun r s' => r = .ok (.ret (.bool true)) ∧ OldK s₁.heap s'.heap ∧ s'.os = s₁.os ∧ AllBare s'.gens) s₁ := by
  have rv := vals_ints hi
  have lenV := hi.length
  -- from an abstract heap in which nothing but the script may be tracked
  have core : ∀ H : Hp, Only H → SqL K H a (ns.map V.int) → HOk P w H s₁.heap → (∀ b, H b ≠ none → b = a) → (H a ≠ none → K.lookup a = none) →
      codeAny (model P w) callerA (.call (.ref fa) ⟨[.ref a], []⟩) (fun r s' => r = .ok (.ret (.bool true)) ∧ OldK s₁.heap s'.heap ∧ s'.os = s₁.os ∧ AllBare s'.gens) s₁ := by
    intro H hO hS hok hA hK
    have base_of : ∀ {b : Addr} {o : Obj}, s₁.heap.get? b = some o → H b = none → (hidT s₁.heap H).get? b = some o := fun e n => hidT_get e n
    have noA : ∀ {b : Addr} {o : Obj} {es : Array DictEntry} {ep : Nat}, s₁.heap.get? b = some o → o.data = .dict es ep → H b = none := fun {b o es ep} e d => by
      cases q : H b with
      | none => rfl
      | some u =>
        have e' : b = a := hA b (by rw [q]; simp)
        subst e'
        rw [ha] at e; cases e
        have d' : Data.seq vs.toArray _ = Data.dict es ep := d
        cases d'
    have nsK : ∀ {b : Addr} {m : Str → Option Value}, s₁.heap.Ns b m → (hidT s₁.heap H).Ns b m := fun {b m} ⟨o, es, ep, e, d, r⟩ => ⟨o, es, ep, base_of e (noA e d), d, r⟩
    have hKb : K.In (hidT s₁.heap H) := fun b o e => base_of (KX b o e) (by
      cases q : H b with
      | none => rfl
      | some u =>
        have e' : b = a := hA b (by rw [q]; simp)
        subst e'
        rw [hK (by rw [q]; simp)] at e; cases e)
    have hM : Mod K mg (hidT s₁.heap H) := ⟨hKb, nsK hns, ⟨mb, nsK hb, hbb⟩, let ⟨mc, h1, h2⟩ := hlim; ⟨mc, nsK h1, h2⟩⟩
    have e0 : Env0 P w K mg (hidT s₁.heap H) callerA [] s₁ H := ⟨rfl, hM, fun b o e => of_hidT e, Nat.le_of_eq (hidT_size _ _), trivial, fun b hb => absurd (show b ∈ ([] : List Addr) from hb) (by simp), hok, .of_eq hg⟩
    refine codeAny_mono ((F _ hKb (nsK hns)).run callerA [] s₁ H ⟨[.ref a], []⟩ [.ref a] [.ref a] _ _ hr e0 (hbind s₁ (.ref a)) (.cons rfl .nil) (hsp H hO hS)) fun r s' h => ?_
    cases r with
    | error e => exact (hCX H e s' h).elim
    | ok fl =>
      cases fl with
      | next => exact False.elim h
      | brk => exact False.elim h
      | cont => exact False.elim h
      | ret u =>
        obtain ⟨v, H', os, bare, un, hok', r', q⟩ := h
        have q' : v = .bl true := q
        subst q'
        obtain rfl : u = Value.bool true := r'
        refine ⟨rfl, OldK.of_keep fun b o e => ?_, os, bare⟩
        cases q : H b with
        | none => exact un.keep b o e q (by intro z; exact absurd (show b ∈ ([] : List Addr) from z) (by simp)) (by simp)
        | some u =>
          rcases hO b with z | ⟨ob, xs, z⟩
          · rw [q] at z; cases z
          · have z2 := un.frzs b ob _ z
            obtain ⟨e1, _⟩ := hok b _ z
            obtain ⟨e2, _⟩ := hok' b _ z2
            rw [e] at e1; cases e1
            exact e2
  cases hk : K.lookup a with
  | some o =>
    -- the script is one of the module's own objects
    have e := KX a o hk
    rw [ha] at e
    cases e
    refine core (fun _ => none) (fun _ => .inl rfl) (.inr ⟨_, vs.toArray, _, hk, rfl, rfl, rfl, by rw [List.size_toArray, lenV]; exact hl, by simpa using rv⟩) (fun b u z => by have z' : (none : Option HO) = some u := z; cases z') (fun b z => absurd rfl z) fun z => absurd rfl z
  | none =>
    refine core (fun b => if b = a then some (.frz { cls := .type "list", data := .seq vs.toArray } (.lst (ns.map V.int))) else none) (fun b => ?_) (.inl (.inr ⟨{ cls := .type "list", data := .seq vs.toArray }, if_pos rfl⟩)) (fun b u z => ?_) (fun b z => ?_) fun _ => hk
    · by_cases hb : b = a
      · exact .inr ⟨_, _, if_pos hb⟩
      · exact .inl (if_neg hb)
    · by_cases hb : b = a
      · have z' := (if_pos hb).symm.trans z
        cases z'
        subst hb
        exact ⟨ha, by rw [List.length_map]; exact hl, vs, _, rv, ha⟩
      · have z' := (if_neg hb).symm.trans z
        cases z'
    · by_cases hb : b = a
      · exact hb
      · exact absurd (if_neg hb) z
end L2

namespace L2
open PySem PySem.Spec PyProof.Rows

theorem walk_of {l : PySem.W.OpenLaw} {n k : Nat} {q : Program} {loose : List Str} {XP : (Str → Option Value) → Heap → Prop} {YP : World → Heap → Prop} {d : DefRec} {K : Params → PySem.W.Frag} {CX : World → CXT} {sp : World → Sp} {x : Str}
    (hn : l.most = some n) (hn2 : n ≤ sizeLine) (hdf : d.params.defaults = []) (hr : Room k callerA)
    (hY : ∀ (w : World) (h : Heap), YP w h → (K w.params).In h)
    (F : ∀ (w : World) (mg : Str → Option Value) (fa : Addr) (h : Heap), (K w.params).In h → h.Ns mainGlobals mg → mg d.name = some (.ref fa) →
      ∃ fd : FuncData, (∀ (s : Shared) (u : Value), BindsTo s fd ⟨[u], []⟩ [(x, u)]) ∧
        ∀ base : Heap, (K w.params).In base → base.Ns mainGlobals mg → FnOk l.prog w (K w.params) mg base (CX w) k fa fd [x] (sp w))
    (hsp : ∀ (w : World) (H : Hp) (a : Addr) (ns : List Int), ns.length ≤ n → Only H → SqL (K w.params) H a (ns.map V.int) → sp w [.ref a] H (fun v _ => v = .bl true) fun _ _ _ => False)
    (hCX : ∀ (w : World) (H : Hp) (s : Shared) (e : Value) (s' : Shared), CX w [] H s (fun _ _ _ => False) e s' → False) :
    PySem.W.WalkO q loose XP YP l.row.toRowW d [] (fun f vs => PySem.call f vs) := by
  refine Att.attach_call hn hdf fun w s₀ s₁ mg mb fa o pm cd doc a vs ns G Y ho hd hcd hmg hobj hints hlen hg => ?_
  have KX := hY w _ Y
  obtain ⟨fd, hb, hF⟩ := F w mg fa _ KX G.T.g hmg
  exact law_call KX G.T.g G.T.b G.T.builtins G.T.nolimit hg hobj hints (Nat.le_trans hlen hn2) hr hF hb (fun H hO hS => hsp w H a ns hlen hO hS) fun H e s' => hCX w H s₁ e s'
end L2

/- THE LAST THEOREM (shape; LID, My.* are yours):
   My.Adr: a structure of the addresses that your layer names (classes, functions); My.Txt K t: a structure (Prop) of the equations over K;
   My.txt_mk : {K} {implicit addresses ..} (e1 : nsIn K mainGlobals "law" = some (some (.ref f))) (e2 : K.lookup f = some ⟨oc, od, .func (fnOf "law" "law" params body scope dV kV doc pm an cdv ct), sl⟩) (e3 : codeIn K cdv "law" = true) .. : ∃ t, My.Txt K t

set_option maxRecDepth 100000 in
set_option maxHeartbeats 0 in
theorem PySem.Challenge.cw_LID_holds : PySem.Challenge.rw_LID.Holds := by
  w_on; o_law; k_head; (case hw => w_witness2)
  k_fill
  refine L2.walk_of (l := PySem.Challenge.rw_LID) (n := 63) (k := 40) (x := "script") (CX := fun w => ..) (sp := fun _ => My.sp_law) rfl (by decide) rfl ⟨rfl, by decide, by decide⟩ (fun w h Y => PySem.W.kIn_of Y) ?F ?S ?C
  case F =>
    intro w mg fa h KX G hmg
    have T : ∃ t, My.Txt (L2.KOf KX) t := by
      dsimp only [L2.KOf]                          -- K must stand as «<heap const> w.params» for k_is
      refine' My.txt_mk ?e1 ?e2 ?e3 ..
      (case e1 => PySem.W.k_is)                    -- in the order: a name -> its address -> its object -> its parts
      (case e2 => PySem.W.k_is)
      ..
    obtain ⟨t, T⟩ := T
    have e0 := hmg.symm.trans (PySem.W.mg_of KX G T.law)
    cases e0                                       -- fa is the law's own address
    exact ⟨_, fun s u => .of_eq rfl, fun base kb nb => My.law_fn T kb nb⟩     -- if «.of_eq rfl» comes too early: refine' ⟨_, ?b, fun base kb nb => My.law_fn T kb nb⟩; exact fun s u => .of_eq rfl
  case S => exact fun w H a ns hl hO hS => ..
  case C => exact ..
(the tactic k_is has no namespace: write k_is) -/

namespace L2
open PySem PySem.Spec PyProof.Rows

def defArgs (s : Stmt) : Arguments := match s with
  | .FunctionDef _ a _ _ _ _ _ _ _ _ => a
  | _ => { posonlyargs := [], args := [], vararg := none, kwonlyargs := [], kw_defaults := [], kwarg := none, defaults := [] }
def defBody (s : Stmt) : List Stmt := match s with
  | .FunctionDef _ _ b _ _ _ _ _ _ _ => b
  | _ => []
def defScope (s : Stmt) : Scope := match s with
  | .FunctionDef _ _ _ _ _ _ sc _ _ _ => sc
  | _ => { kind := .function, names := [], isGenerator := false, isCoroutine := false }

abbrev CX0 : CXT := fun _ _ _ _ _ _ => False
abbrev E0 : XK := fun _ _ _ => False
theorem pass0 {X : Cx} : Passes CX0 X E0 := fun _ _ _ _ _ _ _ h => h.elim

structure Fun (K : PySem.W.Frag) (x qual : Str) (st : Stmt) (f : Addr) (fd : FuncData) : Prop where
  ex : ∃ (oc : Value) (od : Option Addr) (kV doc pm : Value) (an : Option Addr) (cdv ct : Value) (osl : Array (Option Value)),
    fd = PySem.W.fnOf x qual (defArgs st) (defBody st) (defScope st) .none kV doc pm an cdv ct ∧ K.lookup f = some ⟨oc, od, .func fd, osl⟩ ∧ PySem.W.codeIn K cdv qual = true
  kp : PySem.W.keepIn K (.ref f) = true
section
variable {P : Program} {w : World} {K : PySem.W.Frag} {mg : Str → Option Value} {base : Heap}
theorem Fun.ok {x qual : Str} {st : Stmt} {f : Addr} {fd : FuncData} {N ps : List Str} {k : Nat} {sp : Sp} (F : Fun K x qual st f fd) (S : FnScope N ps (defScope st)) (len : ∀ vs H Q E, sp vs H Q E → vs.length = ps.length)
    (hbody : ∀ (cdv : Value) (A : Around) (outer : List Env) (s : Shared) (H : Hp) (vs : List V) (Q : VK) (E : XK), Room k (A.deeper (envOfC qual (defScope st) s.heap.objs.size f cdv)) → sp vs H Q E →
      ∃ t, PSs (cxOf CX0 P w K mg base N qual (defScope st) f cdv A outer s H E).nox (defBody st) t ∧ t { nx := fun _ H' => Q .non H', rt := Q } (start N vs) H) : FnOk P w K mg base CX0 (k + 1) f fd ps sp := by
  obtain ⟨oc, od, kV, doc, pm, an, cdv, ct, osl, rfl, lk, hcd⟩ := F.ex
  refine fn_of lk hcd S len fun A outer s H vs Q E hr hsp => ?_
  obtain ⟨t, h, q⟩ := hbody cdv A outer s H vs Q E hr hsp
  exact ⟨t, h.nox, q⟩
theorem Fun.binds {x qual : Str} {st : Stmt} {f : Addr} {fd : FuncData} {ps : List Str} (F : Fun K x qual st f fd)
    (h : ∀ (kV doc pm : Value) (an : Option Addr) (cdv ct : Value) (us : List Value), us.length = ps.length → bindArgs (PySem.W.fnOf x qual (defArgs st) (defBody st) (defScope st) .none kV doc pm an cdv ct) ⟨us, []⟩ = pure (ps.zip us)) : Binds K fd ps [] := by
  obtain ⟨oc, od, kV, doc, pm, an, cdv, ct, osl, rfl, lk, hcd⟩ := F.ex
  exact .all (h kV doc pm an cdv ct)
theorem fun_mk {x qual : Str} {st : Stmt} {f : Addr} {oc : Value} {od an : Option Addr} {osl : Array (Option Value)} {kV doc pm cdv ct : Value} (l : K.lookup f = some ⟨oc, od, .func (PySem.W.fnOf x qual (defArgs st) (defBody st) (defScope st) .none kV doc pm an cdv ct), osl⟩)
    (c : PySem.W.codeIn K cdv qual = true) (k : PySem.W.keepIn K (.ref f) = true) : Fun K x qual st f (PySem.W.fnOf x qual (defArgs st) (defBody st) (defScope st) .none kV doc pm an cdv ct) := ⟨⟨oc, od, kV, doc, pm, an, cdv, ct, osl, rfl, l, c⟩, k⟩
end
section
variable {X : Cx}
end

theorem iteF {A B : Prop} (h : B) : if false = true then A else B := by
  rw [if_neg Bool.false_ne_true]
  exact h
theorem iteT {A B : Prop} (h : A) : if true = true then A else B := by
  rw [if_pos rfl]
  exact h
theorem ite2 {c A B : Prop} [Decidable c] (h1 : c → A) (h2 : ¬ c → B) : if c then A else B := by
  by_cases h : c
  · rw [if_pos h]
    exact h1 h
  · rw [if_neg h]
    exact h2 h
def Same (H H' : Hp) : Prop := ∀ b o, H b = some o → H' b = some o
theorem Same.refl (H : Hp) : Same H H := fun _ _ h => h
theorem Same.trans {H H1 H2 : Hp} (a : Same H H1) (b : Same H1 H2) : Same H H2 := fun c o h => b c o (a c o h)
theorem Same.free {H H' : Hp} (e : Same H H') {l : Addr} (h : H' l = Option.none) : H l = Option.none := by
  cases q : H l with
  | none => rfl
  | some o =>
    rw [e l o q] at h
    cases h
theorem Same.seq {K : PySem.W.Frag} {H H' : Hp} {a : Addr} {xs : List V} (e : Same H H') (h : SqL K H a xs) : SqL K H' a xs := by
  rcases h with (h | ⟨o, h⟩) | h
  · exact .inl (.inl (e _ _ h))
  · exact .inl (.inr ⟨o, e _ _ h⟩)
  · exact .inr h

end L2

set_option Elab.async false
set_option linter.all false
set_option maxRecDepth 100000
set_option maxHeartbeats 4000000
namespace L2
open PySem PySem.Spec PyProof.Rows

def closL (env : Env) : List (Str × NameKind) → List (Str × Addr) → List (Str × Addr)
  | [], acc => acc
  | (n, k) :: r, acc => closL env r (if k == .free then (match env.cells.lookup n with | some a => (n, a) :: acc | none => acc) else acc)
theorem closL_sub {env : Env} : ∀ {ns : List (Str × NameKind)} {acc : List (Str × Addr)} {x : Str} {c : Addr}, (∀ x c, acc.lookup x = some c → env.cells.lookup x = some c) → (closL env ns acc).lookup x = some c → env.cells.lookup x = some c
  | [], acc, x, c, h, e => h x c e
  | (n, k) :: r, acc, x, c, h, e => by
    refine closL_sub (ns := r) ?_ e
    intro y d
    split
    · split
      · rename_i a ha
        intro q
        rw [List.lookup_cons] at q
        split at q
        · rename_i hy
          have hy' : y = n := by simpa using hy
          subst hy'
          rw [ha]; exact q
        · exact h y d q
      · exact h y d
    · exact h y d
theorem closL_acc {env : Env} : ∀ {ns : List (Str × NameKind)} {acc : List (Str × Addr)} {x : Str}, (acc.lookup x).isSome = true → ((closL env ns acc).lookup x).isSome = true
  | [], acc, x, h => h
  | (n, k) :: r, acc, x, h => by
    refine closL_acc (ns := r) ?_
    split
    · split
      · rw [List.lookup_cons]
        split
        · rfl
        · exact h
      · exact h
    · exact h
theorem closL_has {env : Env} : ∀ {ns : List (Str × NameKind)} {acc : List (Str × Addr)} {x : Str}, (x, NameKind.free) ∈ ns → (env.cells.lookup x).isSome = true → ((closL env ns acc).lookup x).isSome = true
  | [], acc, x, h, _ => by cases h
  | (n, k) :: r, acc, x, h, hc => by
    rcases List.mem_cons.mp h with e | e
    · cases e
      refine closL_acc (ns := r) ?_
      obtain ⟨a, ha⟩ := Option.isSome_iff_exists.mp hc
      rw [if_pos (by rfl), ha]
      show (List.lookup n ((n, a) :: acc)).isSome = true
      rw [List.lookup_cons]
      simp
    · exact closL_has (ns := r) e hc
theorem closureFor_eq {scope : Scope} {env : Env} (h : ∀ x ∈ scope.names, x.2 = .free → (env.cells.lookup x.1).isSome = true) : closureFor scope env = pure (closL env scope.names []) := by
  have all : ∀ (ns : List (Str × NameKind)) (acc : List (Str × Addr)), (∀ x ∈ ns, x.2 = .free → (env.cells.lookup x.1).isSome = true) →
      (forIn ns acc fun (x : Str × NameKind) (cs : List (Str × Addr)) => (if (x.2 == NameKind.free) = true then do let a ← cellOf env x.1; pure (ForInStep.yield ((x.1, a) :: cs)) else pure (ForInStep.yield cs) : Sem (ForInStep (List (Str × Addr))))) = pure (closL env ns acc) := by
    intro ns
    induction ns with
    | nil => intro acc _; rfl
    | cons x r ih =>
      intro acc hx
      obtain ⟨n, k⟩ := x
      rw [List.forIn_cons]
      by_cases hk : (k == NameKind.free) = true
      · obtain ⟨a, ha⟩ := Option.isSome_iff_exists.mp (hx (n, k) List.mem_cons_self (by simpa using hk))
        have ha : env.cells.lookup n = some a := ha
        have hcell : cellOf env n = pure a := by unfold cellOf; rw [ha]
        simp only [hk, if_true, hcell]
        refine Eq.trans (ih ((n, a) :: acc) fun y hy => hx y (List.mem_cons_of_mem _ hy)) ?_
        conv => rhs; unfold closL
        simp only [hk, if_true, ha]
      · simp only [hk]
        refine Eq.trans (ih acc fun y hy => hx y (List.mem_cons_of_mem _ hy)) ?_
        conv => rhs; unfold closL
        simp only [hk]
        rfl
  unfold closureFor
  exact (by
    have := all scope.names [] h
    first | exact this | (simp only [bind_pure] ; exact this) | simpa using this)
def cmpCx (X : Cx) (scope : Scope) (C : Addr) (N : List Str) (s₀ : Shared) (H₀ : Hp) (ex : List Addr) : Cx where
  prog := X.prog
  w := X.w
  K := X.K
  mg := X.mg
  base := X.base
  A := X.A
  N := N
  s₀ := s₀
  H₀ := H₀
  env := compEnvC scope (closL X.env scope.names []) C X.env
  outer := X.stack
  stack := X.stack
  ex := ex
  fn := fun _ => false
  calm := X.calm
  pn := []
  xe := fun _ _ => False
structure CScope (sc : Scope) (env : Env) : Prop where
  kind : sc.kind = .function
  nocell : ∀ y ∈ sc.names, y.2 ≠ .cell
  loc : ∀ y ∈ sc.names, y.2 = .local → sc.names.lookup y.1 = some .local
  free : ∀ x ∈ sc.names, x.2 = .free → (env.cells.lookup x.1).isSome = true
theorem lookup_relabel {env : Env} : ∀ {names : List (Str × NameKind)} {x : Str} {k : NameKind}, ((names.map fun (n, k) => if (k == NameKind.free && env.scope.kind == .function && env.kindOf n == some .cell) then (n, NameKind.cell) else (n, k)).lookup x = some k) →
    ∃ k', names.lookup x = some k' ∧ (k' = k ∨ (k' = .free ∧ k = .cell))
  | [], x, k, h => by simp at h
  | (n, q) :: r, x, k, h => by
    have ih := @lookup_relabel env r x k
    have h : List.lookup x ((if (q == NameKind.free && env.scope.kind == .function && env.kindOf n == some .cell) = true then (n, NameKind.cell) else (n, q)) :: _) = some k := h
    rw [List.lookup_cons]
    cases hx : x == n with
    | true =>
      by_cases hc : (q == NameKind.free && env.scope.kind == .function && env.kindOf n == some .cell) = true
      · rw [if_pos hc] at h
        simp only [List.lookup_cons, hx] at h
        refine ⟨q, rfl, .inr ⟨?_, (Option.some.inj h).symm⟩⟩
        simp only [Bool.and_eq_true] at hc
        simpa using hc.1.1
      · rw [if_neg hc] at h
        simp only [List.lookup_cons, hx] at h
        exact ⟨q, rfl, .inl (Option.some.inj h)⟩
    | false =>
      by_cases hc : (q == NameKind.free && env.scope.kind == .function && env.kindOf n == some .cell) = true
      · rw [if_pos hc] at h
        simp only [List.lookup_cons, hx] at h
        exact ih h
      · rw [if_neg hc] at h
        simp only [List.lookup_cons, hx] at h
        exact ih h
def Takes (X : Cx) (scope : Scope) (N : List Str) (σ σ0 : St) : Prop :=
  σ0.length = N.length ∧ ∀ (i : Nat) (x : Str) (v : V), N[i]? = some x → σ0[i]? = some (some v) → ∃ j : Nat, X.N[j]? = some x ∧ σ[j]? = some (some v) ∧ scope.names.lookup x = some .free ∧ (X.env.kindOf x = some .cell ∨ X.env.kindOf x = some .free)
section
variable {X : Cx}
theorem cmp_start {scope : Scope} {N : List Str} {pins : List (Addr × Obj)} {σ σ0 : St} {H : Hp} {s : Shared} {h' : Heap} {tk : Nat} {fp : List Addr} (I : Inv X pins σ H s) (S : CScope scope X.env) (hf : ∀ b ∈ fp, FpOk X pins H b) (hlt : ∀ b ∈ fp, b < s.heap.objs.size)
    (T : Takes X scope N σ σ0) (hn : h'.Ns s.heap.objs.size (fun _ => none)) (hk : ∀ b o, s.heap.get? b = some o → h'.get? b = some o) :
    Inv (cmpCx X scope s.heap.objs.size N s H fp) [] σ0 H { s with heap := h', toks := tk } := by
  have subC : ∀ x c, (closL X.env scope.names []).lookup x = some c → X.env.cells.lookup x = some c := fun x c e => closL_sub (ns := scope.names) (acc := []) (fun y d z => by simp at z) e
  have hasC : ∀ x, scope.names.lookup x = some .free → ∃ c, (closL X.env scope.names []).lookup x = some c := fun x e => by
    have m := PySem.mem_of_lookup e
    exact Option.isSome_iff_exists.mp (closL_has m (S.free _ m rfl))
  have fsN : ∀ b ∈ fp, b ∉ frs X.stack := fun b hb z => by
    obtain ⟨_, f1, f2, _⟩ := hf b hb
    rcases List.mem_cons.mp (I.stkSub b z) with e | e
    · exact f1 e
    · exact f2 e
  have kinds : ∀ x, ((relabel scope X.env).names.lookup x = some .cell ∨ (relabel scope X.env).names.lookup x = some .free) → scope.names.lookup x = some .free := fun x hx => by
    rcases hx with hx | hx
    · obtain ⟨k', e, q⟩ := lookup_relabel hx
      rcases q with q | ⟨q, _⟩
      · subst q
        exact absurd rfl (S.nocell _ (PySem.mem_of_lookup e))
      · rw [e, q]
    · obtain ⟨k', e, q⟩ := lookup_relabel hx
      rcases q with q | ⟨_, q⟩
      · rw [e, q]
      · cases q
  have noex : ∀ b o, X.base.get? b = some o → b ∉ fp := fun b o e hb => by
    obtain ⟨_, _, _, f3, _⟩ := hf b hb
    rcases f3 with z | z
    · exact I.ok.noex b o e z
    · exact absurd (Nat.lt_of_lt_of_le (Heap.lt_size e) (Nat.le_trans I.ok.bsz z)) (Nat.lt_irrefl _)
  refine ⟨⟨I.ok.mod, S.kind, I.ok.glob, I.ok.blt, Nat.le_refl _, fun x y c e1 e2 => I.ok.inj x y c (subC x c e1) (subC y c e2), fun x hx => hasC x (kinds x hx), fun x c z => absurd (show false = true from z) Bool.false_ne_true, I.ok.hd, I.ok.frames, .inl rfl,
      fun b hb => ⟨Nat.ne_of_lt (hlt b hb), fun x c e => (hf b hb).2.2.2.2.1 x c (subC x c e)⟩, I.bs, Nat.le_trans I.ok.bsz I.sz, noex, fsN, I.stack, I.stkFree⟩,
    rfl, I.bare, Un.kept hk, ⟨_, hn, fun i x v e1 e2 e3 => ?_⟩, fun x c e => ?_, I.hok.fresh (Nat.le_refl _), fun x c e => I.freeC x c (subC x c e), fun p hp => absurd (show p ∈ ([] : List (Addr × Obj)) from hp) (by simp), I.hok.kept hk, T.1⟩
  · obtain ⟨j, hj, hs, hfr, hkd⟩ := T.2 i x v e1 e2
    obtain ⟨m, _, hl⟩ := I.loc
    obtain ⟨u, r, l⟩ := hl j x v hj hs (hkd.elim (fun z => Or.inr (Or.inl z)) fun z => Or.inr (Or.inr z))
    refine ⟨u, r, .inr ⟨?_, ?_⟩⟩
    · show (relabel scope X.env).names.lookup x = some .cell ∨ (relabel scope X.env).names.lookup x = some .free
      rcases e3 with z | z | z
      · obtain ⟨k', e, q⟩ := lookup_relabel (show (relabel scope X.env).names.lookup x = some .local from z)
        rw [hfr] at e
        cases e
        rcases q with q | ⟨_, q⟩ <;> cases q
      · exact .inl z
      · exact .inr z
    · obtain ⟨c, hc⟩ := hasC x hfr
      refine ⟨c, hc, ?_⟩
      rcases l with ⟨k, _⟩ | ⟨_, c', e, z⟩
      · rcases hkd with hkd | hkd <;> (rw [hkd] at k; cases k)
      · have e' := subC x c hc
        rw [e] at e'
        cases e'
        obtain ⟨o, ho, hd⟩ := z
        exact ⟨o, hk _ o ho, hd⟩
  · obtain ⟨v, o, ho, hd⟩ := I.cell x c (subC x c e)
    exact ⟨v, o, hk _ o ho, hd⟩
theorem cmp_end {scope : Scope} {N : List Str} {pins pins' : List (Addr × Obj)} {σ σ' : St} {H H' : Hp} {s s' : Shared} {h' : Heap} {fp : List Addr} (I : Inv X pins σ H s) (hf : ∀ b ∈ fp, FpOk X pins H b)
    (I' : Inv (cmpCx X scope s.heap.objs.size N s H fp) pins' σ' H' s') (hs : Heap.SameBut s.heap.objs.size s'.heap h') : Inv X pins σ H' { s' with heap := h' } := by
  have hC : H' s.heap.objs.size = none := I'.free
  have ne : ∀ b o, s.heap.get? b = some o → b ≠ s.heap.objs.size := fun b o e => Nat.ne_of_lt (Heap.lt_size e)
  have B : Un (frs X.stack) fp H H' s.heap s'.heap := I'.base
  refine I.call' (s' := { s' with heap := h' }) (ch := fp) I'.os ⟨fun b o e n hb hx => ?_, fun b o e n hb hx => ?_, B.free, fun b o e hx => ?_, B.tups, B.frzs, B.tbls⟩ (fun b o e => ?_) I'.bare (fun b hb => ?_)
  · exact (hs.2 b (ne b o e)).trans (B.keep b o e n hb hx)
  · obtain ⟨sl, q⟩ := B.slot b o e n hb hx
    exact ⟨sl, (hs.2 b (ne b o e)).trans q⟩
  · obtain ⟨o', q⟩ := B.there b o e hx
    exact ⟨o', (hs.2 b (ne b o e)).trans q⟩
  · refine (I'.hok b o e).stay (fun c w' hc q => (hs.2 c ?_).trans q) (fun _ q => q) fun _ _ q => q
    rintro rfl
    rcases hc with rfl | hc
    · rw [hC] at e; cases e
    · rw [hC] at hc; cases hc
  · obtain ⟨_, f1, _, f3, f4, f5⟩ := hf b hb
    exact ⟨f3, f1, f4, f5⟩
end
end L2

set_option Elab.async false
set_option linter.all false
set_option maxRecDepth 100000
set_option maxHeartbeats 4000000
namespace L2
open PySem PySem.Spec PyProof.Rows
section
variable {prog : Program} {w : World} {A : Around} {R : Result → Shared → Prop} {s : Shared}
theorem compLoop_any {elt target iter : Expr} {ifs : List Expr} {scope : Scope} {pos : Pos} {it acc : Value} {env : Env} (I : Nat → Shared → Prop)
    (turn : ∀ n s, I n s → wpAny (model prog w) A (pyNext it) (fun r s₁ => match r with
      | none => R (.ok .next) s₁
      | some v => wpAny (model prog w) A (letOwnedTupleGo target it v) (fun _ s₁' => wpAny (model prog w) A (assign target env v) (fun _ s₂ =>
          wpAny (model prog w) A (forIn ifs true fun c r => if r = true then do let ok ← isTrue c env (eval c env); pure (ForInStep.yield ok) else pure (ForInStep.yield r)) (fun ok s₃ =>
            if ok = true then wpAny (model prog w) A (eval elt env) (fun x s₄ =>
              wpAny (model prog w) A (call (.builtin "list.append") [acc, x]) (fun _ s₅ => ∃ m, m < n ∧ I m s₅) (fun _ _ => False) s₄) (fun _ _ => False) s₃
            else ∃ m, m < n ∧ I m s₃) (fun _ _ => False) s₂) (fun _ _ => False) s₁') (fun _ _ => False) s₁) (fun _ _ => False) s)
    (n : Nat) (h : I n s) : codeAny (model prog w) A (.compLoop (.ListComp elt [⟨target, iter, ifs, 0⟩] scope pos) 0 it acc env) R s := by
  refine codeAny_loop rfl I (fun n s hI => ?_) n h
  show wpAny _ A ((compTurn (.ListComp elt [⟨target, iter, ifs, 0⟩] scope pos) 0 it acc env).onRaise (fun x => do noteFrame x env; theTreesLotGoes x)) _ _ s
  refine wpAny_noted ?_
  rw [compTurn_list]
  have up : ∀ {α : Type} {t : Sem α} {Q : α → Shared → Prop} {s : Shared} {E : Value → Shared → Prop}, wpAny (model prog w) A t Q (fun _ _ => False) s → wpAny (model prog w) A t Q E s := fun h => wpAny_noRaise h
  refine wpAny_bind (wpAny_standAt (wpAny_bind (up (thn (turn n s hI) fun r s₁ h₁ => ?_))))
  cases r with
  | none => exact wpAny_pure h₁
  | some v =>
    refine wpAny_bind (up (thn h₁ fun _ s₁' h₁' => ?_))
    refine wpAny_bind (up (thn h₁' fun _ s₂ h₂ => wpAny_bind (up (thn h₂ fun ok s₃ h₃ => ?_))))
    cases ok with
    | false => exact wpAny_pure ⟨rfl, h₃⟩
    | true =>
      exact wpAny_bind (wpAny_bind (up (thn h₃ fun x s₄ h₄ => wpAny_bind (up (thn h₄ fun _ s₅ h₅ => wpAny_pure (wpAny_pure ⟨rfl, h₅⟩))))))
end

def CompW (J : It) (g : TG) (tt : TT) (te : TE) (σ0 : St) (H1 : Hp) (D : Addr) (Q : VK) : Prop :=
  ∃ W : Nat → Nat → St → Hp → Prop, (∃ m, W 0 m σ0 (upd H1 D (.lst []))) ∧ ∀ i m σ' H', W i m σ' H' →
    (J.stop i H' ∧ Q (.ref D) H') ∨ (J.go i H' ∧ ∃ N : St → Hp → Prop, (∀ σ2 H2, N σ2 H2 → ∃ m', m' < m ∧ W (i + 1) m' σ2 H2) ∧ ∀ x H2, J.yld i H' x H2 → g x σ' H2 fun σ2 H3 => tt σ2 H3 fun b H4 =>
      if b = true then te σ2 H4 fun y H5 => ∃ ys, H5 D = some (.lst ys) ∧ ys.length < sizeLine ∧ N σ2 (upd H5 D (.lst (ys ++ [y]))) else N σ2 H4)
def tComp (wi : TI) (σ0 : St → St) (g : TG) (tt : TT) (te : TE) : TE := fun σ H Q => wi σ H fun J H1 => ∀ D, H1 D = none → CompW J g tt te (σ0 σ) H1 D Q
def PTs (X : Cx) (ifs : List Expr) (t : TT) : Prop :=
  ∀ (pins : List (Addr × Obj)) (s : Shared) (σ : St) (H : Hp) (Q : Bool → Hp → Prop), Inv X pins σ H s → t σ H Q →
    wpAny (model X.prog X.w) X.A (forIn ifs true fun c r => if r = true then do let ok ← isTrue c X.env (eval c X.env); pure (ForInStep.yield ok) else pure (ForInStep.yield r)) (TP X pins σ Q) X.xe s
def tYes : TT := fun _ H Q => Q true H
theorem pts_nil {X : Cx} : PTs X [] tYes := fun _ _ _ H _ I h => wpAny_tests_nil ⟨H, I, h⟩
section
variable {X : Cx} {elt target iter : Expr} {ifs : List Expr} {scope : Scope} {pos : Pos} {N : List Str} {wi : TI} {σ0 : St → St} {g : TG} {tt : TT} {te : TE}
theorem comp_block {pins : List (Addr × Obj)} {σ : St} {H : Hp} {s : Shared} {it : Addr} {fp : List Addr} {tn : Nat → Heap → Prop} {J : It} {Q : Addr → Hp → Prop} {RR : Value → Addr → Result → Shared → Prop} {E : Value → Shared → Prop}
    (hc : X.calm = true) (S : CScope scope X.env) (T : Takes X scope N σ (σ0 σ)) (I : Inv X pins σ H s) (Tn : Turn X.prog X.w X.K target J fp it tn) (st : tn 0 s.heap) (hf : ∀ b ∈ fp, FpOk X pins H b)
    (hg : ∀ C s H fp, PG (cmpCx X scope C N s H fp) target g) (ht : ∀ C s H fp, PTs (cmpCx X scope C N s H fp) ifs tt) (he : ∀ C s H fp, PE (cmpCx X scope C N s H fp) elt te)
    (hw : ∀ D, H D = none → ∃ W : Nat → Nat → St → Hp → Prop, (∃ m, W 0 m (σ0 σ) (upd H D (.lst []))) ∧ ∀ i m σ' H', W i m σ' H' →
      (J.stop i H' ∧ Q D H') ∨ (J.go i H' ∧ ∃ N : St → Hp → Prop, (∀ σ2 H2, N σ2 H2 → ∃ m', m' < m ∧ W (i + 1) m' σ2 H2) ∧ ∀ x H2, J.yld i H' x H2 → g x σ' H2 fun σ2 H3 => tt σ2 H3 fun b H4 =>
        if b = true then te σ2 H4 fun y H5 => ∃ ys, H5 D = some (.lst ys) ∧ ys.length < sizeLine ∧ N σ2 (upd H5 D (.lst (ys ++ [y]))) else N σ2 H4))
    (hR : ∀ (D C : Addr) (H' : Hp) (s' : Shared) (m : Str → Option Value), s.heap.objs.size ≤ C → H' C = none → s'.heap.Ns C m → (∀ h', Heap.SameBut C s'.heap h' → Inv X pins σ H' { s' with heap := h' }) → Q D H' → RR (.ref D) C (.ok .next) s') :
    wpAny (model X.prog X.w) X.A (newList []) (fun acc s₃ => wpAny (model X.prog X.w) X.A (newFunctionEnv scope X.env.globals (closL X.env scope.names []) [] X.env.qual none .none (some X.env)) (fun cenv s₄ =>
      codeAny (model X.prog X.w) X.A (.compStart (.ListComp elt [⟨target, iter, ifs, 0⟩] scope pos) 0 (.ref it) acc { cenv with scope := relabel scope X.env }) (RR acc cenv.locals) s₄) E s₃) E s := by
  refine wpAny_newObj_type (wpAny_newFunctionEnv S.nocell (by intro y hy; simp at hy) (fun h₁ hns₁ hsb₁ => ?_) S.kind)
  -- the new list is tracked
  have hD : H s.heap.objs.size = none := I.hok.fresh (Nat.le_refl _)
  have I3 : Inv X pins σ (upd H s.heap.objs.size (.lst [])) { s with heap := s.heap.push { cls := .type "list", dict := none, data := .seq ([] : List Value).toArray } } := I.lnew (ys := []) (its := []) (t' := s.toks) .nil (by simp)
  have hlt : ∀ b ∈ fp, b < s.heap.objs.size := fun b hb => by obtain ⟨o, e, _⟩ := Tn.obj _ _ st b hb; exact Heap.lt_size e
  have hf3 : ∀ b ∈ fp, FpOk X pins (upd H s.heap.objs.size (.lst [])) b := fun b hb => ⟨by rw [upd_ne (Nat.ne_of_lt (hlt b hb))]; exact (hf b hb).1, (hf b hb).2⟩
  have hlt3 : ∀ b ∈ fp, b < ({ s with heap := s.heap.push { cls := .type "list", dict := none, data := .seq ([] : List Value).toArray } } : Shared).heap.objs.size := fun b hb => by
    show b < (s.heap.push _).objs.size
    rw [Heap.size_push]
    exact Nat.lt_succ_of_lt (hlt b hb)
  have hk1 : ∀ b o, ({ s with heap := s.heap.push { cls := .type "list", dict := none, data := .seq ([] : List Value).toArray } } : Shared).heap.get? b = some o → h₁.get? b = some o := fun b o e =>
    hsb₁.extBut b o (Nat.ne_of_lt (Heap.lt_size e)) (Heap.get?_push_of_some _ e)
  have I4 := cmp_start (N := N) (tk := s.toks + ([] : List (Str × Value)).length) I3 S hf3 hlt3 T hns₁ hk1
  have st4 : tn 0 h₁ := Tn.keep _ _ _ st fun b hb o e => hk1 b o (Heap.get?_push_of_some _ e)
  obtain ⟨W, ⟨m0, w0⟩, turn⟩ := hw _ hD
  generalize hX : cmpCx X scope ({ s with heap := s.heap.push { cls := .type "list", dict := none, data := .seq ([] : List Value).toArray } } : Shared).heap.objs.size N { s with heap := s.heap.push { cls := .type "list", dict := none, data := .seq ([] : List Value).toArray } } (upd H s.heap.objs.size (.lst [])) fp = X' at I4
  have eP : X'.prog = X.prog := by rw [← hX]; rfl
  have eW : X'.w = X.w := by rw [← hX]; rfl
  have eK : X'.K = X.K := by rw [← hX]; rfl
  have eA : X'.A = X.A := by rw [← hX]; rfl
  have eC : X'.calm = true := by rw [← hX]; exact hc
  have eX : X'.xe = fun _ _ => False := by rw [← hX]; rfl
  have eEx : X'.ex = fp := by rw [← hX]; rfl
  have hg' : PG X' target g := by rw [← hX]; exact hg _ _ _ _
  have ht' : PTs X' ifs tt := by rw [← hX]; exact ht _ _ _ _
  have he' : PE X' elt te := by rw [← hX]; exact he _ _ _ _
  have eE : X'.env = compEnvC scope (closL X.env scope.names []) ({ s with heap := s.heap.push { cls := .type "list", dict := none, data := .seq ([] : List Value).toArray } } : Shared).heap.objs.size X.env := by rw [← hX]; rfl
  -- the iterator's objects, inside
  have fpIn : ∀ {H' : Hp}, (∀ b ∈ fp, H' b = none) → ∀ b ∈ fp, FpOk X' [] H' b := fun {H'} hn b hb => by
    obtain ⟨f0, f1, f2, f3, f4, f5⟩ := hf3 b hb
    rw [← hX]
    refine ⟨hn b hb, Nat.ne_of_lt (hlt3 b hb), fun z => ?_, .inl hb, fun x c e => f4 x c (closL_sub (ns := scope.names) (acc := []) (fun y d z => by simp at z) e), fun p hp => absurd (show p ∈ ([] : List (Addr × Obj)) from hp) (by simp)⟩
    rcases List.mem_cons.mp (I3.stkSub b z) with e | e
    · exact f1 e
    · exact f2 e
  have fr0 : ∀ b ∈ fp, upd H s.heap.objs.size (.lst []) b = none := fun b hb => (hf3 b hb).1
  have loop : codeAny (model X.prog X.w) X.A (.compLoop (.ListComp elt [⟨target, iter, ifs, 0⟩] scope pos) 0 (.ref it) (.ref s.heap.objs.size) X'.env)
      (RR (.ref s.heap.objs.size) ({ s with heap := s.heap.push { cls := .type "list", dict := none, data := .seq ([] : List Value).toArray } } : Shared).heap.objs.size)
      { s with heap := h₁, toks := s.toks + ([] : List (Str × Value)).length } := by
    refine compLoop_any (fun n s' => ∃ i σ' H', Inv X' [] σ' H' s' ∧ tn i s'.heap ∧ (∀ b ∈ fp, H' b = none) ∧ W i n σ' H') ?_ m0 ⟨0, σ0 σ, _, I4, st4, fr0, w0⟩
    rintro n s5 ⟨i, σ5, H5, I5, st5, fr5, w5⟩
    rcases turn i n σ5 H5 w5 with ⟨stop, qn⟩ | ⟨go, Nx, hN, step⟩
    · have q := Tn.done X' eP eW eK eC i [] s5 σ5 H5 (fun _ _ => False) I5 (fpIn fr5) st5 stop
      rw [eA] at q
      refine thn q fun r s6 ⟨hr, I6⟩ => ?_
      subst hr
      obtain ⟨mm, hns6, _⟩ := I6.loc
      rw [eE] at hns6
      have fr6 := I6.free
      rw [eE] at fr6
      refine hR _ _ H5 s6 mm ?_ fr6 hns6 (fun h' hs => ?_) qn
      · show s.heap.objs.size ≤ (s.heap.push _).objs.size
        rw [Heap.size_push]
        exact Nat.le_succ _
      · rw [← hX] at I6
        exact cmp_end I3 hf3 I6 hs
    · have q := Tn.item X' eP eW eK eC i [] s5 σ5 H5 (fun _ _ => False) I5 (fpIn fr5) st5 go
      rw [eA] at q
      refine thn q fun r s6 ⟨u, hr, h6⟩ => ?_
      subst hr
      refine thn h6 fun _ s7 ⟨x, H7, I7, r7, y7, st7, fr7⟩ => ?_
      have I7' := I7.pinned (fpIn fr7) (Tn.obj _ _ st7)
      have q8 := hg' _ s7 σ5 H7 x u _ I7' r7 (step x H7 y7)
      rw [eP, eW, eA, eX] at q8
      refine thn q8 fun _ s8 ⟨σ8, H8, I8, q8⟩ => ?_
      have q9 := ht' _ s8 σ8 H8 _ I8 q8
      rw [eP, eW, eA, eX] at q9
      refine thn q9 fun ok s9 ⟨H9, I9, q9⟩ => ?_
      have again : ∀ {σ10 : St} {H10 : Hp} {s10 : Shared}, Inv X' ([] ++ pinsAt fp s7.heap) σ10 H10 s10 → Nx σ10 H10 → ∃ m, m < n ∧ ∃ i σ' H', Inv X' [] σ' H' s10 ∧ tn i s10.heap ∧ (∀ b ∈ fp, H' b = none) ∧ W i m σ' H' := fun {σ10 H10 s10} J10 n10 => by
        obtain ⟨m', hm, w10⟩ := hN σ10 H10 n10
        refine ⟨m', hm, i + 1, σ10, H10, J10.unpinned, Tn.keep _ _ _ st7 fun b hb o e => (J10.pin (b, o) (List.mem_append_right _ (List.mem_append_right _ (mem_pinsAt hb e)))).1, fun b hb => ?_, w10⟩
        obtain ⟨o, e, d⟩ := Tn.obj _ _ st7 b hb
        exact (J10.pin (b, o) (List.mem_append_right _ (List.mem_append_right _ (mem_pinsAt hb e)))).2.1
      cases ok with
      | false =>
        have q9' : Nx σ8 H9 := q9
        exact again I9 q9'
      | true =>
        have q9' : te σ8 H9 _ := q9
        have q10 := he' _ s9 σ8 H9 _ I9 q9'
        rw [eP, eW, eA, eX] at q10
        refine thn q10 fun y s10 ⟨yv, H10, I10, r10, ys, hys, hz, n10⟩ => ?_
        have q11 := (mt_append (X := X')) _ s10 σ8 H10 (.ref s.heap.objs.size) [yv] (.ref s.heap.objs.size) [y] (fun _ H11 => Nx σ8 H11) I10 rfl (.cons r10 .nil) ⟨_, ys, yv, rfl, rfl, hys, hz, n10⟩
        rw [eP, eW, eA, eX] at q11
        exact thn q11 fun _ s11 ⟨_, H11, I11, _, n11⟩ => again I11 n11
  rw [eE] at loop
  exact codeAny_compStart_list loop (Tn.self _ 0 _ _ _ st4 loop)

theorem pe_comp (hc : X.calm = true) (S : CScope scope X.env) (hi : PI X target iter wi) (T : ∀ σ, σ.length = X.N.length → Takes X scope N σ (σ0 σ))
    (hg : ∀ C s H fp, PG (cmpCx X scope C N s H fp) target g) (ht : ∀ C s H fp, PTs (cmpCx X scope C N s H fp) ifs tt) (he : ∀ C s H fp, PE (cmpCx X scope C N s H fp) elt te)
    (hs : ∀ x, foldedSetIterable iter X.env x = pure x := by intro _; rfl) : PE X (.ListComp elt [⟨target, iter, ifs, 0⟩] scope pos) (tComp wi σ0 g tt te) := by
  intro pins s σ H Q I h
  rw [eval_ListComp]
  refine wpAny_comprehension_free (use := none) rfl hs (closureFor_eq S.free) S.kind S.loc (thn (hi pins s σ H _ I h) fun xv s₁ h₁ => thn h₁ fun itv s₂ h₂ => ?_)
  obtain ⟨it, fp, tn, J, H2, rfl, I2, Tn, st2, f2, hw⟩ := h₂
  refine comp_block (Q := fun D H' => Q (.ref D) H') (RR := fun acc C => compPost (model X.prog X.w) X.A X.xe none (EP X pins σ Q) acc C) hc S (T σ I.len) I2 Tn st2 f2 hg ht he hw ?_
  intro D C H' s' m hC _ hn hI hq
  exact ⟨m, hn, fun h' hs' => ⟨.ref D, H', hI h' hs', rfl, hq⟩⟩
theorem ps_setC {i : Nat} {y : Str} {py spos : Pos} (hc : X.calm = true) (S : CScope scope X.env) (hi : PI X target iter wi) (T : ∀ σ, σ.length = X.N.length → Takes X scope N σ (σ0 σ))
    (hg : ∀ C s H fp, PG (cmpCx X scope C N s H fp) target g) (ht : ∀ C s H fp, PTs (cmpCx X scope C N s H fp) ifs tt) (he : ∀ C s H fp, PE (cmpCx X scope C N s H fp) elt te)
    (hN : X.N.Nodup) (hy : X.N[i]? = some y) (hx : Loc X.env.scope y)
    (hsw : swapsWith (.ListComp elt [⟨target, iter, ifs, 0⟩] scope pos) (some (.Name y py)) spos.line X.env = pure true := by rfl)
    (hf : X.fn y = true ∨ X.env.scope.names.lookup y = some .local := by first | exact .inl rfl | exact .inr rfl | assumption)
    (hs : ∀ x, foldedSetIterable iter X.env x = pure x := by intro _; rfl) : PS X (.Assign [.Name y py] (.ListComp elt [⟨target, iter, ifs, 0⟩] scope pos) spos) (tAsg (tComp wi σ0 g tt te) (gName i)) := by
  intro pins s σ H D I h
  rw [exec_Assign_Name_used _ _ _ _ hsw]
  refine wpAny_bind (wpAny_standAt (wpAny_bind ?_))
  show wpAny _ X.A (do let _ ← comprehension (.ListComp elt [⟨target, iter, ifs, 0⟩] scope pos) scope X.env _ (newList []) false (eval iter X.env) (some (assign (.Name y py) X.env))) _ _ s
  refine wpAny_bind (thn (wpAny_comprehension_free (use := some (assign (.Name y py) X.env)) (Q := fun _ s' => SP X pins D .next s') rfl hs (closureFor_eq S.free) S.kind S.loc
    (thn (hi pins s σ H _ I h) fun xv s₁ h₁ => thn h₁ fun itv s₂ h₂ => ?_)) fun _ s' hq => wpAny_pure (wpAny_pure hq))
  obtain ⟨it, fp, tn, J, H2, rfl, I2, Tn, st2, f2, hw⟩ := h₂
  refine comp_block (Q := fun L H' => D.nx (σ.set i (some (.ref L))) H') (RR := fun acc C => compPost (model X.prog X.w) X.A X.xe (some (assign (.Name y py) X.env)) (fun _ s' => SP X pins D .next s') acc C) hc S (T σ I.len) I2 Tn st2 f2 hg ht he hw ?_
  intro L C H' s' m hC hfree hn hI hq
  have I3 : Inv X pins σ H' s' := hI s'.heap (.refl ..)
  refine wpAny_assign_Name (store_ok2 I3 hN hy hx (v := .ref L) rfl (fun s4 I4 hch => ?_) hf)
  obtain ⟨a, hsb, ha⟩ := hch
  have haC : C ≠ a := by
    rintro rfl
    rcases ha with e | e
    · have := I2.lt
      rw [← e] at this
      exact absurd (Nat.lt_of_lt_of_le this hC) (Nat.lt_irrefl _)
    · obtain ⟨v, z⟩ := I2.cell y _ e
      exact absurd (Nat.lt_of_lt_of_le z.lt hC) (Nat.lt_irrefl _)
  refine ⟨m, hn.sameBut hsb haC, fun h' hs' => ⟨_, H', ?_, hq⟩⟩
  have e4 : ({ s4 with heap := h' } : Shared) = { s4 with heap := h', toks := s4.toks } := rfl
  rw [e4]
  refine I4.turned (it := C) (fun b o hb e => (hs'.2 b hb).trans e) hfree ?_ (.inr (Nat.le_trans I2.sz hC)) ?_ ?_
  · exact Nat.ne_of_gt (Nat.lt_of_lt_of_le I2.lt hC)
  · rintro x c e rfl
    obtain ⟨v, z⟩ := I2.cell x _ e
    exact absurd (Nat.lt_of_lt_of_le z.lt hC) (Nat.lt_irrefl _)
  · rintro p hp e
    exact absurd (Nat.lt_of_lt_of_le (Heap.lt_size (I2.pin p hp).1) (by rw [e]; exact hC)) (Nat.lt_irrefl _)
end
end L2

set_option Elab.async false
set_option linter.all false
set_option maxRecDepth 100000
set_option maxHeartbeats 4000000
namespace L2
open PySem PySem.Spec PyProof.Rows
section
variable {X : Cx}
theorem kit_same {K : PySem.W.Frag} {T : String} : PySem.W.kitOne K (.type T) (.type T) = some true := by
  unfold PySem.W.kitOne
  rw [if_pos (by simp)]
theorem kit_of {K : PySem.W.Frag} {T U : String} {b : Bool} {l : List Value} (hm : PySem.W.kitMeta U = true) (hn : ¬ T = U) (hl : fastBuiltinMro T = some l) (hb : l.contains (.type U) = b) : PySem.W.kitOne K (.type T) (.type U) = some b := by
  unfold PySem.W.kitOne
  rw [if_neg (by simp [hn])]
  show (if PySem.W.kitMeta U = true then PySem.W.subIn K (.type T) (.type U) else none) = some b
  rw [if_pos hm]
  show (fastBuiltinMro T).map (·.contains (.type U)) = some b
  rw [hl, ← hb]
  rfl
theorem Inv.big2 {pins : List (Addr × Obj)} {σ : St} {H : Hp} {s : Shared} (I : Inv X pins σ H s) : sysModules < s.heap.objs.size :=
  Nat.lt_trans (by decide) (I.mod.glob.keeps I.bk).lt
def tDNew : TE := fun _ H Q => ∀ p, H p = none → Q (.ref p) (upd H p (.dK []))
theorem pe_dnew {pos : Pos} : PE X (.Dict [] [] pos) tDNew := fun pins s σ H Q I h =>
  wpAny_Dict_empty ⟨.ref s.heap.objs.size, _, I.laid (a := s.heap.objs.size) (o := .dK []) (t' := s.toks) (fun _ _ q => Heap.get?_push_of_some _ q) (Nat.le_refl _)
    ⟨Nat.zero_le _, beq_eq_false_iff_ne.mpr (Ne.symm (Nat.ne_of_lt I.big2)), [], .nil, Heap.DictOf.new _⟩, rfl, h _ (I.hok.fresh (Nat.le_refl _))⟩

theorem op_le_str : OpR X (compareOp .LtE) (fun x y H Q => ∃ i j, x = .str i ∧ y = .str j ∧ Q (.bl (!(decide (j.cps.toList < i.cps.toList)))) H) := by
  intro pins s σ H x y v u Q I rx ry h
  obtain ⟨i, j, rfl, rfl, q⟩ := h
  obtain ⟨t, rfl⟩ := rx
  obtain ⟨t', rfl⟩ := ry
  exact PySem.P.le_str (fin_bl I q rfl)
theorem op_in_sign : OpR X (compareOp .In) (fun x y H Q => ∃ (c : Nat) (j : Str), x = .str ⟨#[c]⟩ ∧ y = .str j ∧ Q (.bl (decide (c ∈ j.cps.toList))) H) := by
  intro pins s σ H x y v u Q I rx ry h
  obtain ⟨c, j, rfl, rfl, q⟩ := h
  exact op_in_str pins s σ H _ _ v u Q I rx ry ⟨_, _, rfl, rfl, by rw [StrLaws.found_one]; exact q⟩
theorem op_notin_sign : OpR X (compareOp .NotIn) (fun x y H Q => ∃ (c : Nat) (j : Str), x = .str ⟨#[c]⟩ ∧ y = .str j ∧ Q (.bl (!decide (c ∈ j.cps.toList))) H) := by
  intro pins s σ H x y v u Q I rx ry h
  obtain ⟨c, j, rfl, rfl, q⟩ := h
  exact op_notin_str pins s σ H _ _ v u Q I rx ry ⟨_, _, rfl, rfl, by rw [StrLaws.found_one]; exact q⟩
def rSlS : V → Option Int → Option Int → Hp → VK → Prop := fun x lo hi H Q => ∃ z, x = .str z ∧ z.length ≤ sizeLine ∧ Q (.str (Txt.slice z lo hi)) H
theorem sl_str : SlR X rSlS := by
  intro pins s σ H x v vl vu lo hi sl Q I rx hs pl pu h
  obtain ⟨z, rfl, hz, q⟩ := h
  obtain ⟨t, rfl⟩ := rx
  obtain ⟨o, ho, hc, hd⟩ := hs
  refine ⟨"str", _, slot_str_getitem.lookup, typeIs_str _ _ _, ?_⟩
  cases pl with
  | none =>
    cases pu with
    | none => exact wpAny_getItem_str_slice (l := none) (u := none) (st := none) ⟨_, ho, hc, hd⟩ rfl (post_val_or_str ⟨Nat.le_trans (Txt.slice_le z _ _) hz, fun t' k => ⟨.str (Txt.slice z _ _), H, I.tok k, ⟨t', rfl⟩, q⟩⟩)
    | int j u => exact wpAny_getItem_str_slice (l := none) (u := some (j, u)) (st := none) ⟨_, ho, hc, hd⟩ rfl (post_val_or_str ⟨Nat.le_trans (Txt.slice_le z _ _) hz, fun t' k => ⟨.str (Txt.slice z _ _), H, I.tok k, ⟨t', rfl⟩, q⟩⟩)
  | int i ti =>
    cases pu with
    | none => exact wpAny_getItem_str_slice (l := some (i, ti)) (u := none) (st := none) ⟨_, ho, hc, hd⟩ rfl (post_val_or_str ⟨Nat.le_trans (Txt.slice_le z _ _) hz, fun t' k => ⟨.str (Txt.slice z _ _), H, I.tok k, ⟨t', rfl⟩, q⟩⟩)
    | int j u => exact wpAny_getItem_str_slice (l := some (i, ti)) (u := some (j, u)) (st := none) ⟨_, ho, hc, hd⟩ rfl (post_val_or_str ⟨Nat.le_trans (Txt.slice_le z _ _) hz, fun t' k => ⟨.str (Txt.slice z _ _), H, I.tok k, ⟨t', rfl⟩, q⟩⟩)
theorem slice_mem {z : Str} {lo hi : Option Int} {c : Nat} (h : c ∈ (Txt.slice z lo hi).cps.toList) : c ∈ z.cps.toList := by
  unfold Txt.slice at h
  split at h
  · exact h
  · obtain ⟨i, _, e⟩ := List.mem_filterMap.mp (by simpa using h)
    exact List.mem_of_getElem? (by simpa using e)
theorem strsAre_of : ∀ {ys : List Str} {us : List Value}, Vals (ys.map V.str) us → StrsAre us ys
  | [], _, .nil => .nil
  | y :: ys, _, .cons r t => by
    obtain ⟨tk, rfl⟩ := r
    exact .cons y tk (strsAre_of t)
def rJoin (K : PySem.W.Frag) : V → List V → Hp → VK → Prop := fun x vs H Q => ∃ sep p ys, x = .str sep ∧ vs = [.ref p] ∧ SqL K H p (ys.map V.str) ∧ (ys.map (·.length)).sum + ys.length * sep.length ≤ 16777216 ∧ Q (.str (Txt.join sep ys)) H
theorem mt_join : MtR X "str.join" (rJoin X.K) := by
  intro pins s σ H x vs v us Q I rx rv h
  obtain ⟨sep, p, ys, rfl, rfl, hq, hz, q⟩ := h
  obtain ⟨t, rfl⟩ := rx
  obtain ⟨u, rfl, ru⟩ := rv.one
  cases ru
  obtain ⟨its, r, pl, _⟩ := I.list hq
  exact join_list pl.isList (by simpa using strsAre_of r) hz fun t' k => ⟨.str (Txt.join sep ys), H, I.tok k, ⟨t', rfl⟩, q⟩
theorem join_mem : ∀ {ys : List Str} {c : Nat}, c ∈ (Str.join Str.empty ys).cps.toList → ∃ y ∈ ys, c ∈ y.cps.toList
  | [], c, h => by simp [Str.join, Str.empty] at h
  | [y], c, h => ⟨y, List.mem_singleton.mpr rfl, h⟩
  | y :: z :: r, c, h => by
    have h : c ∈ ((y ++ Str.empty) ++ Str.join Str.empty (z :: r)).cps.toList := h
    have e : ∀ a b : Str, (a ++ b).cps.toList = a.cps.toList ++ b.cps.toList := fun a b => by
      show (a.cps ++ b.cps).toList = _
      simp
    rw [e, e] at h
    rcases List.mem_append.mp h with h | h
    · rcases List.mem_append.mp h with h | h
      · exact ⟨y, List.mem_cons_self, h⟩
      · simp [Str.empty] at h
    · obtain ⟨w, hw, hc⟩ := join_mem h
      exact ⟨w, List.mem_cons_of_mem _ hw, hc⟩
theorem joinT_mem {ys : List Str} {c : Nat} (h : c ∈ (Txt.join Str.empty ys).cps.toList) : ∃ y ∈ ys, c ∈ y.cps.toList := by
  unfold Txt.join at h
  rw [StrLaws.glued_eq_join] at h
  exact join_mem h
def rUpper : V → List V → Hp → VK → Prop := fun x vs H Q => ∃ z, x = .str z ∧ vs = [] ∧ (∀ c ∈ z.cps.toList, c < 128) ∧ z.length ≤ 1000 ∧ Q (.str ⟨z.cps.map up1⟩) H
theorem mt_upper : MtR X "str.upper" rUpper := by
  intro pins s σ H x vs v us Q I rx rv h
  obtain ⟨z, rfl, rfl, ha, hz, q⟩ := h
  obtain ⟨t, rfl⟩ := rx
  obtain rfl := rv.zero
  have e := upper_ascii ha
  refine SC.upper ?_ ?_
  · rw [e]
    have e2 : (⟨z.cps.map up1⟩ : Str).length = z.length := by simp [Str.length]
    rw [e2]
    unfold Builtin.Str.tooLong
    have h1 : 1000 ≤ sizeLine := by decide
    exact decide_eq_false (by omega)
  · rw [e]
    exact ⟨.str ⟨z.cps.map up1⟩, H, I.tok _, ⟨_, rfl⟩, q⟩
end
end L2

set_option Elab.async false
set_option linter.all false
set_option maxRecDepth 100000
set_option maxHeartbeats 4000000
namespace L2
open PySem PySem.Spec PyProof.Rows
def Its (z : Str) : It := ⟨fun i _ => i < z.cps.size, fun i H x H' => H' = H ∧ ∃ c, z.cps.toList[i]? = some c ∧ x = .str ⟨#[c]⟩, fun i _ => i = z.cps.size⟩
theorem strIter_ty (z : Str) : ["enumerate", "zip", "dict_itemiterator", "dict_reverseitemiterator", "odict_iterator", "itertools.zip_longest", "itertools.pairwise"].contains (strIterType z) = false := by
  unfold strIterType
  cases z.cps.all (· < 128) <;> decide
theorem walks_str {P : Program} {w : World} {A : Around} (hh : A.handled = none) (it : Addr) (z : Str) (t : Tok) : Walks P w A it [it] [it] z.cps.size (SignAt z) (fun i h => h.IsStrIter it (strIterType z) z t i) := by
  unfold strIterType
  cases z.cps.all (· < 128)
  · exact Walks.strWide hh it z t
  · exact Walks.strAscii hh it z t
theorem turn_str {P : Program} {w : World} {K : PySem.W.Frag} {tg : Expr} (it : Addr) (z : Str) (t : Tok) : Turn P w K tg (Its z) [it] it (fun i h => h.IsStrIter it (strIterType z) z t i) where
  mem := by simp
  obj := fun i h st b hb => by
    have e : b = it := by simpa using hb
    subst e
    obtain ⟨o, e, c, d⟩ := st
    exact ⟨o, e, fun v z => by rw [d] at z; cases z⟩
  keep := fun i h h' st k => let ⟨o, e, r⟩ := st; ⟨o, k it (by simp) o e, r⟩
  item := by
    intro X hP hw hK hc i pins s σ H E I hf st hg
    subst hP hw hK
    obtain ⟨f0, f1, f2, f3, f4, f5⟩ := hf it (by simp)
    refine (walks_str (P := X.prog) (w := X.w) (I.ok.hd hc) it z t).item i s _ _ hg st fun v h' tk hv st' kk => ?_
    obtain ⟨c, u, hcu, rfl⟩ := hv
    have I1 : Inv X pins σ H { s with heap := h', toks := tk } := I.turned (fun b o hb e => kk b o (by simpa using hb) e) f0 f1 f3 f4 f5
    obtain ⟨o, e, cc, d⟩ := id st'
    exact ⟨_, rfl, go_of (s := { s with heap := h', toks := tk }) e cc d (strIter_ty z) ⟨.str ⟨#[c]⟩, H, I1, ⟨u, rfl⟩, ⟨rfl, c, by simpa using hcu, rfl⟩, st', fun b hb => (hf b hb).1⟩⟩
  done := by
    intro X hP hw hK hc i pins s σ H E I hf st hg
    subst hP hw hK
    obtain ⟨f0, f1, f2, f3, f4, f5⟩ := hf it (by simp)
    have hg : i = z.cps.size := hg
    subst hg
    exact (walks_str (P := X.prog) (w := X.w) (I.ok.hd hc) it z t).done s _ _ st fun h' tk kk => ⟨rfl, I.turned (fun b o hb e => kk b o (by simpa using hb) e) f0 f1 f3 f4 f5⟩
  self := fun A i s Q E st h => by
    obtain ⟨o, e, c, d⟩ := st
    unfold strIterType at c
    cases ha : z.cps.all (· < 128)
    · rw [ha] at c; exact wpAny_pyIter_striter_wide ⟨o, e, c, d⟩ h
    · rw [ha] at c; exact wpAny_pyIter_striter_ascii ⟨o, e, c, d⟩ h
section
variable {X : Cx} {tg : Expr}
end

section
variable {g : TG} {tt : TT} {te : TE} {σ0 : St} {H1 : Hp} {D : Addr} {Q : VK}
def CompT (g : TG) (tt : TT) (te : TE) (D : Addr) (Nx : List V → St → Hp → Prop) (x : V) (σ : St) (H : Hp) : Prop :=
  g x σ H fun σ2 H3 => tt σ2 H3 fun b H4 => if b = true then te σ2 H4 fun y H5 => ∃ ys, H5 D = some (.lst ys) ∧ ys.length < sizeLine ∧ (∃ zs, upd H5 D (.lst (ys ++ [y])) D = some (.lst zs) ∧ Nx zs σ2 (upd H5 D (.lst (ys ++ [y])))) else ∃ zs, H4 D = some (.lst zs) ∧ Nx zs σ2 H4
theorem comp_range {lo : Int} {n : Nat} (Pv : Nat → List V → St → Hp → Prop) (h0 : Pv 0 [] σ0 (upd H1 D (.lst [])))
    (hs : ∀ i ys σ H, i < n → H D = some (.lst ys) → Pv i ys σ H → CompT g tt te D (Pv (i + 1)) (.int (lo + i)) σ H)
    (hd : ∀ ys σ H, H D = some (.lst ys) → Pv n ys σ H → Q (.ref D) H) : CompW (Itr lo n) g tt te σ0 H1 D Q := by
  refine ⟨fun i m σ H => m = n - i ∧ i ≤ n ∧ ∃ ys, H D = some (.lst ys) ∧ Pv i ys σ H, ⟨n, by simp, Nat.zero_le _, [], upd_same, h0⟩, ?_⟩
  rintro i m σ H ⟨rfl, hi, ys, hD, p⟩
  by_cases hlt : i < n
  · refine .inr ⟨hlt, fun σ2 H2 => ∃ zs, H2 D = some (.lst zs) ∧ Pv (i + 1) zs σ2 H2, fun σ' H' p' => ⟨n - (i + 1), by omega, rfl, hlt, p'⟩, fun x H' y => ?_⟩
    obtain ⟨e, y⟩ := y
    subst e y
    exact hs i ys σ _ hlt hD p
  · have e : i = n := by omega
    subst e
    exact .inl ⟨Nat.le_refl _, hd ys σ H hD p⟩
theorem comp_str {z : Str} (Pv : Nat → List V → St → Hp → Prop) (h0 : Pv 0 [] σ0 (upd H1 D (.lst [])))
    (hs : ∀ i c ys σ H, z.cps.toList[i]? = some c → H D = some (.lst ys) → Pv i ys σ H → CompT g tt te D (Pv (i + 1)) (.str ⟨#[c]⟩) σ H)
    (hd : ∀ ys σ H, H D = some (.lst ys) → Pv z.cps.size ys σ H → Q (.ref D) H) : CompW (Its z) g tt te σ0 H1 D Q := by
  refine ⟨fun i m σ H => m = z.cps.size - i ∧ i ≤ z.cps.size ∧ ∃ ys, H D = some (.lst ys) ∧ Pv i ys σ H, ⟨z.cps.size, by simp, Nat.zero_le _, [], upd_same, h0⟩, ?_⟩
  rintro i m σ H ⟨rfl, hi, ys, hD, p⟩
  by_cases hlt : i < z.cps.size
  · refine .inr ⟨hlt, fun σ2 H2 => ∃ zs, H2 D = some (.lst zs) ∧ Pv (i + 1) zs σ2 H2, fun σ' H' p' => ⟨z.cps.size - (i + 1), by omega, rfl, hlt, p'⟩, fun x H' y => ?_⟩
    obtain ⟨e, c, hc, y⟩ := y
    subst e y
    exact hs i c ys σ _ hc hD p
  · have e : i = z.cps.size := by omega
    subst e
    exact .inl ⟨rfl, hd ys σ H hD p⟩
end

section
variable {X : Cx}
theorem vals_bl : ∀ {bs : List Bool} {us : List Value}, Vals (bs.map V.bl) us → us = bs.map Value.bool
  | [], _, .nil => rfl
  | b :: bs, _, .cons r t => by
    cases r
    rw [vals_bl t]
    rfl
theorem range_all {bs : List Bool} : (List.range bs.length).all (fun i => bs.getD i true) = bs.all id := by
  induction bs with
  | nil => rfl
  | cons b r ih =>
    rw [List.length_cons, List.range_succ_eq_map, List.all_cons, List.all_map, List.all_cons]
    have : ((fun i => (b :: r).getD i true) ∘ Nat.succ) = fun i => r.getD i true := by
      funext i
      simp
    rw [this, ih]
    rfl
theorem call_all (hc : X.calm = true) : CallR X (.builtin "all") (fun xs H Q => ∃ (p : Addr) (bs : List Bool), xs = [.ref p] ∧ SqL X.K H p (bs.map V.bl) ∧ Q (.bl (bs.all id)) H) := by
  intro pins s σ H xs us Q I r h
  obtain ⟨p, bs, rfl, hq, q⟩ := h
  obtain ⟨u, rfl, ru⟩ := r.one
  cases ru
  obtain ⟨its, rv, pl, hz⟩ := I.list hq
  obtain rfl := vals_bl rv
  refine call_all_walk (wpAny_pyIter_list pl.isList ?_)
  have hlt : p < s.heap.objs.size := by obtain ⟨o, e, _⟩ := pl.isList; exact Heap.lt_size e
  have hl' : (s.heap.push { cls := .type "list_iterator", data := .fields #[.ref p, rawInt 0] }).IsList p (bs.map Value.bool).toArray := pl.isList.at fun o e => Heap.get?_push_of_some _ e
  refine ⟨s.heap.objs.size, _, _, _, _, _, fun i => bs.getD i true, rfl, Walks.list (A := X.A.in1) (show X.A.in1.handled = none from I.ok.hd hc) s.heap.objs.size p (Nat.ne_of_lt hlt) (bs.map Value.bool).toArray, ⟨⟨_, Heap.get?_push_size _ rfl, rfl, rfl⟩, ?_⟩, ?_, ?_⟩
  · exact pl.isList.at fun o e => Heap.get?_push_of_some _ e
  · intro i v s' Q' E' hv hQ
    have hv' : (bs.map Value.bool)[i]? = some v := by simpa using hv
    rw [List.getElem?_map] at hv'
    cases e : bs[i]? with
    | none => rw [e] at hv'; cases hv'
    | some b =>
      rw [e] at hv'
      cases hv'
      have : bs.getD i true = b := by simp [List.getD, e]
      have hQ : Q' (bs.getD i true) s' := hQ
      rw [this] at hQ
      exact wpAny_truthy_bool hQ
  · intro h' tk hk
    have I1 : Inv X pins σ H { s with heap := s.heap.push { cls := .type "list_iterator", data := .fields #[.ref p, rawInt 0] } } := I.kept (t' := s.toks) fun b o e => Heap.get?_push_of_some _ e
    have F := I.fpOk (Nat.le_refl s.heap.objs.size) (I.hok.fresh (Nat.le_refl _))
    obtain ⟨f0, f1, f2, f3, f4, f5⟩ := F
    have I2 : Inv X pins σ H { s with heap := h', toks := tk } := Inv.turned (s := { s with heap := s.heap.push { cls := .type "list_iterator", data := .fields #[.ref p, rawInt 0] } }) (h' := h') (t' := tk) (it := s.heap.objs.size) I1 (fun b o hb e => hk b o (by simpa using hb) e) f0 f1 f3 f4 f5
    refine ⟨.bl (bs.all id), H, I2, ?_, q⟩
    show Value.bool _ = Value.bool _
    have : (bs.map Value.bool).toArray.size = bs.length := by simp
    rw [this, range_all]
end
end L2

set_option Elab.async false
set_option linter.all false
set_option maxRecDepth 100000
set_option maxHeartbeats 4000000
namespace L2
open PySem PySem.Spec PyProof.Rows
theorem Same.upd {H : Hp} {p : Addr} {o : HO} (h : H p = none) : Same H (upd H p o) := fun b u e => by rw [upd_ne (ne_of_none e h)]; exact e
theorem Same.put {H0 H : Hp} {p : Addr} {o : HO} (s : Same H0 H) (h : H p = none) : Same H0 (L2.upd H p o) := s.trans (Same.upd h)
theorem Same.over {H0 H : Hp} {p : Addr} {o : HO} (s : Same H0 H) (h : H0 p = none) : Same H0 (L2.upd H p o) := fun b u e => by rw [upd_ne (ne_of_none e h)]; exact s b u e
theorem Same.tup {K : PySem.W.Frag} {H H' : Hp} {a : Addr} {xs : List V} (e : Same H H') (h : SqT K H a xs) : SqT K H' a xs := by
  rcases h with (h | ⟨o, h⟩) | h
  · exact .inl (.inl (e _ _ h))
  · exact .inl (.inr ⟨o, e _ _ h⟩)
  · exact .inr h
theorem cscope_fn {sc out : Scope} {qual : Str} {n : Nat} {f : Addr} {cd : Value} (hk : sc.kind = .function) (hc : (sc.names.all fun y => y.2 != .cell) = true)
    (hl : (sc.names.all fun y => y.2 != .local || sc.names.lookup y.1 == some .local) = true) (hf : (sc.names.all fun y => y.2 != .free || out.names.lookup y.1 == some .cell) = true) : CScope sc (envOfC qual out n f cd) where
  kind := hk
  nocell := fun y hy e => by have := List.all_eq_true.mp hc y hy; rw [e] at this; cases this
  loc := fun y hy e => by
    have := List.all_eq_true.mp hl y hy
    rw [e] at this
    simpa using this
  free := fun y hy e => by
    have h := List.all_eq_true.mp hf y hy
    rw [e] at h
    have h : out.names.lookup y.1 = some .cell := by simpa using h
    obtain ⟨c, hc⟩ := cell_has (n := n + 1) h
    show ((cellsFrom (n + 1) out.names []).lookup y.1).isSome = true
    rw [hc]
    rfl
def capSt (k : Nat) (cap : List Nat) (σ : St) : St := List.replicate k none ++ cap.map fun j => (σ[j]?).join
theorem takes_of {X : Cx} {scope : Scope} {N : List Str} {k : Nat} {cap : List Nat} {σ : St} (hl : k + cap.length = N.length)
    (h : ∀ (i j : Nat) (x : Str), cap[i]? = some j → N[k + i]? = some x → X.N[j]? = some x ∧ scope.names.lookup x = some .free ∧ (X.env.kindOf x = some .cell ∨ X.env.kindOf x = some .free)) : Takes X scope N σ (capSt k cap σ) := by
  refine ⟨by unfold capSt; simp [hl], fun i x v hx hv => ?_⟩
  unfold capSt at hv
  by_cases hi : i < k
  · rw [List.getElem?_append_left (by simpa using hi), List.getElem?_replicate, if_pos hi] at hv
    cases hv
  · rw [List.getElem?_append_right (by simpa using hi), List.length_replicate, List.getElem?_map] at hv
    cases hj : cap[i - k]? with
    | none => rw [hj] at hv; cases hv
    | some j =>
      rw [hj] at hv
      have hv : (σ[j]?).join = some v := Option.some.inj hv
      obtain ⟨h1, h2, h3⟩ := h (i - k) j x hj (by rw [show k + (i - k) = i by omega]; exact hx)
      refine ⟨j, h1, ?_, h2, h3⟩
      cases e : σ[j]? with
      | none => rw [e] at hv; cases hv
      | some o => rw [e] at hv; exact congrArg some hv
theorem takes_in {X : Cx} {scope : Scope} {N : List Str} {k : Nat} {cap : List Nat} (hl : k + cap.length = N.length)
    (h : ((cap.zip (N.drop k)).all fun p => X.N[p.1]? == some p.2 && scope.names.lookup p.2 == some .free && (X.env.kindOf p.2 == some .cell || X.env.kindOf p.2 == some .free)) = true) : ∀ σ, σ.length = X.N.length → Takes X scope N σ (capSt k cap σ) := fun σ _ =>
  takes_of hl fun i j x hj hx => by
    have m : (j, x) ∈ cap.zip (N.drop k) := by
      refine List.mem_of_getElem? (i := i) ?_
      rw [List.getElem?_zip_eq_some]
      exact ⟨hj, by rw [List.getElem?_drop]; exact hx⟩
    have := List.all_eq_true.mp h _ m
    simp only [Bool.and_eq_true, Bool.or_eq_true, beq_iff_eq] at this
    exact ⟨this.1.1, this.1.2, this.2⟩
theorem atI_in {α : Type} {xs : List α} {i : Int} (h0 : 0 ≤ i) (h1 : i < xs.length) : ∃ v, atI xs i = some v ∧ v ∈ xs := by
  have hj : i.toNat < xs.length := by omega
  refine ⟨xs[i.toNat], ?_, List.getElem_mem hj⟩
  have := atI_nat (xs := xs) (j := i.toNat) (v := xs[i.toNat]) (by simp [hj])
  rwa [Int.toNat_of_nonneg h0] at this
def constV : Expr → Option V
  | .Constant (.str x) _ _ => some (.str x)
  | .Constant (.int i) _ _ => some (.int i)
  | .Constant (.bool b) _ _ => some (.bl b)
  | .Constant .none _ _ => some .non
  | _ => none
def constsV : List Expr → Option (List V)
  | [] => some []
  | e :: es => match constV e, constsV es with
    | some v, some vs => some (v :: vs)
    | _, _ => none
def tVals (xs : List V) : TA := fun _ H Q => Q xs H
theorem constV_ok {X : Cx} {e : Expr} {v : V} (h : constV e = some v) : PE X e (tC v) ∧ ∀ es, starEach (e :: es) X.env = (false, eval e X.env) :: starEach es X.env := by
  unfold constV at h
  split at h
  · cases h; exact ⟨pe_str, fun _ => rfl⟩
  · cases h; exact ⟨pe_int, fun _ => rfl⟩
  · cases h; exact ⟨pe_bl, fun _ => rfl⟩
  · cases h; exact ⟨pe_non, fun _ => rfl⟩
  · cases h
theorem pa_consts {X : Cx} : ∀ {es : List Expr} {xs : List V}, constsV es = some xs → PA X es (tVals xs)
  | [], xs, h => by
    have h : some [] = some xs := h
    cases h
    exact pa_nil
  | e :: es, xs, h => by
    unfold constsV at h
    split at h
    · rename_i v vs h1 h2
      cases h
      obtain ⟨p, hs⟩ := constV_ok (X := X) h1
      exact pa_cons p (pa_consts h2) (hs es)
    · cases h
structure Callee (P : Program) (w : World) (K : PySem.W.Frag) (mg : Str → Option Value) (base : Heap) (k : Nat) (x : Str) (ps : List Str) (sp : Sp) : Prop where
  ex : ∃ (f : Addr) (fd : FuncData), FnOk P w K mg base CX0 k f fd ps sp ∧ mg x = some (.ref f) ∧ PySem.W.keepIn K (.ref f) = true ∧ Binds K fd ps []
section
variable {X : Cx} {k : Nat} {x : Str} {ps : List Str} {sp : Sp} {p pos : Pos} {e : Expr} {es : List Expr} {t : TA}
theorem pe_fn (C : Callee X.prog X.w X.K X.mg X.base k x ps sp) (hr : Room k X.A) (ha : PA X (e :: es) t) (hg : Gl X x := by rfl) (hdb : (x == ("__debug__" : Str)) = false := by decide)
    (he : starEach (e :: es) X.env = (false, eval e X.env) :: starEach es X.env := by rfl) (hpl : (backTo pos (starEach es X.env)).any (·.1) = false := by rfl) : PE X (.Call (.Name x p) (e :: es) [] pos) (tCall sp [] E0 t) := by
  obtain ⟨f, fd, F, hm, hk, hb⟩ := C.ex
  exact pe_call F hr hg hm hk hb .nil pass0 ha hdb he hpl
end
end L2

set_option Elab.async false
set_option linter.all false
set_option maxRecDepth 100000
set_option maxHeartbeats 4000000
namespace L2
open PySem
theorem relV_abs {x : V} {u : Value} (h : absV u = some x) : RelV x u := by
  cases u <;> simp only [absV] at h <;> first | (cases h; first | rfl | exact ⟨_, rfl⟩) | cases h
def absAll : List Value → Option (List V)
  | [] => some []
  | u :: r => match absV u, absAll r with
    | some x, some xs => some (x :: xs)
    | _, _ => none
theorem vals_abs : ∀ {us : List Value} {xs : List V}, absAll us = some xs → Vals xs us
  | [], xs, h => by
    have h : some [] = some xs := h
    cases h
    exact .nil
  | u :: r, xs, h => by
    unfold absAll at h
    split at h
    · rename_i x ys h1 h2
      cases h
      exact .cons (relV_abs h1) (vals_abs h2)
    · cases h
theorem top_tuple {K : PySem.W.Frag} {a : Addr} {od : Option Addr} {its : Array Value} {n : Nat} {sl : Array (Option Value)} {xs : List V} (l : K.lookup a = some ⟨.type "tuple", od, .seq its n, sl⟩) (h : absAll its.toList = some xs) (hz : xs.length ≤ 1000) : ∀ H, SqT K H a xs := fun H => by
  have v := vals_abs h
  refine .inr ⟨_, its, n, l, rfl, rfl, ?_, v⟩
  have e := v.length
  have b : 1000 ≤ sizeLine := by decide
  have e2 : its.toList.length = its.size := Array.length_toList
  omega
theorem callee_of {P : Program} {w : World} {K : PySem.W.Frag} {mg : Str → Option Value} {base : Heap} {k : Nat} {x : Str} {ps : List Str} {sp : Sp} {f : Addr} {fd : FuncData} (F : FnOk P w K mg base CX0 k f fd ps sp) (m : mg x = some (.ref f)) (kp : PySem.W.keepIn K (.ref f) = true) (b : Binds K fd ps []) : Callee P w K mg base k x ps sp := ⟨f, fd, F, m, kp, b⟩
section
variable {P : Program} {w : World} {K : PySem.W.Frag} {mg : Str → Option Value} {base : Heap}
end
end L2

set_option Elab.async false
set_option linter.all false
set_option maxRecDepth 100000
set_option maxHeartbeats 4000000
set_option autoImplicit true
namespace L2
open PySem PySem.Spec PyProof.Rows
structure QE (X : Cx) (e : Expr) (t : TE) : Prop where
  run : PE X e t
structure QT (X : Cx) (e : Expr) (t : TT) : Prop where
  run : PT X e t
structure QW (X : Cx) (e : Expr) (t : TT) : Prop where
  run : PW X e t
structure QA (X : Cx) (es : List Expr) (t : TA) : Prop where
  run : PA X es t
structure QS (X : Cx) (st : Stmt) (t : TS) : Prop where
  run : PS X st t
structure QSs (X : Cx) (sts : List Stmt) (t : TS) : Prop where
  run : PSs X sts t
structure QG (X : Cx) (e : Expr) (g : TG) : Prop where
  run : PG X e g
structure QGs (X : Cx) (es : List Expr) (g : TGs) : Prop where
  run : PGs X es g
structure QI (X : Cx) (tg iter : Expr) (wi : TI) : Prop where
  run : PI X tg iter wi
structure QC (X : Cx) (op : CmpOp) (a b : Expr) (t : TE) : Prop where
  run : PC X op a b t
structure QO (X : Cx) (e : Option Expr) (t : TO) : Prop where
  run : PO X e t
structure QTs (X : Cx) (ifs : List Expr) (t : TT) : Prop where
  run : PTs X ifs t
theorem qe_int {i j pos} : QE X (.Constant (.int i) j pos) (tC (.int i)) := ⟨pe_int⟩
theorem qe_bl {b j pos} : QE X (.Constant (.bool b) j pos) (tC (.bl b)) := ⟨pe_bl⟩
theorem qe_non {j pos} : QE X (.Constant .none j pos) (tC .non) := ⟨pe_non⟩
theorem qe_str {x j pos} : QE X (.Constant (.str x) j pos) (tC (.str x)) := ⟨pe_str⟩
theorem qe_glob {x : Str} {v : V} {u : Value} {pos : Pos} (hg : Gl X x) (hm : X.mg x = some u) (r : RelV v u) (hd : (x == ("__debug__" : Str)) = false := by decide) : QE X (.Name x pos) (tC v) := ⟨pe_glob hg hm r hd⟩
theorem qe_bltn {x : Str} {v : V} {u : Value} {pos : Pos} (hg : Gl X x) (hm : X.mg x = none) (hv : bootBuiltins x = some u) (r : RelV v u) (hn : x ≠ "__name__" := by decide) (hd : (x == ("__debug__" : Str)) = false := by decide) : QE X (.Name x pos) (tC v) := ⟨pe_bltn hg hm hv r hn hd⟩
theorem qe_op {op : Operator} {r : R2} (ho : OpR X (binaryOp op) r) (ha : QE X a ta) (hb : QE X b tb) : QE X (.BinOp a op b pos) (tOp r ta tb) := ⟨pe_op ho ha.run hb.run⟩
theorem qe_un {op : UnaryOp} {r : V → Hp → VK → Prop} (ho : UnR X (unaryOp op) r) (ha : QE X a ta) : QE X (.UnaryOp op a pos) (tUn r ta) := ⟨pe_un ho ha.run⟩
theorem qe_cmp {op : CmpOp} {t : TE} (h : QC X op a b t) (h1 : behindInMarks op b = false := by first | exact nobehind _ (by decide) (by decide) | rfl) : QE X (.Compare a [op] [b] pos) t := ⟨pe_cmp h.run h1⟩
theorem qt_cmp {op : CmpOp} {t : TE} (h : QC X op a b t) (h1 : behindInMarks op b = false := by first | exact nobehind _ (by decide) (by decide) | rfl) : QT X (.Compare a [op] [b] pos) (tB t) := ⟨pt_cmp h.run h1⟩
theorem qe_cmpR {op : CmpOp} {r : R2} (ho : OpR X (compareOp op) r) (ha : QE X a ta) (hb : QE X b tb) (hm : behindInMarks op b = false) : QE X (.Compare a [op] [b] pos) (tOp r ta tb) := ⟨pe_cmpR ho ha.run hb.run hm⟩
theorem qt_cmpR {op : CmpOp} {r : R2} (ho : OpR X (compareOp op) r) (ha : QE X a ta) (hb : QE X b tb) (hm : behindInMarks op b = false) : QT X (.Compare a [op] [b] pos) (tTest (tOp r ta tb)) := ⟨pt_cmpR ho ha.run hb.run hm⟩
theorem qe_chain {op op' : CmpOp} {r r' : R2} (ho : OpR X (compareOp op) r) (ho' : OpR X (compareOp op') r') (ha : QE X a ta) (hb : QE X b tb) (hc : QE X c tc) (hm : lastMarks [op, op'] [b, c] = false := by with_unfolding_all rfl) : QE X (.Compare a [op, op'] [b, c] pos) (tChain r r' ta tb tc) := ⟨pe_chain ho ho' ha.run hb.run hc.run hm⟩
theorem qt_chain {op op' : CmpOp} {r r' : R2} (ho : OpR X (compareOp op) r) (ho' : OpR X (compareOp op') r') (ha : QE X a ta) (hb : QE X b tb) (hc : QE X c tc) (hm : lastMarks [op, op'] [b, c] = false := by with_unfolding_all rfl) : QT X (.Compare a [op, op'] [b, c] pos) (tTest (tChain r r' ta tb tc)) := ⟨pt_chain ho ho' ha.run hb.run hc.run hm⟩
theorem qt_val {e : Expr} {t : TE} (h : QE X e t) (he : ∀ whole, isTrue e X.env whole = (do let v ← whole; standAt e.pos; holding [v] (truthy v)) := by intro _; rfl) : QT X e (tB t) := ⟨pt_val h.run he⟩
theorem qw_and1 (ha : QT X a tA) : QW X (.BoolOp .And [a] pos) tA := ⟨pw_and1 ha.run⟩
theorem qw_or1 (ha : QT X a tA) : QW X (.BoolOp .Or [a] pos) tA := ⟨pw_or1 ha.run⟩
theorem qw_and {rest : List Expr} (ha : QT X a tA) (hb : QW X (.BoolOp .And (b :: rest) pos) tB') : QW X (.BoolOp .And (a :: b :: rest) pos) (tAnd tA tB') := ⟨pw_and ha.run hb.run⟩
theorem qw_or {rest : List Expr} (ha : QT X a tA) (hb : QW X (.BoolOp .Or (b :: rest) pos) tB') : QW X (.BoolOp .Or (a :: b :: rest) pos) (tOr tA tB') := ⟨pw_or ha.run hb.run⟩
theorem qt_not (ha : QT X a tA) : QT X (.UnaryOp .Not a pos) (tNot tA) := ⟨pt_not ha.run⟩
theorem qe_one {op} {t : TE} (h : QE X a t) : QE X (.BoolOp op [a] pos) t := ⟨pe_one h.run⟩
theorem qe_and {rest : List Expr} (ha : QE X a ta) (hb : QE X (.BoolOp .And (b :: rest) pos) tb) : QE X (.BoolOp .And (a :: b :: rest) pos) (tAndV ta tb) := ⟨pe_and ha.run hb.run⟩
theorem qe_or {rest : List Expr} (ha : QE X a ta) (hb : QE X (.BoolOp .Or (b :: rest) pos) tb) : QE X (.BoolOp .Or (a :: b :: rest) pos) (tOrV ta tb) := ⟨pe_or ha.run hb.run⟩
theorem qe_not (ha : QE X a ta) : QE X (.UnaryOp .Not a pos) (tNotV ta) := ⟨pe_not ha.run⟩
theorem qss_nil  : QSs X [] tNext := ⟨pss_nil⟩
theorem qss_cons {st : Stmt} {rest : List Stmt} {t u : TS} (h1 : QS X st t) (h2 : QSs X rest u) : QSs X (st :: rest) (tSeq t u) := ⟨pss_cons h1.run h2.run⟩
theorem qss_one {st : Stmt} {t : TS} (h1 : QS X st t) : QSs X [st] t := ⟨pss_one h1.run⟩
theorem qs_expr {e : Expr} {te : TE} (he : QE X e te) (hs : swapsWith e none pos.line X.env = pure false := by rfl) : QS X (.Expr e pos) (tDrop te) := ⟨ps_expr he.run hs⟩
theorem qs_ret {e : Expr} {te : TE} (he : QE X e te) : QS X (.Return (some e) pos) (tRet te) := ⟨ps_ret he.run⟩
theorem qs_if {t u : TS} {c : Expr} {a b : List Stmt} {tc : TT} (hc : QT X c tc) (ha : QSs X a t) (hb : QSs X b u) : QS X (.If c a b pos) (tIfS tc t u) := ⟨ps_if hc.run ha.run hb.run⟩
theorem qgs_nil  : QGs X [] gNil := ⟨pgs_nil⟩
theorem qgs_cons {e : Expr} {es : List Expr} {t : TG} {u : TGs} (h1 : QG X e t) (h2 : QGs X es u) (hs : (assignEach (e :: es) X.env).map (·.2) = assign e X.env :: (assignEach es X.env).map (·.2) := by rfl) : QGs X (e :: es) (gCons t u) := ⟨pgs_cons h1.run h2.run hs⟩
theorem qg_name {i : Nat} {x : Str} (hN : X.N.Nodup) (hi : X.N[i]? = some x) (hx : Loc X.env.scope x) (hf : X.fn x = true ∨ X.env.scope.names.lookup x = some .local := by first | exact .inl rfl | exact .inr rfl | assumption) : QG X (.Name x pos) (gName i) := ⟨pg_name hN hi hx hf⟩
theorem qg_sub {o i : Expr} {to ti : TE} {t : TSet} (ho : QE X o to) (hi : QE X i ti) (hs : PSet X t) (ha : ∀ v, assign (.Subscript o i pos) X.env v = (do
      let ov ← holding [v] (eval o X.env)
      let iv ← holding [v, ov] (eval i X.env)
      standAt pos
      holding [v, ov, iv] (setItem ov iv v)
      release [v, ov, iv] []) := by intro _; rfl) : QG X (.Subscript o i pos) (gSub to ti t) := ⟨pg_sub ho.run hi.run hs ha⟩
theorem qs_asg {tg e : Expr} {te : TE} {g : TG} (he : QE X e te) (hg : QG X tg g) (hs : swapsWithSole [tg] e pos.line X.env = pure false := by rfl) (hw : swappedStores [tg] e X.env = pure none := by rfl) (h1 : (assignEach [tg] X.env).map (·.2) = [assign tg X.env] := by rfl) : QS X (.Assign [tg] e pos) (tAsg te g) := ⟨ps_asg he.run hg.run hs hw h1⟩
theorem qs_set {i : Nat} {x : Str} {e : Expr} {te : TE} {pos' : Pos} (hN : X.N.Nodup) (hi : X.N[i]? = some x) (hx : Loc X.env.scope x) (he : QE X e te) (hs : swapsWith e (some (.Name x pos')) pos.line X.env = pure false := by rfl) (hf : X.fn x = true ∨ X.env.scope.names.lookup x = some .local := by first | exact .inl rfl | exact .inr rfl | assumption) : QS X (.Assign [.Name x pos'] e pos) (tAsg te (gName i)) := ⟨ps_set hN hi hx he.run hs hf⟩
theorem qi_range1 {a : Expr} {ta : TA} {p pos : Pos} (hg : Gl X "range") (hm : X.mg "range" = none) (ha : QA X [a] ta) (hs : starEach [a] X.env = [(false, eval a X.env)] := by rfl) : QI X tg (.Call (.Name "range" p) [a] [] pos) (iRng1 ta) := ⟨pi_range1 hg hm ha.run hs⟩
theorem qs_for {iter : Expr} {body : List Stmt} {wi : TI} {g : TG} {tb : TS} {pos : Pos} (hp : PassesOwn (model X.prog X.w) X.A X.env X.xe) (hc : X.calm = true) (hi : QI X tg iter wi) (hg : QG X tg g) (hb : QSs X body tb) (hs : ∀ x, foldedSetIterable iter X.env x = pure x := by intro _; rfl) : QS X (.For tg iter body [] pos) (tFor wi g tb) := ⟨ps_for hp hc hi.run hg.run hb.run hs⟩
theorem qa_nil  : QA X [] tNil := ⟨pa_nil⟩
theorem qa_cons (ha : QE X e te) (hr : QA X es t) (hs : starEach (e :: es) X.env = (false, eval e X.env) :: starEach es X.env := by rfl) : QA X (e :: es) (tCons te t) := ⟨pa_cons ha.run hr.run hs⟩
theorem qe_tup {x1} (h : QA X es t) : QE X (.Tuple es x1 pos) (tTup t) := ⟨pe_tup h.run⟩
theorem qe_lst (h : QA X es t) : QE X (.List es pos) (tLst t) := ⟨pe_lst h.run⟩
theorem qe_fn (C : Callee X.prog X.w X.K X.mg X.base k x ps sp) (hr : Room k X.A) (ha : QA X (e :: es) t) (hg : Gl X x := by rfl) (hdb : (x == ("__debug__" : Str)) = false := by decide) (he : starEach (e :: es) X.env = (false, eval e X.env) :: starEach es X.env := by rfl) (hpl : (backTo pos (starEach es X.env)).any (·.1) = false := by rfl) : QE X (.Call (.Name x p) (e :: es) [] pos) (tCall sp [] E0 t) := ⟨pe_fn C hr ha.run hg hdb he hpl⟩
theorem qe_callB {id : String} (hc : CallR X (.builtin id) r) (hg : Gl X x) (hm : X.mg x = none) (hv : bootBuiltins x = some (.builtin id)) (ha : QA X (e :: es) t) (hn : x ≠ "__name__" := by decide) (hdb : (x == ("__debug__" : Str)) = false := by decide) (he : starEach (e :: es) X.env = (false, eval e X.env) :: starEach es X.env := by rfl) (hpl : (backTo pos (starEach es X.env)).any (·.1) = false := by rfl) : QE X (.Call (.Name x p) (e :: es) [] pos) (tCB r t) := ⟨pe_callB hc hg hm hv ha.run hn hdb he hpl⟩
theorem qe_callTy {T : String} (hc : CallR X (.type T) r) (hg : Gl X x) (hm : X.mg x = none) (hv : bootBuiltins x = some (.type T)) (ha : QA X (e :: es) t) (hn : x ≠ "__name__" := by decide) (hdb : (x == ("__debug__" : Str)) = false := by decide) (he : starEach (e :: es) X.env = (false, eval e X.env) :: starEach es X.env := by rfl) (hpl : (backTo pos (starEach es X.env)).any (·.1) = false := by rfl) : QE X (.Call (.Name x p) (e :: es) [] pos) (tCB r t) := ⟨pe_callTy hc hg hm hv ha.run hn hdb he hpl⟩
theorem qo_none  : QO X none tNoPart := ⟨po_none⟩
theorem qo_some (h : QE X e te) : QO X (some e) (tPart te) := ⟨po_some h.run⟩
theorem qe_slice {lo hi : Option Expr} {r : V → Option Int → Option Int → Hp → VK → Prop} (hr : SlR X r) (he : QE X e te) (hl : QO X lo tl) (hu : QO X hi th) : QE X (.Subscript e (.Slice lo hi none p2) pos) (tSl r te tl th) := ⟨pe_slice hr he.run hl.run hu.run⟩
theorem qe_ix {r : R2} (hr : IxR X r) (ha : QE X a ta) (hb : QE X b tb) (hs : PlainIx b) : QE X (.Subscript a b pos) (tOp r ta tb) := ⟨pe_ix hr ha.run hb.run hs⟩
theorem qe_bm {T id : String} (pa : PlainAttrs T) (slot : Slot T name id) (hty : typeOf (.builtin id) = pure (.type "method_descriptor")) (hm : MtR X id r) (ho : QE X o to) (ha : QA X (e :: es) t) (hbase : attributeBase o name X.env (eval o X.env) = eval o X.env := by rfl) (hfew : ((backTo cpos (starEach (e :: es) X.env)).all (fun x => !x.1) && (backToKw cpos (keywordEach [] X.env)).all (fun x => x.1.isSome)
      && decide ((e :: es).length + ([] : List Keyword).length + (if ([] : List Keyword).isEmpty then 0 else 1) < 30)) = true := by rfl) (hline : (apos.endLine == cpos.line) = true := by rfl) (hs : starEach (e :: es) X.env = (false, eval e X.env) :: starEach es X.env := by rfl) (hplain : (backTo cpos (starEach es X.env)).any (·.1) = false := by rfl) : QE X (.Call (.Attribute o name apos) (e :: es) [] cpos) (tBM X.K T r to t) := ⟨pe_bm pa slot hty hm ho.run ha.run hbase hfew hline hs hplain⟩
theorem qe_bm0 {T id : String} (pa : PlainAttrs T) (slot : Slot T name id) (hty : typeOf (.builtin id) = pure (.type "method_descriptor")) (hm : MtR X id r) (ho : QE X o to) (hbase : attributeBase o name X.env (eval o X.env) = eval o X.env := by rfl) (hline : (apos.endLine == cpos.line) = true := by rfl) : QE X (.Call (.Attribute o name apos) [] [] cpos) (tBM0 X.K T r to) := ⟨pe_bm0 pa slot hty hm ho.run hbase hline⟩
theorem qe_comp (hc : X.calm = true) (S : CScope scope X.env) (hi : QI X target iter wi) (T : ∀ σ, σ.length = X.N.length → Takes X scope N σ (σ0 σ)) (hg : ∀ C s H fp, QG (cmpCx X scope C N s H fp) target g) (ht : ∀ C s H fp, QTs (cmpCx X scope C N s H fp) ifs tt) (he : ∀ C s H fp, QE (cmpCx X scope C N s H fp) elt te) (hs : ∀ x, foldedSetIterable iter X.env x = pure x := by intro _; rfl) : QE X (.ListComp elt [⟨target, iter, ifs, 0⟩] scope pos) (tComp wi σ0 g tt te) := ⟨pe_comp hc S hi.run T (fun C s H fp => (hg C s H fp).run) (fun C s H fp => (ht C s H fp).run) (fun C s H fp => (he C s H fp).run) hs⟩
theorem qs_setC {i : Nat} {y : Str} {py spos : Pos} (hc : X.calm = true) (S : CScope scope X.env) (hi : QI X target iter wi) (T : ∀ σ, σ.length = X.N.length → Takes X scope N σ (σ0 σ)) (hg : ∀ C s H fp, QG (cmpCx X scope C N s H fp) target g) (ht : ∀ C s H fp, QTs (cmpCx X scope C N s H fp) ifs tt) (he : ∀ C s H fp, QE (cmpCx X scope C N s H fp) elt te) (hN : X.N.Nodup) (hy : X.N[i]? = some y) (hx : Loc X.env.scope y) (hsw : swapsWith (.ListComp elt [⟨target, iter, ifs, 0⟩] scope pos) (some (.Name y py)) spos.line X.env = pure true := by rfl) (hf : X.fn y = true ∨ X.env.scope.names.lookup y = some .local := by first | exact .inl rfl | exact .inr rfl | assumption) (hs : ∀ x, foldedSetIterable iter X.env x = pure x := by intro _; rfl) : QS X (.Assign [.Name y py] (.ListComp elt [⟨target, iter, ifs, 0⟩] scope pos) spos) (tAsg (tComp wi σ0 g tt te) (gName i)) := ⟨ps_setC hc S hi.run T (fun C s H fp => (hg C s H fp).run) (fun C s H fp => (ht C s H fp).run) (fun C s H fp => (he C s H fp).run) hN hy hx hsw hf hs⟩
theorem qe_dnew {pos : Pos} : QE X (.Dict [] [] pos) tDNew := ⟨pe_dnew⟩
theorem qts_nil {X : Cx} : QTs X [] tYes := ⟨pts_nil⟩
theorem qc_isN {j pos'} (ha : QE X a ta) : QC X .Is a (.Constant .none j pos') (tIsN ta) := ⟨pc_isN ha.run⟩
theorem qc_notN {j pos'} (ha : QE X a ta) : QC X .IsNot a (.Constant .none j pos') (tNotN ta) := ⟨pc_notN ha.run⟩
end L2

set_option Elab.async false
set_option linter.all false
set_option maxRecDepth 100000
set_option maxHeartbeats 4000000
namespace L2
open PySem PySem.Spec PyProof.Rows
theorem qa_consts {X : Cx} {es : List Expr} {xs : List V} (h : constsV es = some xs) : QA X es (tVals xs) := ⟨pa_consts h⟩
theorem qv {X : Cx} (i : Nat) {x : Str} {pos : Pos} (hN : X.N[i]? = some x := by rfl) (hv : Vis X.env.scope x := by first | exact Or.inl rfl | exact Or.inr (Or.inl rfl) | exact Or.inr (Or.inr rfl)) (hd : (x == ("__debug__" : Str)) = false := by decide)
    (hcd : (x == ("__classdict__" : Str)) = false := by decide) : QE X (.Name x pos) (tVar i) := ⟨pe_var hN hv hd hcd⟩
theorem QW.qt {X : Cx} {e : Expr} {t : TT} (h : QW X e t) : QT X e t := ⟨h.run.pt⟩
section
variable {P : Program} {w : World} {K : PySem.W.Frag} {mg : Str → Option Value} {base : Heap}
theorem Fun.okq {x qual : Str} {st : Stmt} {f : Addr} {fd : FuncData} {N ps : List Str} {k : Nat} {sp : Sp} (F : Fun K x qual st f fd) (S : FnScope N ps (defScope st)) (len : ∀ vs H Q E, sp vs H Q E → vs.length = ps.length)
    (hbody : ∀ (cdv : Value) (A : Around) (outer : List Env) (s : Shared) (H : Hp) (vs : List V) (Q : VK) (E : XK), Room k (A.deeper (envOfC qual (defScope st) s.heap.objs.size f cdv)) → sp vs H Q E →
      ∃ t, QSs (cxOf CX0 P w K mg base N qual (defScope st) f cdv A outer s H E).nox (defBody st) t ∧ t { nx := fun _ H' => Q .non H', rt := Q } (start N vs) H) : FnOk P w K mg base CX0 (k + 1) f fd ps sp :=
  F.ok S len fun cdv A outer s H vs Q E hr h => by
    obtain ⟨t, q, r⟩ := hbody cdv A outer s H vs Q E hr h
    exact ⟨t, q.run, r⟩
end
end L2

set_option Elab.async false
set_option linter.all false
set_option maxRecDepth 100000
set_option maxHeartbeats 4000000
namespace L2
open PySem PySem.Spec PyProof.Rows
section
variable {X : Cx}
def rAddS : R2 := fun x y H Q => ∃ i j, x = .str i ∧ y = .str j ∧ i.length + j.length ≤ sizeLine ∧ Q (.str (i ++ j)) H
def rCatA (K : PySem.W.Frag) : R2 := fun x y H Q => ∃ a b xs ys, x = .ref a ∧ y = .ref b ∧ SqT K H a xs ∧ SqT K H b ys ∧ xs.length + ys.length ≤ sizeLine ∧
  ∀ r H', Same H H' → SqT K H' r (xs ++ ys) → Q (.ref r) H'
theorem op_catA : OpR X (binaryOp .Add) (rCatA X.K) := by
  intro pins s σ H x y v u Q I rx ry h
  obtain ⟨a, b, xs, ys, rfl, rfl, ha, hb, hz, q⟩ := h
  by_cases hx : xs = []
  · subst hx
    cases rx
    cases ry
    obtain ⟨its, r1, p1, _⟩ := I.tuple ha
    obtain ⟨its2, r2, p2, _⟩ := I.tuple hb
    cases r1
    obtain ⟨⟨cls, dd, data, sl⟩, ho, hc, n, hd⟩ := id p1
    obtain ⟨⟨cls2, dd2, data2, sl2⟩, ho2, hc2, n2, hd2⟩ := id p2
    simp only at hc hd hc2 hd2
    subst hc hd hc2 hd2
    exact concat_meets ⟨_, ho, rfl⟩ ⟨_, ho2, rfl⟩ noFill_tuple_add seq_tuple_add PySem.F.slot_tuple_add PySem.F.entry_tuple_add (PySem.F.args_tuple_add_2 _ _)
      (tuple_addW0 a b _ _ n n2 dd dd2 sl sl2 (by simp)) ⟨ho, ho2, ⟨.ref b, H, I, rfl, q b H (Same.refl H) hb⟩⟩
  · refine op_catT pins s σ H _ _ v u Q I rx ry ⟨a, b, xs, ys, rfl, rfl, ha, hb, hx, hz, fun e => ?_, fun _ p hp => q p _ (fun c o e => by rw [upd_ne (ne_of_none e hp)]; exact e) (.inl (.inl upd_same))⟩
    subst e
    exact q a H (Same.refl H) (by rw [List.append_nil]; exact ha)
def rAddA (K : PySem.W.Frag) : R2 := fun x y H Q => rI0 (fun i j => .int (i + j)) x y H Q ∨ rAddS x y H Q ∨ rCat x y H Q ∨ rCatA K x y H Q
theorem op_addA : OpR X (binaryOp .Add) (rAddA X.K) := op_add.or (op_add_str.or (op_cat.or op_catA))
theorem s_add_int {K : PySem.W.Frag} {i j : Int} {H : Hp} {Q : VK} (h : Q (.int (i + j)) H) : rAddA K (.int i) (.int j) H Q := .inl ⟨i, j, rfl, rfl, h⟩
theorem s_add_str {K : PySem.W.Frag} {i j : Str} {H : Hp} {Q : VK} (hl : i.length + j.length ≤ sizeLine) (h : Q (.str (i ++ j)) H) : rAddA K (.str i) (.str j) H Q := .inr (.inl ⟨i, j, rfl, rfl, hl, h⟩)
theorem s_add_lst {K : PySem.W.Frag} {a b : Addr} {xs ys : List V} {H : Hp} {Q : VK} (ha : H a = some (.lst xs)) (hb : H b = some (.lst ys)) (hz : xs.length + ys.length ≤ sizeLine) (h : ∀ p, H p = none → Q (.ref p) (upd H p (.lst (xs ++ ys)))) : rAddA K (.ref a) (.ref b) H Q := .inr (.inr (.inl ⟨a, b, xs, ys, rfl, rfl, ha, hb, hz, h⟩))
def rMulA : R2 := fun x y H Q => rI CMul (fun i j => .int (i * j)) x y H Q ∨ rRep x y H Q
theorem op_mulA : OpR X (binaryOp .Mult) rMulA := op_mul.or op_rep
theorem s_mul_l {i j : Int} {H : Hp} {Q : VK} (h1 : -(2 ^ 64) < i) (h2 : i < 2 ^ 64) (h : Q (.int (i * j)) H) : rMulA (.int i) (.int j) H Q := .inl ⟨i, j, rfl, rfl, .inl ⟨h1, h2⟩, h⟩
theorem s_mul_r {i j : Int} {H : Hp} {Q : VK} (h1 : -(2 ^ 64) < j) (h2 : j < 2 ^ 64) (h : Q (.int (i * j)) H) : rMulA (.int i) (.int j) H Q := .inl ⟨i, j, rfl, rfl, .inr ⟨h1, h2⟩, h⟩
theorem s_rI {C : Int → Int → Prop} {g : Int → Int → V} {i j : Int} {H : Hp} {Q : VK} (hc : C i j) (h : Q (g i j) H) : rI C g (.int i) (.int j) H Q := ⟨i, j, rfl, rfl, hc, h⟩
theorem s_rI0 {g : Int → Int → V} {i j : Int} {H : Hp} {Q : VK} (h : Q (g i j) H) : rI0 g (.int i) (.int j) H Q := ⟨i, j, rfl, rfl, h⟩
theorem s_rU {g : Int → V} {i : Int} {H : Hp} {Q : VK} (h : Q (g i) H) : rU g (.int i) H Q := ⟨i, rfl, h⟩
def rLtA : R2 := fun x y H Q => rI0 (fun i j => .bl (decide (i < j))) x y H Q ∨ ∃ i j, x = .str i ∧ y = .str j ∧ Q (.bl (decide (i.cps.toList < j.cps.toList))) H
theorem op_ltA : OpR X (compareOp .Lt) rLtA := op_lt.or op_lt_str
def rLeA : R2 := fun x y H Q => rI0 (fun i j => .bl (decide (i ≤ j))) x y H Q ∨ ∃ i j, x = .str i ∧ y = .str j ∧ Q (.bl (!(decide (j.cps.toList < i.cps.toList)))) H
theorem op_leA : OpR X (compareOp .LtE) rLeA := op_le.or op_le_str
theorem s_lt {i j : Int} {H : Hp} {Q : VK} (h : Q (.bl (decide (i < j))) H) : rLtA (.int i) (.int j) H Q := .inl ⟨i, j, rfl, rfl, h⟩
theorem s_le {i j : Int} {H : Hp} {Q : VK} (h : Q (.bl (decide (i ≤ j))) H) : rLeA (.int i) (.int j) H Q := .inl ⟨i, j, rfl, rfl, h⟩
def rInS (neg : Bool) : R2 := fun x y H Q => ∃ (c : Nat) (j : Str), x = .str ⟨#[c]⟩ ∧ y = .str j ∧ Q (.bl (if neg then !decide (c ∈ j.cps.toList) else decide (c ∈ j.cps.toList))) H
theorem op_inS : OpR X (compareOp .In) (rInS false) := op_in_sign
theorem op_notinS : OpR X (compareOp .NotIn) (rInS true) := op_notin_sign
def rInA (K : PySem.W.Frag) (neg : Bool) : R2 := fun x y H Q => rIn K neg x y H Q ∨ rInS neg x y H Q
theorem op_inA : OpR X (compareOp .In) (rInA X.K false) := op_in_seq.or op_inS
theorem op_notinA : OpR X (compareOp .NotIn) (rInA X.K true) := op_notIn_seq.or op_notinS
theorem s_in_seq {K : PySem.W.Frag} {neg : Bool} {x : V} {p : Addr} {xs : List V} {H : Hp} {Q : VK} (hq : SqL K H p xs ∨ SqT K H p xs) (hx : flatV x = true) (hxs : xs.all flatV = true) (h : Q (.bl (if neg then !inV x xs else inV x xs)) H) : rInA K neg x (.ref p) H Q := .inl ⟨p, xs, rfl, hq, hx, hxs, h⟩
def rSlA (K : PySem.W.Frag) : V → Option Int → Option Int → Hp → VK → Prop := fun x lo hi H Q => rSlL K x lo hi H Q ∨ rSlS x lo hi H Q ∨ rSlT K x lo hi H Q
theorem sl_any : SlR X (rSlA X.K) := sl_list.or (sl_str.or sl_tup)
theorem s_sl_str {K : PySem.W.Frag} {z : Str} {lo hi : Option Int} {H : Hp} {Q : VK} (hl : z.length ≤ sizeLine) (h : Q (.str (Txt.slice z lo hi)) H) : rSlA K (.str z) lo hi H Q := .inr (.inl ⟨z, rfl, hl, h⟩)
theorem s_ix_lst {K : PySem.W.Frag} {a : Addr} {xs : List V} {i : Int} {v : V} {H : Hp} {Q : VK} (ha : SqL K H a xs) (hv : atI xs i = some v) (h : Q v H) : rIx K (.ref a) (.int i) H Q := .inl ⟨a, xs, i, v, rfl, rfl, ha, hv, h⟩
theorem s_ix_tup {K : PySem.W.Frag} {a : Addr} {xs : List V} {i : Int} {v : V} {H : Hp} {Q : VK} (ha : SqT K H a xs) (hv : atI xs i = some v) (h : Q v H) : rIx K (.ref a) (.int i) H Q := .inr (.inl ⟨a, xs, i, v, rfl, rfl, ha, hv, h⟩)
theorem s_ix_str {K : PySem.W.Frag} {z : Str} {i : Int} {c : Nat} {H : Hp} {Q : VK} (hl : z.length ≤ sizeLine) (hv : atI z.cps.toList i = some c) (h : Q (.str ⟨#[c]⟩) H) : rIx K (.str z) (.int i) H Q := .inr (.inr ⟨z, i, c, rfl, rfl, hl, hv, h⟩)
def rLen (K : PySem.W.Frag) : List V → Hp → VK → Prop := fun xs H Q => ∃ x n, xs = [x] ∧ LenV K x H n ∧ Q (.int n) H
theorem call_lenA : CallR X (.builtin "len") (rLen X.K) := call_len
theorem s_len_lst {K : PySem.W.Frag} {a : Addr} {xs : List V} {H : Hp} {Q : VK} (ha : SqL K H a xs) (h : Q (.int xs.length) H) : rLen K [.ref a] H Q := ⟨_, _, rfl, .inl ⟨xs, ha, rfl⟩, h⟩
theorem s_len_tup {K : PySem.W.Frag} {a : Addr} {xs : List V} {H : Hp} {Q : VK} (ha : SqT K H a xs) (h : Q (.int xs.length) H) : rLen K [.ref a] H Q := ⟨_, _, rfl, .inr ⟨xs, ha, rfl⟩, h⟩
theorem s_len_str {K : PySem.W.Frag} {z : Str} {H : Hp} {Q : VK} (hl : z.length ≤ sizeLine) (h : Q (.int z.length) H) : rLen K [.str z] H Q := ⟨_, _, rfl, ⟨hl, rfl⟩, h⟩
structure Glob (mg : Str → Option Value) (x : Str) (v : V) : Prop where
  ex : ∃ u, mg x = some u ∧ RelV v u
theorem qe_gl {x : Str} {v : V} {pos : Pos} (G : Glob X.mg x v) (hg : Gl X x := by rfl) (hd : (x == ("__debug__" : Str)) = false := by decide) : QE X (.Name x pos) (tC v) := by
  obtain ⟨u, h, r⟩ := G.ex
  exact ⟨pe_glob hg h r hd⟩
def iAny (K : PySem.W.Frag) (tl : TE) : TI := fun σ H R => tl σ H fun x H1 => (∃ a, x = .ref a ∧ (∃ xs, SqL K H1 a xs) ∧ R (Itl K a) H1) ∨ (∃ a, x = .ref a ∧ (∃ xs, SqT K H1 a xs) ∧ R (Itt K a) H1) ∨ ∃ z, x = .str z ∧ R (Its z) H1
theorem qi_any {tg l : Expr} {tl : TE} (hl : QE X l tl) : QI X tg l (iAny X.K tl) := by
  refine ⟨fun pins s σ H R I h => ?_⟩
  refine thn (hl.run pins s σ H _ I h) fun v s1 ⟨x, H1, I1, r1, q1⟩ => ?_
  have one : ∀ (l : Expr) (t : TE), PE X l t → True := fun _ _ _ => trivial
  rcases q1 with ⟨a, e, ⟨xs, hq⟩, q⟩ | ⟨a, e, ⟨xs, hq⟩, q⟩ | ⟨z, e, q⟩
  · subst e
    cases r1
    obtain ⟨its, rv, p, hz⟩ := I1.list hq
    refine wpAny_pyIter_list p.isList ?_
    refine ⟨s1.heap.objs.size, [s1.heap.objs.size], _, _, H1, rfl, I1.kept (t' := s1.toks) fun b o e => Heap.get?_push_of_some _ e, turn_list a _, ⟨_, Heap.get?_push_size _ rfl, rfl, rfl⟩, fun b hb => ?_, q⟩
    have e : b = s1.heap.objs.size := by simpa using hb
    subst e
    exact I1.fpOk (Nat.le_refl _) (I1.hok.fresh (Nat.le_refl _))
  · subst e
    cases r1
    obtain ⟨its, rv, p, hz⟩ := I1.tuple hq
    refine wpAny_pyIter_tuple (show s1.heap.IsTuple a its.toArray from p) ?_
    refine ⟨s1.heap.objs.size, [s1.heap.objs.size], _, _, H1, rfl, I1.kept (t' := s1.toks) fun b o e => Heap.get?_push_of_some _ e, turn_tuple a _, ⟨_, Heap.get?_push_size _ rfl, rfl, rfl⟩, fun b hb => ?_, q⟩
    have e : b = s1.heap.objs.size := by simpa using hb
    subst e
    exact I1.fpOk (Nat.le_refl _) (I1.hok.fresh (Nat.le_refl _))
  · subst e
    obtain ⟨t, rfl⟩ := r1
    refine wpAny_pyIter_strU ?_
    refine ⟨s1.heap.objs.size, [s1.heap.objs.size], _, _, H1, rfl, I1.kept (t' := s1.toks) fun b o e => Heap.get?_push_of_some _ e, turn_str _ z t, ⟨_, Heap.get?_push_size _ rfl, rfl, rfl⟩, fun b hb => ?_, q⟩
    have e : b = s1.heap.objs.size := by simpa using hb
    subst e
    exact I1.fpOk (Nat.le_refl _) (I1.hok.fresh (Nat.le_refl _))
end
end L2

set_option Elab.async false
set_option linter.all false
set_option maxRecDepth 100000
set_option maxHeartbeats 4000000
namespace L2
open PySem PySem.Spec PyProof.Rows
def Itd (hi : Int) (n : Nat) : It := ⟨fun i _ => i < n, fun i H x H' => H' = H ∧ x = .int (hi - i), fun i _ => n ≤ i⟩
section
variable {X : Cx} {tg : Expr}
def iRng3 (ta : TA) : TI := fun σ H R => ta σ H fun vs H1 => ∃ i j : Int, vs = [.int i, .int j, .int (-1)] ∧ (-(2 ^ 62) ≤ i ∧ i < 2 ^ 62 ∧ -(2 ^ 62) ≤ j ∧ j < 2 ^ 62) ∧ R (Itd i (i - j).toNat) H1
end
def Itv (K : PySem.W.Frag) (a : Addr) (n : Nat) : It :=
  ⟨fun i H => ∃ xs, SqL K H a xs ∧ xs.length = n ∧ i < n, fun i H x H' => H' = H ∧ ∀ xs, SqL K H a xs → xs[n - 1 - i]? = some x, fun i _ => i = n⟩
section
variable {X : Cx} {tg : Expr}
def iRev (K : PySem.W.Frag) (ta : TA) : TI := fun σ H R => ta σ H fun vs H1 => ∃ a xs, vs = [.ref a] ∧ SqL K H1 a xs ∧ R (Itv K a xs.length) H1
end
end L2

set_option Elab.async false
set_option linter.all false
set_option maxRecDepth 100000
set_option maxHeartbeats 4000000
namespace L2
open PySem PySem.Spec PyProof.Rows
section
variable {prog : Program} {w : World} {A : Around} {E : Value → Shared → Prop} {s : Shared}
end
section
variable {prog : Program} {w : World} {A : Around} {E : Value → Shared → Prop} {s : Shared}
def EnLate (h : Heap) (e it : Addr) (i : Int) : Prop := ∃ (a : Addr) (oa : Obj) (f1 old : Value), h.get? e = some { cls := .type "enumerate", dict := none, data := .fields #[rawInt a, f1, .ref it, rawInt i, .none, old], slots := #[] } ∧ h.get? a = some oa ∧ a ≠ e ∧ a ≠ it
end
end L2

set_option Elab.async false
set_option linter.all false
set_option maxRecDepth 100000
set_option maxHeartbeats 4000000
namespace L2
open PySem PySem.Spec PyProof.Rows
section
variable {prog : Program} {w : World} {A : Around} {E : Value → Shared → Prop} {s : Shared}
def EnSt (h : Heap) (e it : Addr) (i : Nat) : Prop := (i = 0 ∧ ∃ old, IsEnum h e it 0 old) ∨ (0 < i ∧ EnLate h e it i)
theorem EnSt.obj {h : Heap} {e it : Addr} {i : Nat} (x : EnSt h e it i) : ∃ vs, h.get? e = some { cls := .type "enumerate", dict := none, data := .fields vs, slots := #[] } := by
  rcases x with ⟨_, old, x⟩ | ⟨_, _, _, _, _, x, _⟩
  · exact ⟨_, x⟩
  · exact ⟨_, x⟩
end
end L2

set_option Elab.async false
set_option linter.all false
set_option maxRecDepth 100000
set_option maxHeartbeats 4000000
namespace L2
open PySem PySem.Spec PyProof.Rows
structure Src (X : Cx) (pins : List (Addr × Obj)) (σ : St) (it : Addr) (T : String) (n : Nat) (H0 : Hp) (J : Nat → List V → Hp → Heap → Prop) : Prop where
  ty : ∀ i ys H h, J i ys H h → ∃ o, h.get? it = some o ∧ o.cls = .type T
  nl : (Value.type T == Value.type "list") = false ∧ (Value.type T == Value.type "tuple") = false
  nolen : typeLookup (.type T) "__len__" = pure none
  nohint : typeLookup (.type T) "__length_hint__" = pure none
  self : ∀ (A : Around) (s : Shared) (ys : List V) (H : Hp) (Q : Value → Shared → Prop) (E : Value → Shared → Prop), J 0 ys H s.heap → Q (.ref it) s → wpAny (model X.prog X.w) A (pyIter (.ref it)) Q E s
  keep : ∀ i ys H h h' S zs zs', H0 S = none → H S = some (.lst zs) → J i ys H h → (∀ b o, b ≠ S → h.get? b = some o → h'.get? b = some o) → (∃ o, h'.get? S = some o) → J i ys (upd H S (.lst zs')) h'
  fresh : ∀ i ys H h, J i ys H h → H it = none
  item : ∀ (A : Around) (i : Nat) (s : Shared) (H : Hp) (ys : List V) (E : Value → Shared → Prop), A.handled = none → i < n → Inv X pins σ H s → J i ys H s.heap →
    wpAny (model X.prog X.w) A (pyNext (.ref it)) (fun r s' => ∃ u x H', r = some u ∧ RelV x u ∧ Inv X pins σ H' s' ∧ J (i + 1) (ys ++ [x]) H' s'.heap ∧ ∀ S zs, H S = some (.lst zs) → H' S = some (.lst zs)) E s
  done : ∀ (A : Around) (s : Shared) (H : Hp) (ys : List V) (E : Value → Shared → Prop), A.handled = none → Inv X pins σ H s → J n ys H s.heap →
    wpAny (model X.prog X.w) A (pyNext (.ref it)) (fun r s' => r = none ∧ Inv X pins σ H s') E s
section
variable {X : Cx} {pins : List (Addr × Obj)} {σ : St} {it : Addr} {T : String} {n : Nat} {H0 : Hp} {J : Nat → List V → Hp → Heap → Prop}
end
end L2

set_option Elab.async false
set_option linter.all false
set_option maxRecDepth 100000
set_option maxHeartbeats 4000000
namespace L2
open PySem PySem.Spec PyProof.Rows
section
variable {X : Cx} {pins : List (Addr × Obj)} {σ : St} {H : Hp} {s : Shared} {h' : Heap}
end
theorem FpOk.of {X : Cx} {pins : List (Addr × Obj)} {H H' : Hp} {b : Addr} (f : FpOk X pins H b) (h : H' b = none) : FpOk X pins H' b := ⟨h, f.2⟩
theorem SqT.kept {K : PySem.W.Frag} {H : Hp} {S a : Addr} {zs zs' xs : List V} (hS : H S = some (.lst zs)) (h : SqT K H a xs) : SqT K (upd H S (.lst zs')) a xs := by
  rcases h with (h | ⟨o, h⟩) | h
  · exact .inl (.inl (by rw [upd_ne (ne_of h hS (by intro z; cases z))]; exact h))
  · exact .inl (.inr ⟨o, by rw [upd_ne (ne_of h hS (by intro z; cases z))]; exact h⟩)
  · exact .inr h
theorem SqT.same {K : PySem.W.Frag} {H H' : Hp} {a : Addr} {xs : List V} (h : SqT K H a xs) (e : Same H H') : SqT K H' a xs := e.tup h
def Pairs (H : Hp) (xs : List V) (ys : List V) : Prop := ∀ (j : Nat) (y : V), ys[j]? = some y → ∃ (t : Addr) (x : V), y = V.ref t ∧ xs[j]? = some x ∧ H t = some (.tup [.int j, x])
section
variable {X : Cx}
def tListEn (K : PySem.W.Frag) (ta : TA) : TE := fun σ H Q => ta σ H fun vs H1 => ∃ a xs, vs = [.ref a] ∧ SqT K H1 a xs ∧
  ∀ (S : Addr) (ys : List V) (H2 : Hp), H1 S = none → Same H1 H2 → ys.length = xs.length → Pairs H2 xs ys → H2 S = some (.lst ys) → Q (.ref S) H2
end
end L2

set_option Elab.async false
set_option linter.all false
set_option maxRecDepth 100000
set_option maxHeartbeats 4000000
namespace L2
open PySem PySem.Spec PyProof.Rows
def Ite (K : PySem.W.Frag) (a : Addr) (n : Nat) : It :=
  ⟨fun i H => ∃ xs, SqL K H a xs ∧ xs.length = n ∧ i < n, fun i H x H' => ∃ (t : Addr) (y : V), H t = none ∧ (∀ xs, SqL K H a xs → xs[i]? = some y) ∧ x = .ref t ∧ H' = upd H t (.tup [.int i, y]), fun i H => i = n ∧ ∃ xs, SqL K H a xs ∧ xs.length = n⟩
section
variable {X : Cx}
def iEnum (K : PySem.W.Frag) (ta : TA) : TI := fun σ H R => ta σ H fun vs H1 => ∃ a xs, vs = [.ref a] ∧ SqL K H1 a xs ∧ R (Ite K a xs.length) H1
end
end L2

set_option Elab.async false
set_option linter.all false
set_option maxRecDepth 100000
set_option maxHeartbeats 4000000
namespace L2
open PySem PySem.SeqAt
open PySem.AutoSeq1 (wpAny_loadPart')
open PySem.MeetsSeq PySem.MeetsSeq2 PySem.MeetsSeq3 PySem.SeqRoads2
theorem ne_loopAt (l b : Addr) (items items2 : Array Value) (n n2 : Nat) (dd dd2 : Option Addr) (sl sl2 : Array (Option Value)) (hsz : items.size = items2.size) (e : Nat → Bool) (k : Nat) :
    ∀ i : Nat, items.size - i = k → Meets (Builtin.«list.__eq__.loop» ⟨[.ref l, .ref b, rawInt i, rawInt 3], []⟩)
      (fun A R s => s.heap.get? l = some { cls := .type "list", dict := dd, data := .seq items n, slots := sl } ∧ s.heap.get? b = some { cls := .type "list", dict := dd2, data := .seq items2 n2, slots := sl2 } ∧
        (∀ j (h1 : j < items.size) (h2 : j < items2.size), EqAt A.in1 s items[j] items2[j] (e j)) ∧
        R (.ok (.ret (.bool (!((List.range items.size).drop i).all e)))) s) := by
  induction k with
  | zero =>
    intro i hk prog w A R s h
    obtain ⟨hp, g, d, tk, os⟩ := s; obtain ⟨hl, hb, he, h⟩ := h
    wp_walk using wpAny_loadPart' hl, wpAny_loadPart' hb
    have hi1 : items[((i : Nat) : Int).toNat]? = none := by simp; omega
    have hi2 : items2[((i : Nat) : Int).toNat]? = none := by simp; omega
    have hd : (List.range items.size).drop i = [] := by simp; omega
    rw [hd] at h
    rw [hi1, hi2]
    wp_walk using wpAny_loadPart' hl, wpAny_loadPart' hb
    show R (.ok (.ret (.bool (items.size != items2.size)))) _
    rw [hsz]
    simpa using h
  | succ k ih =>
    intro i hk prog w A R s h
    obtain ⟨hp, g, d, tk, os⟩ := s; obtain ⟨hl, hb, he, h⟩ := h
    wp_walk using wpAny_loadPart' hl, wpAny_loadPart' hb
    have hlt : i < items.size := by omega
    have hlt2 : i < items2.size := by omega
    have hi1 : items[((i : Nat) : Int).toNat]? = some items[i] := by simp [hlt]
    have hi2 : items2[((i : Nat) : Int).toNat]? = some items2[i] := by simp [hlt2]
    have hd : (List.range items.size).drop i = i :: (List.range items.size).drop (i + 1) := by simp [List.drop_eq_getElem_cons, hlt]
    have hc : ((i : Int) + 1) = ((i + 1 : Nat) : Int) := by push_cast; rfl
    rw [hd, List.all_cons] at h
    rw [hi1, hi2]
    refine wpAny_bind (he i hlt hlt2 prog w _ _ ?_)
    cases hb' : e i with
    | true =>
      rw [hb'] at h
      wp_walk
      rw [hc]
      exact ⟨plainId_quiet plain_eq_loop _, codeAny_builtin entry_eq_loop (by
        rw [Around.under_plainId plain_eq_loop _]
        exact ih (i + 1) (by omega) prog w A R _ ⟨hl, hb, he, by simpa using h⟩)⟩
    | false =>
      rw [hb'] at h
      wp_walk using wpAny_loadPart' hl, wpAny_loadPart' hb
      rw [hi1, hi2]
      wp_walk
      simpa using h
theorem list_neAt (l b : Addr) (items items2 : Array Value) (n n2 : Nat) (dd dd2 : Option Addr) (sl sl2 : Array (Option Value)) (hsz : items.size = items2.size) (e : Nat → Bool) :
    Meets (Builtin.«list.__ne__» ⟨[.ref l, .ref b], []⟩)
      (fun A R s => s.heap.get? l = some { cls := .type "list", dict := dd, data := .seq items n, slots := sl } ∧ s.heap.get? b = some { cls := .type "list", dict := dd2, data := .seq items2 n2, slots := sl2 } ∧
        (∀ j (h1 : j < items.size) (h2 : j < items2.size), EqAt A.in1 s items[j] items2[j] (e j)) ∧
        R (.ok (.ret (.bool (!(List.range items.size).all e)))) s) := by
  intro prog w A R s h
  obtain ⟨hp, g, d, tk, os⟩ := s; obtain ⟨hl, hb, he, h⟩ := h
  have f3 := PySem.AutoSeq1.sub_list_list
  have hne : ¬ (items.size != items2.size) = true := by simp [hsz]
  wp_walk using wpAny_loadPart' hl, wpAny_loadPart' hb
  exact ⟨plainId_quiet plain_eq_loop _, codeAny_builtin entry_eq_loop (by
    rw [Around.under_plainId plain_eq_loop _]
    exact ne_loopAt l b items items2 n n2 dd dd2 sl sl2 hsz e _ 0 rfl prog w A R _ ⟨hl, hb, he, by simpa using h⟩)⟩
theorem tuple_neAt (l b : Addr) (items items2 : Array Value) (n n2 : Nat) (dd dd2 : Option Addr) (sl sl2 : Array (Option Value)) (e : Nat → Bool) :
    Meets (Builtin.«tuple.__ne__» ⟨[.ref l, .ref b], []⟩)
      (fun A R s => s.heap.get? l = some { cls := .type "tuple", dict := dd, data := .seq items n, slots := sl } ∧ s.heap.get? b = some { cls := .type "tuple", dict := dd2, data := .seq items2 n2, slots := sl2 } ∧
        (∀ j (h1 : j < items.size) (h2 : j < items2.size), EqAt A.in1 s items[j] items2[j] (e j)) ∧
        R (.ok (.ret (.bool (!((List.range (min items.size items2.size)).all e && items.size == items2.size))))) s) :=
  .of_wp fun prog w A R s h => by
    obtain ⟨hp, g, d, tk, os⟩ := s; obtain ⟨hl, hb, he, h⟩ := h
    have f2 := PySem.AutoSeq1.sub_tuple_tuple
    have hZ : (items.toList.zip items2.toList).length = min items.size items2.size := by simp
    wp_walk using wpAny_loadPart' hl, wpAny_loadPart' hb, wpAny_forIn_list _ (fun rest b s' => b.1 = none ∧ s' = ⟨hp, g, d, tk, os⟩ ∧ ∃ i, rest = (items.toList.zip items2.toList).drop i ∧
      R (.ok (.ret (.bool (!(((List.range (min items.size items2.size)).drop i).all e && items.size == items2.size))))) ⟨hp, g, d, tk, os⟩) _
    case turn =>
      rintro ⟨y, x⟩ rest b s' ⟨hb', rfl, i, hz, hR⟩
      have hlt : i < (items.toList.zip items2.toList).length := by
        rcases Nat.lt_or_ge i (items.toList.zip items2.toList).length with h' | h'
        · exact h'
        · rw [List.drop_of_length_le h'] at hz; cases hz
      have hm : i < min items.size items2.size := hZ ▸ hlt
      have h1 : i < items.size := Nat.lt_of_lt_of_le hm (Nat.min_le_left _ _)
      have h2 : i < items2.size := Nat.lt_of_lt_of_le hm (Nat.min_le_right _ _)
      rw [List.drop_eq_getElem_cons hlt] at hz
      injection hz with hyx hrest
      have hy : y = items[i] := by have := congrArg Prod.fst hyx; simpa using this
      have hx : x = items2[i] := by have := congrArg Prod.snd hyx; simpa using this
      subst hy hx
      have hd : (List.range (min items.size items2.size)).drop i = i :: (List.range (min items.size items2.size)).drop (i + 1) := by simp [List.drop_eq_getElem_cons, hm]
      rw [hd, List.all_cons] at hR
      refine wpAny_bind (he i h1 h2 prog w _ _ ?_)
      cases hy : e i with
      | true =>
        rw [hy] at hR
        wp_walk
        exact ⟨rfl, rfl, i + 1, hrest, by simpa using hR⟩
      | false =>
        rw [hy] at hR
        wp_walk
        exact ⟨_, rfl, by simpa using hR⟩
    case fin =>
      rintro ⟨b1, b2⟩ s' ⟨hb', rfl, i, hz, hR⟩
      simp only at hb'
      subst hb'
      have hge : min items.size items2.size ≤ i := by
        rcases Nat.lt_or_ge i (items.toList.zip items2.toList).length with h' | h'
        · rw [List.drop_eq_getElem_cons h'] at hz; cases hz
        · exact hZ ▸ h'
      rw [List.drop_of_length_le (by simpa using hge)] at hR
      wp_walk
      exact ⟨_, rfl, by simpa [Builtin.Tuple.tupleCompareSizes, bne] using hR⟩
    case h =>
      exact ⟨rfl, rfl, 0, rfl, by simpa using h⟩
section
variable {prog : Program} {w : World} {A : Around} {E : Value → Shared → Prop} {s : Shared}
theorem ne_listsAt {l b : Addr} {items items2 : Array Value} {e : Nat → Bool} {Q : Value → Shared → Prop} (hl : s.heap.IsList l items) (hb : s.heap.IsList b items2) (hsz : items.size = items2.size) (hu : A.units < cLine)
    (he : ∀ j (h1 : j < items.size) (h2 : j < items2.size), EqAt A.in1 s items[j] items2[j] (e j)) (h : Q (.bool (!(List.range items.size).all e)) s) : wpAny (model prog w) A (compareOp .NotEq (.ref l) (.ref b)) Q E s := by
  obtain ⟨⟨cls, dd, data, sl⟩, ho, hc, n, hd⟩ := id hl
  obtain ⟨⟨cls2, dd2, data2, sl2⟩, ho2, hc2, n2, hd2⟩ := id hb
  simp only at hc hd hc2 hd2
  subst hc hd hc2 hd2
  exact richCompare_meets_room (op := .NotEq) ⟨_, ho, rfl⟩ ⟨_, ho2, rfl⟩ F.slot_list_ne F.entry_list_ne (F.args_list_ne_2 _ _) (list_neAt l b items items2 n n2 dd dd2 sl sl2 hsz e)
    ⟨ho, ho2, he, show Value.bool (!(List.range items.size).all e) ≠ Value.notImplemented ∧ Q (.bool (!(List.range items.size).all e)) s from ⟨(fun x => nomatch x), h⟩⟩ hu
theorem ne_tuplesAt {l b : Addr} {items items2 : Array Value} {e : Nat → Bool} {Q : Value → Shared → Prop} (hl : s.heap.IsTuple l items) (hb : s.heap.IsTuple b items2) (hu : A.units < cLine)
    (he : ∀ j (h1 : j < items.size) (h2 : j < items2.size), EqAt A.in1 s items[j] items2[j] (e j)) (h : Q (.bool (!((List.range (min items.size items2.size)).all e && items.size == items2.size))) s) : wpAny (model prog w) A (compareOp .NotEq (.ref l) (.ref b)) Q E s := by
  obtain ⟨⟨cls, dd, data, sl⟩, ho, hc, n, hd⟩ := id hl
  obtain ⟨⟨cls2, dd2, data2, sl2⟩, ho2, hc2, n2, hd2⟩ := id hb
  simp only at hc hd hc2 hd2
  subst hc hd hc2 hd2
  exact richCompare_meets_room (op := .NotEq) ⟨_, ho, rfl⟩ ⟨_, ho2, rfl⟩ F.slot_tuple_ne F.entry_tuple_ne (F.args_tuple_ne_2 _ _) (tuple_neAt l b items items2 n n2 dd dd2 sl sl2 e)
    ⟨ho, ho2, he, show Value.bool (!((List.range (min items.size items2.size)).all e && items.size == items2.size)) ≠ Value.notImplemented ∧ Q (.bool (!((List.range (min items.size items2.size)).all e && items.size == items2.size))) s from ⟨(fun x => nomatch x), h⟩⟩ hu
end
end L2

set_option Elab.async false
set_option linter.all false
set_option maxRecDepth 100000
set_option maxHeartbeats 4000000
namespace L2
open PySem PySem.Spec PyProof.Rows
inductive Dt where
  | flat (v : V)
  | tup (ds : List Dt)
  | lst (ds : List Dt)
inductive IsD (K : PySem.W.Frag) (H : Hp) : Nat → V → Dt → Prop where
  | flat {n : Nat} {v : V} (h : flatV v = true) : IsD K H n v (.flat v)
  | tup {n : Nat} {a : Addr} {vs : List V} {ds : List Dt} (q : SqT K H a vs) (l : vs.length = ds.length) (h : ∀ (j : Nat) (v : V) (d : Dt), vs[j]? = some v → ds[j]? = some d → IsD K H n v d) : IsD K H (n + 1) (.ref a) (.tup ds)
  | lst {n : Nat} {a : Addr} {vs : List V} {ds : List Dt} (q : SqL K H a vs) (l : vs.length = ds.length) (h : ∀ (j : Nat) (v : V) (d : Dt), vs[j]? = some v → ds[j]? = some d → IsD K H n v d) : IsD K H (n + 1) (.ref a) (.lst ds)
theorem IsD.same {K : PySem.W.Frag} {H H' : Hp} {n : Nat} {v : V} {d : Dt} (h : IsD K H n v d) (e : Same H H') : IsD K H' n v d := by
  induction h with
  | flat h => exact .flat h
  | tup q l _ ih => exact .tup (e.tup q) l ih
  | lst q l _ ih => exact .lst (e.seq q) l ih
theorem IsD.up {K : PySem.W.Frag} {H : Hp} {n m : Nat} {v : V} {d : Dt} (h : IsD K H n v d) (hm : n ≤ m) : IsD K H m v d := by
  induction h generalizing m with
  | flat h => exact .flat h
  | tup q l _ ih =>
    obtain ⟨k, rfl⟩ : ∃ k, m = k + 1 := ⟨m - 1, by omega⟩
    exact .tup q l fun j v d e1 e2 => ih j v d e1 e2 (by omega)
  | lst q l _ ih =>
    obtain ⟨k, rfl⟩ : ∃ k, m = k + 1 := ⟨m - 1, by omega⟩
    exact .lst q l fun j v d e1 e2 => ih j v d e1 e2 (by omega)
theorem eqV_self {v : V} (h : flatV v = true) : eqV v v = true := by
  cases v with
  | non => rfl
  | bl b => simp [eqV]
  | int i => simp [eqV]
  | str x => simp [eqV]
  | byt _ => cases h
  | flt _ => cases h
  | ref _ => cases h
  | ty _ => cases h
section
variable {X : Cx} {pins : List (Addr × Obj)} {σ : St} {H : Hp} {s : Shared}
theorem eqAt_same (I : Inv X pins σ H s) : ∀ {n : Nat} {x y : V} {d : Dt}, IsD X.K H n x d → IsD X.K H n y d → ∀ {A : Around} {u v : Value}, RelV x u → RelV y v → A.units + n < cLine → SeqAt.EqAt A s u v true := by
  intro n
  induction n with
  | zero =>
    intro x y d hx hy A u v rx ry hu
    cases hx with
    | flat fx =>
      cases hy with
      | flat fy =>
        have := eqAt_V (A := A) (s := s) rx ry fx fy
        rw [eqV_self fx] at this
        exact this
  | succ n ih =>
    intro x y d hx hy A u v rx ry hu
    cases hx with
    | flat fx =>
      cases hy with
      | flat fy =>
        have := eqAt_V (A := A) (s := s) rx ry fx fy
        rw [eqV_self fx] at this
        exact this
    | @tup _ a vs ds q l h =>
      cases hy with
      | @tup _ b ws _ q' l' h' =>
        cases rx
        cases ry
        by_cases hab : a = b
        · subst hab
          exact SeqAt.EqAt.same _
        obtain ⟨its, r1, p1, _⟩ := I.tuple q
        obtain ⟨its2, r2, p2, _⟩ := I.tuple q'
        have l1 := r1.length
        have l2 := r2.length
        have := SeqAt.RcAt.tuples (A := A) (e := fun _ => true) (show s.heap.IsTuple a its.toArray from p1) (show s.heap.IsTuple b its2.toArray from p2) (by omega) fun j h1 h2 => by
          have h1' : j < vs.length := by simp only [List.size_toArray] at h1; omega
          have h2' : j < ws.length := by simp only [List.size_toArray] at h2; omega
          obtain ⟨u1, g1, k1⟩ := r1.get (List.getElem?_eq_getElem h1')
          obtain ⟨u2, g2, k2⟩ := r2.get (List.getElem?_eq_getElem h2')
          have e1 : its.toArray[j] = u1 := by
            have : its[j]? = some its[j] := by simp
            rw [this] at g1
            simpa using g1
          have e2 : its2.toArray[j] = u2 := by
            have : its2[j]? = some its2[j] := by simp
            rw [this] at g2
            simpa using g2
          rw [e1, e2]
          have hd : j < ds.length := by omega
          exact ih (h j _ _ (List.getElem?_eq_getElem h1') (List.getElem?_eq_getElem hd)) (h' j _ _ (List.getElem?_eq_getElem h2') (List.getElem?_eq_getElem hd)) k1 k2 (by show A.units + 1 + n < cLine; omega)
        have e : ((List.range (min its.toArray.size its2.toArray.size)).all (fun _ => true) && its.toArray.size == its2.toArray.size) = true := by
          have : its.toArray.size = its2.toArray.size := by simp only [List.size_toArray]; omega
          rw [this]
          simp
        rw [e] at this
        exact SeqAt.EqAt.of_refs hab this
    | @lst _ a vs ds q l h =>
      cases hy with
      | @lst _ b ws _ q' l' h' =>
        cases rx
        cases ry
        by_cases hab : a = b
        · subst hab
          exact SeqAt.EqAt.same _
        obtain ⟨its, r1, p1, _⟩ := I.list q
        obtain ⟨its2, r2, p2, _⟩ := I.list q'
        have l1 := r1.length
        have l2 := r2.length
        have := SeqAt.RcAt.lists (A := A) (e := fun _ => true) p1.isList p2.isList (by simp only [List.size_toArray]; omega) (by omega) fun j h1 h2 => by
          have h1' : j < vs.length := by simp only [List.size_toArray] at h1; omega
          have h2' : j < ws.length := by simp only [List.size_toArray] at h2; omega
          obtain ⟨u1, g1, k1⟩ := r1.get (List.getElem?_eq_getElem h1')
          obtain ⟨u2, g2, k2⟩ := r2.get (List.getElem?_eq_getElem h2')
          have e1 : its.toArray[j] = u1 := by
            have : its[j]? = some its[j] := by simp
            rw [this] at g1
            simpa using g1
          have e2 : its2.toArray[j] = u2 := by
            have : its2[j]? = some its2[j] := by simp
            rw [this] at g2
            simpa using g2
          rw [e1, e2]
          have hd : j < ds.length := by omega
          exact ih (h j _ _ (List.getElem?_eq_getElem h1') (List.getElem?_eq_getElem hd)) (h' j _ _ (List.getElem?_eq_getElem h2') (List.getElem?_eq_getElem hd)) k1 k2 (by show A.units + 1 + n < cLine; omega)
        have e : (List.range its.toArray.size).all (fun _ => true) = true := by simp
        rw [e] at this
        exact SeqAt.EqAt.of_refs hab this
theorem itemsAt (I : Inv X pins σ H s) {n : Nat} {A : Around} {vs ws : List V} {its its2 : List Value} {ds : List Dt} (r1 : Vals vs its) (r2 : Vals ws its2) (l : vs.length = ds.length) (l' : ws.length = ds.length)
    (h : ∀ (j : Nat) (v : V) (d : Dt), vs[j]? = some v → ds[j]? = some d → IsD X.K H n v d) (h' : ∀ (j : Nat) (v : V) (d : Dt), ws[j]? = some v → ds[j]? = some d → IsD X.K H n v d) (hu : A.units + n < cLine) :
    ∀ j (h1 : j < its.toArray.size) (h2 : j < its2.toArray.size), SeqAt.EqAt A s its.toArray[j] its2.toArray[j] ((fun _ => true) j) := fun j h1 h2 => by
  have l1 := r1.length
  have l2 := r2.length
  have h1' : j < vs.length := by simp only [List.size_toArray] at h1; omega
  have h2' : j < ws.length := by simp only [List.size_toArray] at h2; omega
  obtain ⟨u1, g1, k1⟩ := r1.get (List.getElem?_eq_getElem h1')
  obtain ⟨u2, g2, k2⟩ := r2.get (List.getElem?_eq_getElem h2')
  have e1 : its.toArray[j] = u1 := by
    have : its[j]? = some its[j] := by simp
    rw [this] at g1
    simpa using g1
  have e2 : its2.toArray[j] = u2 := by
    have : its2[j]? = some its2[j] := by simp
    rw [this] at g2
    simpa using g2
  rw [e1, e2]
  have hd : j < ds.length := by omega
  exact eqAt_same I (h j _ _ (List.getElem?_eq_getElem h1') (List.getElem?_eq_getElem hd)) (h' j _ _ (List.getElem?_eq_getElem h2') (List.getElem?_eq_getElem hd)) k1 k2 hu
end
section
variable {X : Cx}
def rEqD (K : PySem.W.Frag) (b : Bool) : R2 := fun x y H Q => ∃ (a c : Addr) (n : Nat) (d : Dt), x = .ref a ∧ y = .ref c ∧ n ≤ 190 ∧ IsD K H n x d ∧ IsD K H n y d ∧ Q (.bl b) H
theorem op_eqD (hu : X.A.units + 200 < cLine) : OpR X (compareOp .Eq) (rEqD X.K true) := by
  intro pins s σ H x y v u Q I rx ry h
  obtain ⟨a, c, n, d, rfl, rfl, hn, hx, hy, q⟩ := h
  cases rx
  cases ry
  cases hx with
  | flat fx => cases fx
  | @tup n _ vs ds qx l hd =>
    cases hy with
    | @tup _ _ ws _ qy l' hd' =>
      obtain ⟨its, r1, p1, _⟩ := I.tuple qx
      obtain ⟨its2, r2, p2, _⟩ := I.tuple qy
      have l1 := r1.length
      have l2 := r2.length
      refine SeqAt.eq_tupleAt (e := fun _ => true) (show s.heap.IsTuple a its.toArray from p1) (show s.heap.IsTuple c its2.toArray from p2) (by omega) (itemsAt I r1 r2 l l' hd hd' (by show X.A.units + 1 + n < cLine; omega)) ?_
      have e : ((List.range (min its.toArray.size its2.toArray.size)).all (fun _ => true) && its.toArray.size == its2.toArray.size) = true := by
        have : its.toArray.size = its2.toArray.size := by simp only [List.size_toArray]; omega
        rw [this]
        simp
      rw [e]
      exact ⟨.bl true, H, I, rfl, q⟩
  | @lst n _ vs ds qx l hd =>
    cases hy with
    | @lst _ _ ws _ qy l' hd' =>
      obtain ⟨its, r1, p1, _⟩ := I.list qx
      obtain ⟨its2, r2, p2, _⟩ := I.list qy
      have l1 := r1.length
      have l2 := r2.length
      refine SeqAt.eq_listAt (e := fun _ => true) p1.isList p2.isList (by simp only [List.size_toArray]; omega) (by omega) (itemsAt I r1 r2 l l' hd hd' (by show X.A.units + 1 + n < cLine; omega)) ?_
      have e : (List.range its.toArray.size).all (fun _ => true) = true := by simp
      rw [e]
      exact ⟨.bl true, H, I, rfl, q⟩
theorem op_neD (hu : X.A.units + 200 < cLine) : OpR X (compareOp .NotEq) (rEqD X.K false) := by
  intro pins s σ H x y v u Q I rx ry h
  obtain ⟨a, c, n, d, rfl, rfl, hn, hx, hy, q⟩ := h
  cases rx
  cases ry
  cases hx with
  | flat fx => cases fx
  | @tup n _ vs ds qx l hd =>
    cases hy with
    | @tup _ _ ws _ qy l' hd' =>
      obtain ⟨its, r1, p1, _⟩ := I.tuple qx
      obtain ⟨its2, r2, p2, _⟩ := I.tuple qy
      have l1 := r1.length
      have l2 := r2.length
      refine ne_tuplesAt (e := fun _ => true) (show s.heap.IsTuple a its.toArray from p1) (show s.heap.IsTuple c its2.toArray from p2) (by omega) (itemsAt I r1 r2 l l' hd hd' (by show X.A.units + 1 + n < cLine; omega)) ?_
      have e : (!((List.range (min its.toArray.size its2.toArray.size)).all (fun _ => true) && its.toArray.size == its2.toArray.size)) = false := by
        have : its.toArray.size = its2.toArray.size := by simp only [List.size_toArray]; omega
        rw [this]
        simp
      rw [e]
      exact ⟨.bl false, H, I, rfl, q⟩
  | @lst n _ vs ds qx l hd =>
    cases hy with
    | @lst _ _ ws _ qy l' hd' =>
      obtain ⟨its, r1, p1, _⟩ := I.list qx
      obtain ⟨its2, r2, p2, _⟩ := I.list qy
      have l1 := r1.length
      have l2 := r2.length
      refine ne_listsAt (e := fun _ => true) p1.isList p2.isList (by simp only [List.size_toArray]; omega) (by omega) (itemsAt I r1 r2 l l' hd hd' (by show X.A.units + 1 + n < cLine; omega)) ?_
      have e : (!(List.range its.toArray.size).all (fun _ => true)) = false := by simp
      rw [e]
      exact ⟨.bl false, H, I, rfl, q⟩
def rEqA (K : PySem.W.Frag) : R2 := fun x y H Q => rEq x y H Q ∨ rEqD K true x y H Q
def rNeA (K : PySem.W.Frag) : R2 := fun x y H Q => rNe x y H Q ∨ rEqD K false x y H Q
theorem op_eqA (hu : X.A.units + 200 < cLine) : OpR X (compareOp .Eq) (rEqA X.K) := op_eq.or (op_eqD hu)
theorem op_neA (hu : X.A.units + 200 < cLine) : OpR X (compareOp .NotEq) (rNeA X.K) := op_ne.or (op_neD hu)
theorem s_eq {K : PySem.W.Frag} {x y : V} {H : Hp} {Q : VK} (hs : scal x y = true) (h : Q (.bl (decide (x = y))) H) : rEqA K x y H Q := .inl ⟨hs, h⟩
theorem s_ne {K : PySem.W.Frag} {x y : V} {H : Hp} {Q : VK} (hs : scal x y = true) (h : Q (.bl (!decide (x = y))) H) : rNeA K x y H Q := .inl ⟨hs, h⟩
theorem s_eqD {K : PySem.W.Frag} {a c : Addr} {H : Hp} {Q : VK} {n : Nat} {d : Dt} (hn : n ≤ 190) (hx : IsD K H n (.ref a) d) (hy : IsD K H n (.ref c) d) (h : Q (.bl true) H) : rEqA K (.ref a) (.ref c) H Q := .inr ⟨a, c, n, d, rfl, rfl, hn, hx, hy, h⟩
theorem Room.u200 {k : Nat} {A : Around} (r : Room k A) : A.units + 200 < cLine := by have := r.un; omega
end
end L2

set_option Elab.async false
set_option linter.all false
set_option maxRecDepth 100000
set_option maxHeartbeats 4000000
namespace L2
open PySem PySem.Spec PyProof.Rows
section
variable {t u : TS} {c d : TT} {te ta tb tc : TE} {g : TG} {gs : TGs} {ts : TA} {D : Ends} {σ : St} {H : Hp} {Q : VK} {QB : Bool → Hp → Prop} {QA' : List V → Hp → Prop}
theorem s_seq (h : t { D with nx := u D } σ H) : tSeq t u D σ H := h
theorem s_asg (h : te σ H fun x H1 => g x σ H1 D.nx) : tAsg te g D σ H := h
theorem s_ret (h : te σ H D.rt) : tRet te D σ H := h
theorem s_drop (h : te σ H fun _ H1 => D.nx σ H1) : tDrop te D σ H := h
theorem s_next (h : D.nx σ H) : tNext D σ H := h
theorem s_ifS (h : c σ H fun b H1 => if b = true then t D σ H1 else u D σ H1) : tIfS c t u D σ H := h
theorem s_var {i : Nat} {v : V} (e : σ[i]? = some (some v)) (h : Q v H) : tVar i σ H Q := ⟨v, e, h⟩
theorem s_c {v : V} (h : Q v H) : tC v σ H Q := h
theorem s_op {r : R2} (h : ta σ H fun x H1 => tb σ H1 fun y H2 => r x y H2 Q) : tOp r ta tb σ H Q := h
theorem s_un {r : V → Hp → VK → Prop} (h : ta σ H fun x H1 => r x H1 Q) : tUn r ta σ H Q := h
theorem s_test (h : te σ H fun x H' => ∃ k, x = .bl k ∧ QB k H') : tTest te σ H QB := h
theorem s_tB (h : te σ H fun x H' => ∃ k, x = .bl k ∧ QB k H') : tB te σ H QB := h
theorem s_ex {b : Bool} {P : Bool → Prop} (h : P b) : ∃ k, V.bl b = V.bl k ∧ P k := ⟨b, rfl, h⟩
theorem s_exi {i : Int} {P : Int → Prop} (h : P i) : ∃ k, V.int i = V.int k ∧ P k := ⟨i, rfl, h⟩
theorem s_not (h : c σ H fun b H1 => QB (!b) H1) : tNot c σ H QB := h
theorem s_and (h : c σ H fun b H1 => if b = true then d σ H1 QB else QB false H1) : tAnd c d σ H QB := h
theorem s_or (h : c σ H fun b H1 => if b = true then QB true H1 else d σ H1 QB) : tOr c d σ H QB := h
theorem s_andV (h : ta σ H fun x H1 => ∃ k, x = .bl k ∧ if k = true then tb σ H1 Q else Q (.bl false) H1) : tAndV ta tb σ H Q := h
theorem s_orV (h : ta σ H fun x H1 => ∃ k, x = .bl k ∧ if k = true then Q (.bl true) H1 else tb σ H1 Q) : tOrV ta tb σ H Q := h
theorem s_notV (h : ta σ H fun x H1 => ∃ k, x = .bl k ∧ Q (.bl (!k)) H1) : tNotV ta σ H Q := h
theorem s_nil (h : QA' [] H) : tNil σ H QA' := h
theorem s_cons (h : te σ H fun x H1 => ts σ H1 fun xs H2 => QA' (x :: xs) H2) : tCons te ts σ H QA' := h
theorem s_vals {xs : List V} (h : QA' xs H) : tVals xs σ H QA' := h
theorem s_tup (h : ts σ H fun xs H1 => xs.length ≤ sizeLine ∧ ∀ p, H1 p = none → Q (.ref p) (upd H1 p (.tup xs))) : tTup ts σ H Q := h
theorem s_lst (h : ts σ H fun xs H1 => xs.length ≤ sizeLine ∧ ∀ p, H1 p = none → Q (.ref p) (upd H1 p (.lst xs))) : tLst ts σ H Q := h
theorem s_call {sp : Sp} {dvs : List V} {E : XK} (h : ts σ H fun vs H1 => sp (vs ++ dvs) H1 Q E) : tCall sp dvs E ts σ H Q := h
theorem s_cb {r : List V → Hp → VK → Prop} (h : ts σ H fun vs H1 => r vs H1 Q) : tCB r ts σ H Q := h
theorem s_bm {K : PySem.W.Frag} {T : String} {r : V → List V → Hp → VK → Prop} (h : te σ H fun x H1 => tyV K T x H1 ∧ ts σ H1 fun xs H2 => r x xs H2 Q) : tBM K T r te ts σ H Q := h
theorem s_bm0 {K : PySem.W.Frag} {T : String} {r : V → List V → Hp → VK → Prop} (h : te σ H fun x H1 => tyV K T x H1 ∧ r x [] H1 Q) : tBM0 K T r te σ H Q := h
theorem s_sl {r : V → Option Int → Option Int → Hp → VK → Prop} {tl th : TO} (h : te σ H fun x H1 => tl σ H1 fun l H2 => th σ H2 fun u H3 => r x l u H3 Q) : tSl r te tl th σ H Q := h
theorem s_po {QO' : Option Int → Hp → Prop} (h : te σ H fun x H1 => ∃ i, x = .int i ∧ QO' (some i) H1) : tPart te σ H QO' := h
theorem s_po0 {QO' : Option Int → Hp → Prop} (h : QO' none H) : tNoPart σ H QO' := h
theorem s_gname {i : Nat} {v : V} {QS' : St → Hp → Prop} (h : QS' (σ.set i (some v)) H) : gName i v σ H QS' := h
theorem s_gcons {v : V} {r : List V} {QS' : St → Hp → Prop} (h : g v σ H fun σ' H' => gs r σ' H' QS') : gCons g gs (v :: r) σ H QS' := ⟨v, r, rfl, h⟩
theorem s_gnil {QS' : St → Hp → Prop} (h : QS' σ H) : gNil [] σ H QS' := ⟨rfl, h⟩
theorem s_gsub {to ti : TE} {tt : TSet} {v : V} {QS' : St → Hp → Prop} (h : to σ H fun o H1 => ti σ H1 fun i H2 => tt o i v H2 fun H3 => QS' σ H3) : gSub to ti tt v σ H QS' := h
theorem s_isN (h : ta σ H fun x H1 => Q (.bl (decide (x = .non))) H1) : tIsN ta σ H Q := h
theorem s_notN (h : ta σ H fun x H1 => Q (.bl (!decide (x = .non))) H1) : tNotN ta σ H Q := h
theorem s_dnew (h : ∀ p, H p = none → Q (.ref p) (upd H p (.dK []))) : tDNew σ H Q := h
theorem s_int_b {k : Bool} (h : Q (.int (if k = true then 1 else 0)) H) : (∃ i, ([V.bl k] : List V) = [.int i] ∧ Q (.int i) H) ∨ ∃ k', ([V.bl k] : List V) = [.bl k'] ∧ Q (.int (if k' = true then 1 else 0)) H := .inr ⟨k, rfl, h⟩
end
section
variable {wi : TI} {σ0 : St → St} {g : TG} {tt : TT} {te : TE} {ta : TA} {tb : TS} {D : Ends} {σ : St} {H : Hp} {Q : VK} {R : It → Hp → Prop} {K : PySem.W.Frag}
theorem s_comp (h : wi σ H fun J H1 => ∀ L, H1 L = none → CompW J g tt te (σ0 σ) H1 L Q) : tComp wi σ0 g tt te σ H Q := h
theorem s_for (h : wi σ H fun J H1 => ∃ W : Nat → Nat → St → Hp → Prop, (∃ m, W 0 m σ H1) ∧ ∀ i m σ H, W i m σ H →
  (J.stop i H ∧ D.nx σ H) ∨ (J.go i H ∧ ∃ N : St → Hp → Prop, (∀ σ' H', N σ' H' → ∃ m', m' < m ∧ W (i + 1) m' σ' H') ∧ ∀ x H', J.yld i H x H' → g x σ H' fun σ2 H2 => tb { D with nx := N, ct := N, bk := D.nx } σ2 H2)) : tFor wi g tb D σ H := h
theorem s_rng1 (h : ta σ H fun vs H1 => ∃ j : Int, vs = [.int j] ∧ -(2 ^ 62) ≤ j ∧ j < 2 ^ 62 ∧ R (Itr 0 j.toNat) H1) : iRng1 ta σ H R := h
theorem s_rng3 (h : ta σ H fun vs H1 => ∃ i j : Int, vs = [.int i, .int j, .int (-1)] ∧ (-(2 ^ 62) ≤ i ∧ i < 2 ^ 62 ∧ -(2 ^ 62) ≤ j ∧ j < 2 ^ 62) ∧ R (Itd i (i - j).toNat) H1) : iRng3 ta σ H R := h
theorem s_exr {i : Int} {P : Int → Prop} (h : P i) : ∃ j, ([V.int i] : List V) = [.int j] ∧ P j := ⟨i, rfl, h⟩
theorem s_exr3 {i j k : Int} {P : Int → Int → Prop} (hk : k = -1) (h : P i j) : ∃ a b, ([V.int i, V.int j, V.int k] : List V) = [.int a, .int b, .int (-1)] ∧ P a b := ⟨i, j, by rw [hk], h⟩
theorem s_iany (h : te σ H fun x H1 => (∃ a, x = .ref a ∧ (∃ xs, SqL K H1 a xs) ∧ R (Itl K a) H1) ∨ (∃ a, x = .ref a ∧ (∃ xs, SqT K H1 a xs) ∧ R (Itt K a) H1) ∨ ∃ z, x = .str z ∧ R (Its z) H1) : iAny K te σ H R := h
theorem s_irev (h : ta σ H fun vs H1 => ∃ a xs, vs = [.ref a] ∧ SqL K H1 a xs ∧ R (Itv K a xs.length) H1) : iRev K ta σ H R := h
theorem s_ienum (h : ta σ H fun vs H1 => ∃ a xs, vs = [.ref a] ∧ SqL K H1 a xs ∧ R (Ite K a xs.length) H1) : iEnum K ta σ H R := h
theorem s_listen (h : ta σ H fun vs H1 => ∃ a xs, vs = [.ref a] ∧ SqT K H1 a xs ∧ ∀ (S : Addr) (ys : List V) (H2 : Hp), H1 S = none → Same H1 H2 → ys.length = xs.length → Pairs H2 xs ys → H2 S = some (.lst ys) → Q (.ref S) H2) : tListEn K ta σ H Q := h
theorem s_yes {QB : Bool → Hp → Prop} (h : QB true H) : tYes σ H QB := h
theorem s_turn {L : Addr} {Nx : List V → St → Hp → Prop} {x : V} (h : g x σ H fun σ2 H3 => tt σ2 H3 fun b H4 => if b = true then te σ2 H4 fun y H5 => ∃ ys, H5 L = some (.lst ys) ∧ ys.length < sizeLine ∧ (∃ zs, upd H5 L (.lst (ys ++ [y])) L = some (.lst zs) ∧ Nx zs σ2 (upd H5 L (.lst (ys ++ [y])))) else ∃ zs, H4 L = some (.lst zs) ∧ Nx zs σ2 H4) : CompT g tt te L Nx x σ H := h
theorem s_app {l : Addr} {xs : List V} {y : V} (e : H l = some (.lst xs)) (z : xs.length < sizeLine) (h : Q .non (upd H l (.lst (xs ++ [y])))) : rAppend (.ref l) [y] H Q := ⟨l, xs, y, rfl, rfl, e, z, h⟩
theorem s_join {sep : Str} {p : Addr} {ys : List Str} (hq : SqL K H p (ys.map V.str)) (hz : (ys.map (·.length)).sum + ys.length * sep.length ≤ 16777216) (h : Q (.str (Txt.join sep ys)) H) : rJoin K (.str sep) [.ref p] H Q := ⟨sep, p, ys, rfl, rfl, hq, hz, h⟩
theorem s_setL {p : Addr} {xs : List V} {k : Int} {j : Nat} {v : V} {QH : Hp → Prop} (e : H p = some (.lst xs)) (hj : ixN xs.length k = some j) (h : QH (upd H p (.lst (xs.set j v)))) : rSetL (.ref p) (.int k) v H QH := ⟨p, xs, k, j, rfl, rfl, e, hj, h⟩
end
end L2

set_option Elab.async false
set_option linter.all false
set_option maxRecDepth 100000
set_option maxHeartbeats 4000000
namespace L2
open PySem PySem.Spec PyProof.Rows
section
variable {X : Cx} (K : PySem.W.Frag)
theorem k_add (hK : X.K = K := by rfl) : OpR X (binaryOp .Add) (rAddA K) := by subst hK; exact op_addA
theorem k_eq (hu : X.A.units + 200 < cLine) (hK : X.K = K := by rfl) : OpR X (compareOp .Eq) (rEqA K) := by subst hK; exact op_eqA hu
theorem k_ne (hu : X.A.units + 200 < cLine) (hK : X.K = K := by rfl) : OpR X (compareOp .NotEq) (rNeA K) := by subst hK; exact op_neA hu
theorem k_in (hK : X.K = K := by rfl) : OpR X (compareOp .In) (rInA K false) := by subst hK; exact op_inA
theorem k_notin (hK : X.K = K := by rfl) : OpR X (compareOp .NotIn) (rInA K true) := by subst hK; exact op_notinA
theorem k_ix (hK : X.K = K := by rfl) : IxR X (rIx K) := by subst hK; exact ix_seq
theorem k_sl (hK : X.K = K := by rfl) : SlR X (rSlA K) := by subst hK; exact sl_any
theorem k_len (hK : X.K = K := by rfl) : CallR X (.builtin "len") (rLen K) := by subst hK; exact call_lenA
theorem k_join (hK : X.K = K := by rfl) : MtR X "str.join" (rJoin K) := by subst hK; exact mt_join
inductive TyQ (K : PySem.W.Frag) (H : Hp) : V → Value → Prop where
  | ty {x : V} {t : Value} (h : TyOf K H x t) : TyQ K H x t
  | tup {a : Addr} {xs : List V} (q : SqT K H a xs) : TyQ K H (.ref a) (.type "tuple")
  | lst {a : Addr} {xs : List V} (q : SqL K H a xs) : TyQ K H (.ref a) (.type "list")
def rIsi (K : PySem.W.Frag) (T : String) : List V → Hp → VK → Prop := fun xs H Q => ∃ x t b, xs = [x, .ty T] ∧ TyQ K H x t ∧ PySem.W.kitOne K t (.type T) = some b ∧ Q (.bl b) H
theorem call_isiQ {T : String} : CallR X (.builtin "isinstance") (rIsi X.K T) := by
  intro pins s σ H xs us Q I r h
  obtain ⟨x, t, b, rfl, ty, e, q⟩ := h
  obtain ⟨u, v, rfl, ru, rv⟩ := r.two
  obtain rfl : v = Value.type T := rv
  cases ty with
  | ty ty => exact isinst_ok I ru ty e fun tk => ⟨.bl b, H, I.tok tk, rfl, q⟩
  | tup hq =>
    cases ru
    obtain ⟨its, _, p, _⟩ := I.tuple hq
    obtain ⟨o, h1, h2, _⟩ := p
    exact PySem.W.kia_one PySem.W.kitx_tuple I.kIn ⟨o, h1, h2⟩ e (fun z => nomatch z) fun tk => ⟨.bl b, H, I.tok tk, rfl, q⟩
  | lst hq =>
    cases ru
    obtain ⟨its, _, p, _⟩ := I.list hq
    obtain ⟨o, n, h1, h2, _⟩ := p
    exact PySem.W.kia_one PySem.W.kitx_list I.kIn ⟨o, h1, h2⟩ e (fun z => nomatch z) fun tk => ⟨.bl b, H, I.tok tk, rfl, q⟩
theorem k_isi (T : String) (hK : X.K = K := by rfl) : CallR X (.builtin "isinstance") (rIsi K T) := by subst hK; exact call_isiQ
def rAll (K : PySem.W.Frag) : List V → Hp → VK → Prop := fun xs H Q => ∃ (p : Addr) (bs : List Bool), xs = [.ref p] ∧ SqL K H p (bs.map V.bl) ∧ Q (.bl (bs.all id)) H
theorem k_all (hc : X.calm = true) (hK : X.K = K := by rfl) : CallR X (.builtin "all") (rAll K) := by subst hK; exact call_all hc
def rTupOf (K : PySem.W.Frag) : List V → Hp → VK → Prop := fun xs H Q => ∃ p ys, xs = [.ref p] ∧ ((SqL K H p ys ∧ ∀ l, H l = none → Q (.ref l) (upd H l (.tup ys))) ∨ (SqT K H p ys ∧ Q (.ref p) H))
theorem k_tuple (hK : X.K = K := by rfl) : CallR X (.type "tuple") (rTupOf K) := by subst hK; exact call_tuple_of
def rInt : List V → Hp → VK → Prop := fun xs H Q => (∃ i, xs = [.int i] ∧ Q (.int i) H) ∨ ∃ k, xs = [.bl k] ∧ Q (.int (if k then 1 else 0)) H
theorem k_int : CallR X (.type "int") rInt := call_int1
theorem s_intb {k : Bool} {H : Hp} {Q : VK} (h : Q (.int (if k = true then 1 else 0)) H) : rInt [.bl k] H Q := .inr ⟨k, rfl, h⟩
theorem qi_anyK {tg l : Expr} {tl : TE} (hl : QE X l tl) (hK : X.K = K := by rfl) : QI X tg l (iAny K tl) := by subst hK; exact qi_any hl
def tTruth (K : PySem.W.Frag) (ta : TE) : TT := fun σ H Q => ta σ H fun x H' => ∃ k, TruV K x H' k ∧ Q k H'
theorem qt_truthK {a : Expr} {ta : TE} (ha : QE X a ta) (he : ∀ whole, isTrue a X.env whole = (do let v ← whole; standAt a.pos; holding [v] (truthy v))) (hK : X.K = K := by rfl) : QT X a (tTruth K ta) := by subst hK; exact ⟨pt_truth ha.run he⟩
theorem qe_bmK {o e : Expr} {es : List Expr} {to : TE} {t : TA} {name : Str} {apos cpos : Pos} {T id : String} {r : V → List V → Hp → VK → Prop} (pa : PlainAttrs T) (slot : Slot T name id) (hty : typeOf (.builtin id) = pure (.type "method_descriptor")) (hm : MtR X id r) (ho : QE X o to) (ha : QA X (e :: es) t) (hK : X.K = K := by rfl)
    (hbase : attributeBase o name X.env (eval o X.env) = eval o X.env := by rfl) (hfew : ((backTo cpos (starEach (e :: es) X.env)).all (fun x => !x.1) && (backToKw cpos (keywordEach [] X.env)).all (fun x => x.1.isSome)
      && decide ((e :: es).length + ([] : List Keyword).length + (if ([] : List Keyword).isEmpty then 0 else 1) < 30)) = true := by rfl) (hline : (apos.endLine == cpos.line) = true := by rfl) (hs : starEach (e :: es) X.env = (false, eval e X.env) :: starEach es X.env := by rfl) (hplain : (backTo cpos (starEach es X.env)).any (·.1) = false := by rfl) : QE X (.Call (.Attribute o name apos) (e :: es) [] cpos) (tBM K T r to t) := by subst hK; exact qe_bm pa slot hty hm ho ha hbase hfew hline hs hplain
theorem qe_bm0K {o : Expr} {to : TE} {name : Str} {apos cpos : Pos} {T id : String} {r : V → List V → Hp → VK → Prop} (pa : PlainAttrs T) (slot : Slot T name id) (hty : typeOf (.builtin id) = pure (.type "method_descriptor")) (hm : MtR X id r) (ho : QE X o to) (hK : X.K = K := by rfl) (hbase : attributeBase o name X.env (eval o X.env) = eval o X.env := by rfl) (hline : (apos.endLine == cpos.line) = true := by rfl) : QE X (.Call (.Attribute o name apos) [] [] cpos) (tBM0 K T r to) := by subst hK; exact qe_bm0 pa slot hty hm ho hbase hline
end
section
variable {K : PySem.W.Frag} {σ : St} {H : Hp} {Q : VK} {QB : Bool → Hp → Prop} {ta : TE}
theorem s_truth (h : ta σ H fun x H' => ∃ k, TruV K x H' k ∧ QB k H') : tTruth K ta σ H QB := h
theorem s_isi {T : String} {x : V} {t : Value} {b : Bool} (ty : TyOf K H x t) (e : PySem.W.kitOne K t (.type T) = some b) (h : Q (.bl b) H) : rIsi K T [x, .ty T] H Q := ⟨x, t, b, rfl, .ty ty, e, h⟩
theorem s_isiT {T : String} {a : Addr} {xs : List V} {b : Bool} (q : SqT K H a xs) (e : PySem.W.kitOne K (.type "tuple") (.type T) = some b) (h : Q (.bl b) H) : rIsi K T [.ref a, .ty T] H Q := ⟨_, _, b, rfl, .tup q, e, h⟩
theorem s_tupL {p : Addr} {ys : List V} (q : SqL K H p ys) (h : ∀ l, H l = none → Q (.ref l) (upd H l (.tup ys))) : rTupOf K [.ref p] H Q := ⟨p, ys, rfl, .inl ⟨q, h⟩⟩
theorem s_tyL {a : Addr} {xs : List V} {P : Prop} (q : SqL K H a xs) (h : P) : tyV K "list" (.ref a) H ∧ P := ⟨.inl ⟨rfl, _, q⟩, h⟩
end
theorem s_nt {A B : Prop} (h : B) : if (!true) = true then A else B := by simpa using h
theorem s_nf {A B : Prop} (h : A) : if (!false) = true then A else B := by simpa using h
end L2

set_option Elab.async false
set_option linter.all false
set_option maxRecDepth 100000
set_option maxHeartbeats 4000000
namespace L2
open PySem
inductive Tr where
  | mk (wd : Str) (note : Dt) (ps : List Tr)
def Tr.wd : Tr → Str
  | .mk w _ _ => w
def Tr.ps : Tr → List Tr
  | .mk _ _ ps => ps
mutual
def Tr.size : Tr → Nat
  | .mk _ _ ps => 1 + sizes ps
def sizes : List Tr → Nat
  | [] => 0
  | t :: r => t.size + sizes r
end
def SameT (H H' : Hp) : Prop := ∀ b, (∀ xs, H b = some (.tup xs) → H' b = some (.tup xs)) ∧ ∀ o u, H b = some (.frz o u) → H' b = some (.frz o u)
theorem Same.t {H H' : Hp} (e : Same H H') : SameT H H' := fun b => ⟨fun xs h => e b _ h, fun o u h => e b _ h⟩
theorem SameT.refl (H : Hp) : SameT H H := fun _ => ⟨fun _ h => h, fun _ _ h => h⟩
theorem SameT.trans {H H1 H2 : Hp} (a : SameT H H1) (b : SameT H1 H2) : SameT H H2 := fun c => ⟨fun xs h => (b c).1 xs ((a c).1 xs h), fun o u h => (b c).2 o u ((a c).2 o u h)⟩
theorem SameT.set {H : Hp} {S : Addr} {zs : List V} {o : HO} (h : H S = some (.lst zs)) : SameT H (upd H S o) := fun b =>
  ⟨fun xs e => by rw [upd_ne (ne_of e h (by intro z; cases z))]; exact e, fun o' u e => by rw [upd_ne (ne_of e h (by intro z; cases z))]; exact e⟩
theorem SameT.new {H : Hp} {S : Addr} {o : HO} (h : H S = none) : SameT H (upd H S o) := (Same.upd h).t
theorem SameT.tup {K : PySem.W.Frag} {H H' : Hp} {a : Addr} {xs : List V} (e : SameT H H') (h : SqT K H a xs) : SqT K H' a xs := by
  rcases h with (h | ⟨o, h⟩) | h
  · exact .inl (.inl ((e a).1 _ h))
  · exact .inl (.inr ⟨o, (e a).2 _ _ h⟩)
  · exact .inr h
def IsN (K : PySem.W.Frag) (H : Hp) (v : V) (n : Dt) : Prop := (flatV v = true ∧ n = .flat v) ∨ ∃ (a : Addr) (vs : List V), v = .ref a ∧ SqT K H a vs ∧ vs.all flatV = true ∧ n = .tup (vs.map .flat)
theorem IsN.same {K : PySem.W.Frag} {H H' : Hp} {v : V} {n : Dt} (h : IsN K H v n) (e : SameT H H') : IsN K H' v n := by
  rcases h with h | ⟨a, vs, h1, h2, h3⟩
  · exact .inl h
  · exact .inr ⟨a, vs, h1, e.tup h2, h3⟩
theorem IsN.d {K : PySem.W.Frag} {H : Hp} {v : V} {n : Dt} (h : IsN K H v n) : IsD K H 1 v n := by
  rcases h with ⟨h, rfl⟩ | ⟨a, vs, rfl, h2, h3, rfl⟩
  · exact .flat h
  · refine .tup h2 (by simp) fun j v d e1 e2 => ?_
    rw [List.getElem?_map, e1] at e2
    cases e2
    exact .flat (List.all_eq_true.mp h3 v (List.mem_of_getElem? e1))
inductive TrAt (K : PySem.W.Frag) (H : Hp) : V → Tr → Prop where
  | mk {a p : Addr} {wd : Str} {nv : V} {n : Dt} {vs : List V} {ts : List Tr} (q : SqT K H a [.str wd, nv, .ref p]) (hn : IsN K H nv n) (qp : SqT K H p vs) (l : vs.length = ts.length)
      (h : ∀ (j : Nat) (v : V) (t : Tr), vs[j]? = some v → ts[j]? = some t → TrAt K H v t) : TrAt K H (.ref a) (.mk wd n ts)
theorem TrAt.sameT {K : PySem.W.Frag} {H H' : Hp} {v : V} {t : Tr} (h : TrAt K H v t) (e : SameT H H') : TrAt K H' v t := by
  induction h with
  | mk q hn qp l _ ih => exact .mk (e.tup q) (hn.same e) (e.tup qp) l ih
theorem TrAt.same {K : PySem.W.Frag} {H H' : Hp} {v : V} {t : Tr} (h : TrAt K H v t) (e : Same H H') : TrAt K H' v t := h.sameT e.t
def Al {α : Type} (R : V → α → Prop) (vs : List V) (xs : List α) : Prop := vs.length = xs.length ∧ ∀ (j : Nat) (v : V) (x : α), vs[j]? = some v → xs[j]? = some x → R v x
section
variable {α : Type} {R R' : V → α → Prop} {vs : List V} {xs : List α} {v : V} {x : α}
theorem Al.mono (h : Al R vs xs) (f : ∀ v x, R v x → R' v x) : Al R' vs xs := ⟨h.1, fun j v x a b => f v x (h.2 j v x a b)⟩
theorem Al.nil : Al R [] [] := ⟨rfl, fun j v x a _ => by simp at a⟩
theorem Al.split (h : Al R (vs ++ [v]) xs) : ∃ ys x, xs = ys ++ [x] ∧ Al R vs ys ∧ R v x := by
  have hl : xs.length = vs.length + 1 := by have := h.1; simp at this; omega
  have hne : xs ≠ [] := fun z => by rw [z] at hl; simp at hl
  refine ⟨xs.dropLast, xs.getLast hne, (List.dropLast_concat_getLast hne).symm, ⟨by simp [hl], fun j y z e1 e2 => ?_⟩, ?_⟩
  · have hj := (List.getElem?_eq_some_iff.mp e1).1
    refine h.2 j y z (by rw [List.getElem?_append_left hj]; exact e1) ?_
    rw [List.getElem?_dropLast] at e2
    split at e2
    · exact e2
    · cases e2
  · refine h.2 vs.length v _ (by simp) ?_
    rw [List.getLast_eq_getElem, List.getElem?_eq_getElem (by omega)]
    congr 1
    simp [hl]
theorem Al.get {j : Nat} (h : Al R vs xs) (e : vs[j]? = some v) : ∃ x, xs[j]? = some x ∧ R v x := by
  have hj := (List.getElem?_eq_some_iff.mp e).1
  have hx : j < xs.length := by have := h.1; omega
  exact ⟨xs[j], List.getElem?_eq_getElem hx, h.2 j v _ e (List.getElem?_eq_getElem hx)⟩
end
def gapT : Tr := .mk "gap" (.flat .non) []
theorem TrAt.gap {K : PySem.W.Frag} {H : Hp} {a p : Addr} (q : SqT K H a [.str "gap", .non, .ref p]) (qp : SqT K H p []) : TrAt K H (.ref a) gapT := .mk q (.inl ⟨rfl, rfl⟩) qp rfl fun j v t e _ => by simp at e
mutual
def walk : List Nat → Tr → List (List Nat × Tr)
  | pl, .mk w n ps => (pl, .mk w n ps) :: walks pl 0 ps
def walks : List Nat → Nat → List Tr → List (List Nat × Tr)
  | _, _, [] => []
  | pl, i, t :: r => walk (pl ++ [i]) t ++ walks pl (i + 1) r
end
def plV (pl : List Nat) : List V := pl.map fun i => V.int ((i : Nat) : Int)
def RowAt (K : PySem.W.Frag) (H : Hp) (v : V) (x : List Nat × Tr) : Prop := ∃ (a p : Addr) (u : V), v = .ref a ∧ SqT K H a [.ref p, u] ∧ SqT K H p (plV x.1) ∧ TrAt K H u x.2
theorem RowAt.same {K : PySem.W.Frag} {H H' : Hp} (e : SameT H H') (v : V) (x : List Nat × Tr) (h : RowAt K H v x) : RowAt K H' v x := by
  obtain ⟨a, p, u, r, q, qp, t⟩ := h
  exact ⟨a, p, u, r, e.tup q, e.tup qp, t.sameT e⟩
theorem Al.append {α : Type} {R : V → α → Prop} {vs ws : List V} {xs ys : List α} (h : Al R vs xs) (h' : Al R ws ys) : Al R (vs ++ ws) (xs ++ ys) := by
  refine ⟨by simp [h.1, h'.1], fun j v x e1 e2 => ?_⟩
  by_cases hj : j < vs.length
  · rw [List.getElem?_append_left hj] at e1
    rw [List.getElem?_append_left (by have := h.1; omega)] at e2
    exact h.2 j v x e1 e2
  · rw [List.getElem?_append_right (by omega)] at e1
    rw [List.getElem?_append_right (by have := h.1; omega), ← h.1] at e2
    exact h'.2 _ v x e1 e2
end L2

set_option Elab.async false
set_option linter.all false
set_option maxRecDepth 100000
set_option maxHeartbeats 4000000
namespace L2
open PySem PySem.Spec PyProof.Rows
section
open PySem.AutoSeq1
end
section
variable {X : Cx}
def lookD (kvs : List (Str × V)) (k : Str) : Option V := (kvs.find? fun kv => kv.1 = k).map (·.2)
inductive VPs : List (Str × V) → List (Str × Value) → Prop
  | nil : VPs [] []
  | cons {k : Str} {x : V} {v : Value} {r : List (Str × V)} {q : List (Str × Value)} : RelV x v → VPs r q → VPs ((k, x) :: r) ((k, v) :: q)
theorem VPs.look {kvs : List (Str × V)} {vs : List (Str × Value)} (h : VPs kvs vs) (k : Str) : (valueAt vs k).isSome = (lookD kvs k).isSome ∧ ∀ x, lookD kvs k = some x → ∃ v, valueAt vs k = some v ∧ RelV x v := by
  induction h with
  | nil => exact ⟨rfl, fun x e => nomatch e⟩
  | @cons k' x v r q rx _ ih =>
    unfold valueAt lookD at ih ⊢
    by_cases z : k' = k
    · simp only [List.find?_cons, z, decide_true, Option.map_some, Option.isSome_some]
      exact ⟨trivial, fun y e => ⟨v, rfl, by cases e; exact rx⟩⟩
    · simp only [List.find?_cons, z, decide_false]
      exact ih
def DkK (P : Program) (w : World) (K : PySem.W.Frag) (a : Addr) (kvs : List (Str × V)) : Prop :=
  ∃ (o : Obj) (vs : List (Str × Value)), K.lookup a = some o ∧ o.IsDictOf (strKind P w) vs ∧ (a == sysModules) = false ∧ VPs kvs vs
def rInD (P : Program) (w : World) (K : PySem.W.Frag) : R2 := fun x y H Q => ∃ s a kvs, x = .str s ∧ y = .ref a ∧ DkK P w K a kvs ∧ Q (.bl (lookD kvs s).isSome) H
theorem op_inD : OpR X (compareOp .In) (rInD X.prog X.w X.K) := by
  intro pins s σ H x y v u Q I rx ry h
  obtain ⟨z, a, kvs, rfl, rfl, ⟨o, vs, hk, hd, lo, vp⟩, q⟩ := h
  obtain ⟨t, rfl⟩ := rx
  cases ry
  have D : s.heap.DictOf (strKind X.prog X.w) a vs := Heap.dictOf_iff.mpr ⟨o, I.kIn a o hk, hd⟩
  exact wpAny_in_of (knd := strKind X.prog X.w) (k := z) (strKind_is _ _ _ _) lo D.mapOf (fin_bl (I.tok _) q (vp.look z).1.symm)
def rIxD (P : Program) (w : World) (K : PySem.W.Frag) : R2 := fun x y H Q => ∃ a kvs s v, x = .ref a ∧ y = .str s ∧ DkK P w K a kvs ∧ lookD kvs s = some v ∧ Q v H
theorem ix_D : IxR X (rIxD X.prog X.w X.K) := by
  intro value slice pins s σ H x y v u Q I rx ry h hs
  obtain ⟨a, kvs, z, v', rfl, rfl, ⟨o, vs, hk, hd, lo, vp⟩, hv, q⟩ := h
  cases rx
  obtain ⟨t, rfl⟩ := ry
  have D : s.heap.DictOf (strKind X.prog X.w) a vs := Heap.dictOf_iff.mpr ⟨o, I.kIn a o hk, hd⟩
  obtain ⟨u', e, r⟩ := (vp.look z).2 _ hv
  exact tail_any D.typeIs slot_dict_getitem.lookup (wpAny_getItem_of (knd := strKind X.prog X.w) (k := z) (strKind_is _ _ _ _) D.mapOf e ⟨v', H, I.tok _, r, q⟩) hs
def rIsB : R2 := fun x y H Q => ∃ b, y = .bl b ∧ Q (.bl (decide (x = .bl b))) H
theorem op_isB : OpR X (compareOp .Is) rIsB := by
  intro pins s σ H x y v u Q I rx ry h
  obtain ⟨b, rfl, q⟩ := h
  cases ry
  refine wpAny_is_plain ?_ (fin_bl I q ?_)
  · cases x <;> first | (cases rx; rfl) | (obtain ⟨t, rfl⟩ := rx; rfl)
  · cases x <;> first
      | (cases rx; rfl)
      | (obtain ⟨t, rfl⟩ := rx; rfl)
      | (rename_i c; cases rx; cases c <;> cases b <;> rfl)
end
section
variable {X : Cx} (P : Program) (w : World) (K : PySem.W.Frag)
theorem k_inD (hP : X.prog = P := by rfl) (hw : X.w = w := by rfl) (hK : X.K = K := by rfl) : OpR X (compareOp .In) (rInD P w K) := by subst hP hw hK; exact op_inD
theorem k_ixD (hP : X.prog = P := by rfl) (hw : X.w = w := by rfl) (hK : X.K = K := by rfl) : IxR X (rIxD P w K) := by subst hP hw hK; exact ix_D
end
theorem s_chain {r r' : R2} {ta tb tc : TE} {σ : St} {H : Hp} {Q : VK} (h : ta σ H fun x H1 => tb σ H1 fun y H2 => r x y H2 fun z H3 => ∃ k, z = .bl k ∧ (if k = true then tc σ H3 fun w' H4 => r' y w' H4 Q else Q (.bl false) H3)) : tChain r r' ta tb tc σ H Q := h
inductive Ents (p : Params) : List DictEntry → List (Str × V) → Prop
  | nil : Ents p [] []
  | cons {k : Str} {t : Tok} {x : V} {v : Value} {r : List DictEntry} {q : List (Str × V)} : RelV x v → Ents p r q → Ents p (⟨PyData.keyHash p k, .str k t, v⟩ :: r) ((k, x) :: q)
theorem Ents.pairs {P : Program} {w : World} {es : List DictEntry} {kvs : List (Str × V)} (h : Ents w.params es kvs) : ∃ vs, VPs kvs vs ∧ PySem.Pairs (PySem.strKind P w) es vs ∧ vs.map (·.1) = kvs.map (·.1) ∧ ∀ e ∈ es, ∃ k, (PySem.strKind P w).is k e.key = true ∧ e.hash = (PySem.strKind P w).hash k := by
  induction h with
  | nil => exact ⟨[], .nil, .nil, rfl, fun e he => nomatch he⟩
  | @cons k t x v r q rx _ ih =>
    obtain ⟨vs, a, b, c, d⟩ := ih
    refine ⟨(k, v) :: vs, .cons rx a, .cons (strKind_is _ _ _ _) rfl b, by simp [c], fun e he => ?_⟩
    rcases List.mem_cons.mp he with rfl | he
    · exact ⟨k, strKind_is _ _ _ _, rfl⟩
    · exact d e he
theorem dk_mk {P : Program} {w : World} {K : PySem.W.Frag} {a : Addr} {es : Array DictEntry} {n : Nat} {kvs : List (Str × V)} (l : K.lookup a = some ⟨.type "dict", none, .dict es n, #[]⟩) (hs : (a == sysModules) = false)
    (e : Ents w.params es.toList kvs) (nd : (kvs.map (·.1)).Nodup) : DkK P w K a kvs := by
  obtain ⟨vs, a1, a2, a3, a4⟩ := e.pairs (P := P)
  exact ⟨_, vs, l, ⟨es, n, ⟨rfl, rfl, rfl⟩, rfl, fun e he => a4 e (by simpa using he), a2, by rw [a3]; exact nd⟩, hs, a1⟩
end L2

set_option Elab.async false
set_option linter.all false
set_option maxRecDepth 100000
set_option maxHeartbeats 4000000
namespace L2
open PySem PySem.Spec PyProof.Rows
def rMulS : R2 := fun x y H Q => ∃ z n, x = .str z ∧ y = .int n ∧ MulOk z n ∧ Q (.str (PySem.Txt.mul z n)) H
theorem op_mulS {X : Cx} : OpR X (binaryOp .Mult) rMulS := by
  intro pins s σ H x y v u Q I rx ry h
  obtain ⟨z, n, rfl, rfl, hok, q⟩ := h
  obtain ⟨t, rfl⟩ := rx
  obtain ⟨t', rfl⟩ := ry
  exact SB.mul hok fun t' k => ⟨.str _, H, I.tok k, ⟨_, rfl⟩, q⟩
end L2

set_option Elab.async false
set_option linter.all false
set_option maxRecDepth 100000
set_option maxHeartbeats 4000000
namespace L2
open PySem PySem.Spec PyProof.Rows
structure Src0 (X : Cx) (pins : List (Addr × Obj)) (σ : St) (it : Addr) (n : Nat) (H0 : Hp) (J : Nat → List V → Hp → Heap → Prop) : Prop where
  ty : ∀ i ys H h, J i ys H h → ∃ o, h.get? it = some o ∧ o.cls = .type "list_reverseiterator"
  self : ∀ (A : Around) (s : Shared) (ys : List V) (H : Hp) (Q : Value → Shared → Prop) (E : Value → Shared → Prop), J 0 ys H s.heap → Q (.ref it) s → wpAny (model X.prog X.w) A (pyIter (.ref it)) Q E s
  keep : ∀ i ys H h h' S zs zs', H0 S = none → H S = some (.lst zs) → J i ys H h → (∀ b o, b ≠ S → h.get? b = some o → h'.get? b = some o) → (∃ o, h'.get? S = some o) → J i ys (upd H S (.lst zs')) h'
  fresh : ∀ i ys H h, J i ys H h → H it = none
  item : ∀ (A : Around) (i : Nat) (s : Shared) (H : Hp) (ys : List V) (E : Value → Shared → Prop), A.handled = none → i < n → Inv X pins σ H s → J i ys H s.heap →
    wpAny (model X.prog X.w) A (pyNext (.ref it)) (fun r s' => ∃ u x H', r = some u ∧ RelV x u ∧ Inv X pins σ H' s' ∧ J (i + 1) (ys ++ [x]) H' s'.heap ∧ ∀ S zs, H S = some (.lst zs) → H' S = some (.lst zs)) E s
  done : ∀ (A : Around) (s : Shared) (H : Hp) (ys : List V) (E : Value → Shared → Prop), A.handled = none → Inv X pins σ H s → J n ys H s.heap →
    wpAny (model X.prog X.w) A (pyNext (.ref it)) (fun r s' => r = none ∧ Inv X pins σ H s') E s
section
variable {X : Cx} {pins : List (Addr × Obj)} {σ : St} {it : Addr} {n : Nat} {H0 : Hp} {J : Nat → List V → Hp → Heap → Prop}
end

section
variable {X : Cx}
def tListRev (K : PySem.W.Frag) (ta : TA) : TE := fun σ H Q => ta σ H fun vs H1 => ∃ a xs, vs = [.ref a] ∧ SqL K H1 a xs ∧
  ∀ (S : Addr) (H2 : Hp), H1 S = none → Same H1 H2 → H2 S = some (.lst xs.reverse) → Q (.ref S) H2
theorem s_listrev {K : PySem.W.Frag} {ta : TA} {σ : St} {H : Hp} {Q : VK} (h : ta σ H fun vs H1 => ∃ a xs, vs = [.ref a] ∧ SqL K H1 a xs ∧ ∀ (S : Addr) (H2 : Hp), H1 S = none → Same H1 H2 → H2 S = some (.lst xs.reverse) → Q (.ref S) H2) : tListRev K ta σ H Q := h
def rStrI : List V → Hp → VK → Prop := fun xs H Q => ∃ i, xs = [.int i] ∧ i.natAbs.log2 < 1920 ∧ Q (.str (toString i)) H
theorem k_strI : CallR X (.type "str") rStrI := call_str_int
end
end L2

set_option Elab.async false
set_option linter.all false
set_option maxRecDepth 100000
set_option maxHeartbeats 4000000
namespace L2
open PySem PySem.Spec PyProof.Rows
structure ZA (z TI TO i1 i2 : Addr) (fp1 fp2 : List Addr) : Prop where
  TIz : TI ≠ z
  TOz : TO ≠ z
  TITO : TI ≠ TO
  z1 : z ∉ fp1
  z2 : z ∉ fp2
  TI1 : TI ≠ i1
  TI2 : TI ≠ i2
  TO1 : TO ∉ fp1
  TO2 : TO ∉ fp2
  m1 : i1 ∈ fp1
  m2 : i2 ∈ fp2
  n1 : i1 ∉ fp2
  n2 : i2 ∉ fp1
theorem ZA.i1z {z TI TO i1 i2 : Addr} {fp1 fp2 : List Addr} (D : ZA z TI TO i1 i2 fp1 fp2) : i1 ≠ z := fun e => D.z1 (e ▸ D.m1)
theorem ZA.i2z {z TI TO i1 i2 : Addr} {fp1 fp2 : List Addr} (D : ZA z TI TO i1 i2 fp1 fp2) : i2 ≠ z := fun e => D.z2 (e ▸ D.m2)
section
variable {prog : Program} {w : World} {A : Around} {E : Value → Shared → Prop} {s : Shared} {z TI TO i1 i2 : Addr} {fp1 fp2 : List Addr} {n1 n2 i : Nat} {P1 P2 : Nat → Value → Prop} {St1 St2 : Nat → Heap → Prop} {a b : Value}
end
section
variable {prog : Program} {w : World} {A : Around} {E : Value → Shared → Prop} {s : Shared}
end
section
variable {X : Cx} {pins : List (Addr × Obj)} {σ : St} {H : Hp} {s : Shared} {h' : Heap}
end
def Itz (K : PySem.W.Frag) (a b : Addr) : It :=
  ⟨fun i H => ∃ xs ys, SqT K H a xs ∧ SqT K H b ys ∧ i < xs.length ∧ i < ys.length,
   fun i H x H' => ∃ (t : Addr) (y z : V), H t = none ∧ (∀ xs, SqT K H a xs → xs[i]? = some y) ∧ (∀ ys, SqT K H b ys → ys[i]? = some z) ∧ x = .ref t ∧ H' = upd H t (.tup [y, z]),
   fun i H => ∃ xs ys, SqT K H a xs ∧ SqT K H b ys ∧ i = min xs.length ys.length⟩
structure ZB (z TI TO i1 i2 a b : Addr) : Prop where
  TIz : TI ≠ z
  TOz : TO ≠ z
  TITO : TI ≠ TO
  i1z : i1 ≠ z
  i2z : i2 ≠ z
  TI1 : TI ≠ i1
  TI2 : TI ≠ i2
  TO1 : TO ≠ i1
  TO2 : TO ≠ i2
  i12 : i1 ≠ i2
  az : a ≠ z
  aTO : a ≠ TO
  a1 : a ≠ i1
  a2 : a ≠ i2
  bz : b ≠ z
  bTO : b ≠ TO
  b1 : b ≠ i1
  b2 : b ≠ i2
section
variable {X : Cx}
def iZip (K : PySem.W.Frag) (ta : TA) : TI := fun σ H R => ta σ H fun vs H1 => ∃ a b xs ys, vs = [.ref a, .ref b] ∧ SqT K H1 a xs ∧ SqT K H1 b ys ∧ R (Itz K a b) H1
theorem s_izip {K : PySem.W.Frag} {ta : TA} {σ : St} {H : Hp} {R : It → Hp → Prop} (h : ta σ H fun vs H1 => ∃ a b xs ys, vs = [.ref a, .ref b] ∧ SqT K H1 a xs ∧ SqT K H1 b ys ∧ R (Itz K a b) H1) : iZip K ta σ H R := h
end
end L2

set_option Elab.async false
set_option linter.all false
set_option maxRecDepth 100000
set_option maxHeartbeats 4000000
namespace L2
open PySem PySem.Spec PyProof.Rows
theorem s_aug {i : Nat} {te : TE} {ti : TIp} {D : Ends} {σ : St} {H : Hp} {x : V} (e : σ[i]? = some (some x)) (h : te σ H fun y H1 => ti x y H1 fun z H2 => D.nx (σ.set i (some z)) H2) : tAug i te ti D σ H := ⟨x, e, h⟩
theorem s_ipI {g : Int → Int → Int} {i j : Int} {H : Hp} {Q : VK} (h : Q (.int (g i j)) H) : ipI g (.int i) (.int j) H Q := ⟨i, j, rfl, rfl, h⟩
end L2

set_option Elab.async false
set_option linter.all false
set_option maxRecDepth 100000
set_option maxHeartbeats 4000000
namespace L2
open PySem PySem.Spec PyProof.Rows
structure Mvd (fs xs : List Addr) (h h' : Heap) : Prop where
  keep : ∀ b o, b ∉ xs → b ∉ fs → h.get? b = some o → h'.get? b = some o
  slot : ∀ b o, b ∉ xs → h.get? b = some o → ∃ sl, h'.get? b = some { o with slots := sl }
theorem Mvd.trans {fs xs : List Addr} {h h1 h2 : Heap} (a : Mvd fs xs h h1) (b : Mvd fs xs h1 h2) : Mvd fs xs h h2 :=
  ⟨fun c o n1 n2 e => b.keep c o n1 n2 (a.keep c o n1 n2 e), fun c o n e => by
    obtain ⟨sl, e1⟩ := a.slot c o n e
    obtain ⟨sl', e2⟩ := b.slot c _ n e1
    exact ⟨sl', e2⟩⟩
theorem Mvd.mono {fs xs ys : List Addr} {h h1 : Heap} (a : Mvd fs xs h h1) (s : ∀ b ∈ xs, b ∈ ys) : Mvd fs ys h h1 :=
  ⟨fun c o n1 n2 e => a.keep c o (fun z => n1 (s c z)) n2 e, fun c o n e => a.slot c o (fun z => n (s c z)) e⟩
theorem Mvd.upd {fs : List Addr} {h : Heap} {a : Addr} (f : Obj → Obj) : Mvd fs [a] h (h.update a f) :=
  ⟨fun c o n _ e => by rw [Heap.get?_update_other _ _ (fun z => n (by simp [z]))]; exact e, fun c o n e => ⟨o.slots, by rw [Heap.get?_update_other _ _ (fun z => n (by simp [z]))]; exact e⟩⟩
theorem Mvd.push {fs xs : List Addr} {h : Heap} (o : Obj) : Mvd fs xs h (h.push o) := ⟨fun _ _ _ _ e => Heap.get?_push_of_some _ e, fun _ o _ e => ⟨o.slots, Heap.get?_push_of_some _ e⟩⟩
theorem Mvd.fun {fs xs : List Addr} {h h1 base : Heap} {l : List Env} (a : Mvd fs xs h h1) (hl : h.FunFrames base l) (nx : ∀ b ∈ xs, ∃ o vs, h.get? b = some o ∧ o.data = .fields vs) : h1.FunFrames base l :=
  hl.of_keeps fun b o e hd => by
    obtain ⟨sl, e1⟩ := a.slot b o (fun z => by
      obtain ⟨o', vs, e', d'⟩ := nx b z
      rw [e] at e'
      cases e'
      exact hd vs d') e
    exact ⟨_, e1, rfl⟩
def LiesF (h : Heap) (e T : Addr) (cls : Value) (od : Option Addr) (fl : Value) : Prop :=
  ∃ oe vs oT ts, h.get? e = some oe ∧ oe.cls = cls ∧ oe.dict = od ∧ oe.data = .fields vs ∧ vs[1]? = some (.ref T) ∧ T ≠ e ∧ h.get? T = some oT ∧ oT.data = .fields ts ∧ ts[3]? = some fl
abbrev Lies (h : Heap) (e T : Addr) (cls : Value) (od : Option Addr) : Prop := LiesF h e T cls od .none
theorem LiesF.keeps {h h' : Heap} {e T : Addr} {cls fl : Value} {od : Option Addr} (x : LiesF h e T cls od fl) (k1 : ∀ o, h.get? e = some o → h'.get? e = some o) (k2 : ∀ o, h.get? T = some o → h'.get? T = some o) : LiesF h' e T cls od fl := by
  obtain ⟨oe, vs, oT, ts, a1, a2, a3, a4, a5, a6, a7, a8, a9⟩ := x
  exact ⟨oe, vs, oT, ts, k1 _ a1, a2, a3, a4, a5, a6, k2 _ a7, a8, a9⟩
def Made (h : Heap) (e : Addr) (cls : Value) (od : Option Addr) : Prop := ∃ oe vs, h.get? e = some oe ∧ oe.cls = cls ∧ oe.dict = od ∧ oe.data = .fields vs ∧ vs[1]? = some .none
section
variable {M : Model} {A : Around} {E : Value → Shared → Prop} {s : Shared}
theorem entry_at {base : Heap} {env : Env} {outer : List Env} {L e : Addr} {oe : Obj} {vs : Array Value} {head : Value} {hadNext : Bool} {Q : Unit → Shared → Prop}
    (hfr : A.frames = some (env :: outer)) (hl : s.heap.FunFrames base (env :: outer)) (hf : env.frame = some L) (he : s.heap.get? e = some oe) (hd : oe.data = .fields vs) (hsz : 1 < vs.size)
    (h : ∀ h' T, s.heap.objs.size ≤ T → LiesF h' e T oe.cls oe.dict (rawInt L) → Mvd (frs (env :: outer)) [e] s.heap h' → Q () { s with heap := h' }) :
    wpAny M A (do let a ← frameOf env; let pl ← entryPlaceOf L hadNext; let b ← EntryCells.newEntry head a .none (rawInt L) .none pl; setField (.ref e) 1 b) Q E s := by
  have hene : e ∉ frs (env :: outer) := fun hm => by
    obtain ⟨_, o, ho, hnf⟩ := hl.mem hm
    rw [he] at ho
    cases ho
    exact hnf vs hd
  refine wpAny_bind (wpAny_frameOf_fun hfr hl hf fun h₁ s1 => ?_)
  refine wpAny_bind (wpAny_entryPlaceOf fun pl hpl => ?_)
  unfold EntryCells.newEntry newFields
  refine wpAny_bind (wpAny_newObj_type ?_ (hpl.sizeOk5 _ _ _ _ _))
  have e1 : h₁.get? e = some oe := (s1.2.1 e hene).trans he
  generalize hoT : ({ cls := .type "traceback", dict := none, data := .fields ([head, .ref L, .none, rawInt L, .none] ++ (if pl.isEmpty then List.replicate 6 Value.none else pl)).toArray } : Obj) = oT
  have e2 : (h₁.push oT).get? e = some oe := Heap.get?_push_of_some _ e1
  refine wpAny_setField e2 hd hsz (h _ h₁.objs.size (by rw [s1.1]; exact Nat.le_refl _) ?_ ?_)
  · have nT : h₁.objs.size ≠ e := Nat.ne_of_gt (Heap.lt_size e1)
    have d3 := Obj.data_mapFields hd (·.setIfInBounds 1 (Value.ref h₁.objs.size))
    have e3 := Heap.get?_update_self (Obj.mapFields (·.setIfInBounds 1 (Value.ref h₁.objs.size))) e2 (Obj.isFreed_of_fields d3)
    have fT : oT.isFreed = false := by rw [← hoT]; rfl
    have e4 := (Heap.get?_update_other (h₁.push oT) (Obj.mapFields (·.setIfInBounds 1 (Value.ref h₁.objs.size))) (Ne.symm nT)).trans (Heap.get?_push_size h₁ fT)
    refine ⟨_, _, _, _, e3, Obj.cls_mapFields _ _, ?_, d3, by simp [hsz], nT, e4, by rw [← hoT], ?_⟩
    · obtain ⟨c0, d0, t0, s0⟩ := oe
      cases t0 <;> rfl
    · first | (simp; done) | (rcases hpl with rfl | ⟨_, _, _, _, _, _, _, rfl⟩ <;> simp)
  · have m1 : Mvd (frs (env :: outer)) [e] s.heap h₁ := ⟨fun b o _ n e => (s1.2.1 b n).trans e, fun b o _ e => s1.2.2 b o e⟩
    exact (m1.trans (Mvd.push oT)).trans (Mvd.upd _)
theorem flight_none {e T : Addr} {cls fl : Value} {od : Option Addr} {fs : List Addr} {Q : Unit → Shared → Prop} (x : LiesF s.heap e T cls od fl) (h : ∀ h', Lies h' e T cls od → Mvd fs [T] s.heap h' → Q () { s with heap := h' }) : wpAny M A (setFlight (.ref e) none) Q E s := by
  obtain ⟨oe, vs, oT, ts, a1, a2, a3, a4, a5, a6, a7, a8, a9⟩ := x
  have hz : 3 < ts.size := (Array.getElem?_eq_some_iff.mp a9).1
  unfold setFlight
  refine wpAny_bind (wpAny_field a1 a4 a5 ?_)
  rw [if_pos (show (Value.ref T != Value.none) = true from by simp)]
  refine wpAny_setField a7 a8 hz (h _ ?_ (Mvd.upd _))
  have d := Obj.data_mapFields a8 (·.setIfInBounds 3 ((none : Option Addr).elim Value.none fun f => rawInt f))
  exact ⟨oe, vs, _, _, by rw [Heap.get?_update_other _ _ a6]; exact a1, a2, a3, a4, a5, a6, Heap.get?_update_self _ a7 (Obj.isFreed_of_fields d), d, by simp [hz]⟩
theorem note_first {base : Heap} {env : Env} {outer : List Env} {L e : Addr} {cls : Value} {od : Option Addr} {Q : Unit → Shared → Prop}
    (hfr : A.frames = some (env :: outer)) (hl : s.heap.FunFrames base (env :: outer)) (hf : env.frame = some L) (x : Made s.heap e cls od)
    (h : ∀ h' T, s.heap.objs.size ≤ T → LiesF h' e T cls od (rawInt L) → Mvd (frs (env :: outer)) [e] s.heap h' → Q () { s with heap := h' }) : wpAny M A (noteFrame (.ref e) env) Q E s := by
  obtain ⟨oe, vs, he, rfl, rfl, hd, h1⟩ := x
  unfold noteFrame
  simp only [hf]
  refine wpAny_bind (wpAny_field he hd h1 ?_)
  rw [if_neg (by decide)]
  exact entry_at hfr hl hf he hd (Array.getElem?_eq_some_iff.mp h1).1 h
theorem note_next {base : Heap} {env : Env} {outer : List Env} {L e T : Addr} {cls : Value} {od : Option Addr} {Q : Unit → Shared → Prop}
    (hfr : A.frames = some (env :: outer)) (hl : s.heap.FunFrames base (env :: outer)) (hf : env.frame = some L) (x : Lies s.heap e T cls od)
    (h : ∀ h' T', s.heap.objs.size ≤ T' → LiesF h' e T' cls od (rawInt L) → Mvd (frs (env :: outer)) [e, T] s.heap h' → Q () { s with heap := h' }) : wpAny M A (noteFrame (.ref e) env) Q E s := by
  obtain ⟨oe, vs, oT, ts, he, rfl, rfl, hd, h1, nT, hT, dT, h3⟩ := x
  unfold noteFrame
  simp only [hf]
  refine wpAny_bind (wpAny_field he hd h1 ?_)
  rw [if_pos (show (Value.ref T != Value.none) = true from by simp)]
  refine wpAny_bind (wpAny_field hT dT h3 ?_)
  rw [if_neg (show ¬ ((Value.none == rawInt L) = true) from by simp [rawInt])]
  refine wpAny_bind (wpAny_setField hT dT (Array.getElem?_eq_some_iff.mp h3).1 ?_)
  have m1 : Mvd (frs (env :: outer)) [T] s.heap (s.heap.update T (Obj.mapFields (·.setIfInBounds 3 Value.none))) := Mvd.upd _
  have he' : (s.heap.update T (Obj.mapFields (·.setIfInBounds 3 Value.none))).get? e = some oe := (Heap.get?_update_other _ _ nT).trans he
  refine entry_at hfr (m1.fun hl fun b hb => by rw [List.mem_singleton.mp hb]; exact ⟨oT, ts, hT, dT⟩) hf he' hd (Array.getElem?_eq_some_iff.mp h1).1 fun h' T' hz x m => ?_
  refine h h' T' ?_ x ((m1.mono (by simp)).trans (m.mono (by simp)))
  have : (s.heap.update T (Obj.mapFields (·.setIfInBounds 3 Value.none))).objs.size = s.heap.objs.size := Heap.size_after_update ..
  have hz : (s.heap.update T (Obj.mapFields (·.setIfInBounds 3 Value.none))).objs.size ≤ T' := hz
  omega
theorem leave_first {base : Heap} {env : Env} {outer : List Env} {L e : Addr} {cls : Value} {od : Option Addr} {Q : Unit → Shared → Prop}
    (hfr : A.frames = some (env :: outer)) (hl : s.heap.FunFrames base (env :: outer)) (hf : env.frame = some L) (x : Made s.heap e cls od)
    (h : ∀ h' T, s.heap.objs.size ≤ T → Lies h' e T cls od → Mvd (frs (env :: outer)) [e, T] s.heap h' → Q () { s with heap := h' }) : wpAny M A (leaving env (.ref e)) Q E s := by
  unfold leaving
  refine wpAny_bind (note_first hfr hl hf x fun h1 T hz y m => ?_)
  refine flight_none (fs := frs (env :: outer)) y fun h2 y2 m2 => h h2 T hz y2 ((m.mono (by simp)).trans (m2.mono (by simp)))
theorem leave_next {base : Heap} {env : Env} {outer : List Env} {L e T : Addr} {cls : Value} {od : Option Addr} {Q : Unit → Shared → Prop}
    (hfr : A.frames = some (env :: outer)) (hl : s.heap.FunFrames base (env :: outer)) (hf : env.frame = some L) (x : Lies s.heap e T cls od)
    (h : ∀ h' T', s.heap.objs.size ≤ T' → Lies h' e T' cls od → Mvd (frs (env :: outer)) [e, T, T'] s.heap h' → Q () { s with heap := h' }) : wpAny M A (leaving env (.ref e)) Q E s := by
  unfold leaving
  refine wpAny_bind (note_next hfr hl hf x fun h1 T' hz y m => ?_)
  refine flight_none (fs := frs (env :: outer)) y fun h2 y2 m2 => h h2 T' hz y2 ((m.mono (by simp)).trans (m2.mono (by simp)))
end
end L2

set_option Elab.async false
set_option linter.all false
set_option maxRecDepth 100000
set_option maxHeartbeats 4000000
namespace L2
open PySem PySem.Spec PyProof.Rows
def ZpLate (h : Heap) (z TI TO i1 i2 : Addr) : Prop := ∃ (a : Addr) (oa : Obj) (f1 : Value), h.get? z = some { cls := .type "zip", dict := none, data := .fields #[rawInt a, f1, .bool false, .ref TI, .ref TO], slots := #[] } ∧ h.get? a = some oa ∧ a ≠ z ∧ a ≠ i1 ∧ a ≠ i2
section
variable {prog : Program} {w : World} {A : Around} {E : Value → Shared → Prop} {s : Shared} {z TI TO i1 i2 : Addr} {fp1 fp2 : List Addr} {n1 n2 i : Nat} {P1 P2 : Nat → Value → Prop} {St1 St2 : Nat → Heap → Prop} {a b : Value}
def ZpSt (h : Heap) (z TI TO i1 i2 : Addr) (i : Nat) : Prop := (i = 0 ∧ IsZip h z TI TO .none ∧ ∃ u v, IsPair h TO u v) ∨ (0 < i ∧ ZpLate h z TI TO i1 i2)
theorem ZpSt.obj {h : Heap} {z TI TO i1 i2 : Addr} {i : Nat} (x : ZpSt h z TI TO i1 i2 i) : ∃ vs, h.get? z = some { cls := .type "zip", dict := none, data := .fields vs, slots := #[] } := by
  rcases x with ⟨_, x, _⟩ | ⟨_, _, _, _, x, _⟩
  · exact ⟨_, x⟩
  · exact ⟨_, x⟩
end
abbrev lit (l : Addr) : Obj := { cls := .type "list_iterator", data := .fields #[.ref l, .int 0 0] }
def ZPairs (H : Hp) (xs ys zs : List V) : Prop := ∀ (j : Nat) (z : V), zs[j]? = some z → ∃ (t : Addr) (x y : V), z = V.ref t ∧ xs[j]? = some x ∧ ys[j]? = some y ∧ H t = some (.tup [x, y])
section
variable {X : Cx}
def tListZp (K : PySem.W.Frag) (ta : TA) : TE := fun σ H Q => ta σ H fun vs H1 => ∃ a b xs ys, vs = [.ref a, .ref b] ∧ SqT K H1 a xs ∧ SqL K H1 b ys ∧
  ∀ (S : Addr) (zs : List V) (H2 : Hp), H1 S = none → Same H1 H2 → zs.length = min xs.length ys.length → ZPairs H2 xs ys zs → H2 S = some (.lst zs) → Q (.ref S) H2
theorem s_listzp {K : PySem.W.Frag} {ta : TA} {σ : St} {H : Hp} {Q : VK} (h : ta σ H fun vs H1 => ∃ a b xs ys, vs = [.ref a, .ref b] ∧ SqT K H1 a xs ∧ SqL K H1 b ys ∧
  ∀ (S : Addr) (zs : List V) (H2 : Hp), H1 S = none → Same H1 H2 → zs.length = min xs.length ys.length → ZPairs H2 xs ys zs → H2 S = some (.lst zs) → Q (.ref S) H2) : tListZp K ta σ H Q := h
end
end L2

set_option Elab.async false
set_option linter.all false
set_option maxRecDepth 100000
set_option maxHeartbeats 4000000
namespace L2
open PySem PySem.Spec PyProof.Rows
section
variable {X : Cx}
def rNeI (K : PySem.W.Frag) : R2 := fun x y H Q => ∃ (a c : Addr) (xs ys : List Int), x = .ref a ∧ y = .ref c ∧ SqT K H a (xs.map V.int) ∧ SqT K H c (ys.map V.int) ∧ Q (.bl (!decide (xs = ys))) H
def rNeB (K : PySem.W.Frag) : R2 := fun x y H Q => rNeA K x y H Q ∨ rNeI K x y H Q
theorem s_neb {K : PySem.W.Frag} {x y : V} {H : Hp} {Q : VK} (hs : scal x y = true) (h : Q (.bl (!decide (x = y))) H) : rNeB K x y H Q := .inl (.inl ⟨hs, h⟩)
end
end L2

set_option Elab.async false
set_option linter.all false
set_option maxRecDepth 100000
set_option maxHeartbeats 4000000
namespace L2
open PySem PySem.Spec PyProof.Rows
def IteT (K : PySem.W.Frag) (a : Addr) (n : Nat) : It :=
  ⟨fun i H => ∃ xs, SqT K H a xs ∧ xs.length = n ∧ i < n, fun i H x H' => ∃ (t : Addr) (y : V), H t = none ∧ (∀ xs, SqT K H a xs → xs[i]? = some y) ∧ x = .ref t ∧ H' = upd H t (.tup [.int i, y]), fun i H => i = n ∧ ∃ xs, SqT K H a xs ∧ xs.length = n⟩
section
variable {X : Cx}
def iEnumT (K : PySem.W.Frag) (ta : TA) : TI := fun σ H R => ta σ H fun vs H1 => ∃ a xs, vs = [.ref a] ∧ SqT K H1 a xs ∧ R (IteT K a xs.length) H1
end
section
variable {X : Cx}
theorem s_ienumT {K : PySem.W.Frag} {ta : TA} {σ : St} {H : Hp} {R : It → Hp → Prop} (h : ta σ H fun vs H1 => ∃ a xs, vs = [.ref a] ∧ SqT K H1 a xs ∧ R (IteT K a xs.length) H1) : iEnumT K ta σ H R := h
end
end L2

set_option Elab.async false
set_option linter.all false
set_option maxRecDepth 100000
set_option maxHeartbeats 4000000
namespace L2
open PySem PySem.Spec PyProof.Rows
def CXR (P : Program) (w : World) : CXT := fun outer H s E ev s' => ∃ (e T : Addr) (cls : Value) (od : Option Addr) (H' : Hp), ev = .ref e ∧ s'.os = s.os ∧ AllBare s'.gens ∧ Un (frs outer) [] H H' s.heap s'.heap ∧ HOk P w H' s'.heap ∧
  s.heap.get? e = none ∧ s.heap.get? T = none ∧ H' e = none ∧ H' T = none ∧ Lies s'.heap e T cls od ∧ E cls od H'
theorem FunFrames.slots {h h' base : Heap} : ∀ {l : List Env}, h.FunFrames base l → (∀ b ∈ frs l, ∀ o, h.get? b = some o → ∃ sl, h'.get? b = some { o with slots := sl }) → h'.FunFrames base l
  | [], _, _ => trivial
  | env :: rest, hl, k => by
    obtain ⟨hk, ⟨L, o, hf, hn, ho, hd⟩, hr⟩ := hl
    have hm : L ∈ frs (env :: rest) := by unfold frs; rw [List.filterMap_cons, hf]; exact List.mem_cons_self
    obtain ⟨sl, e⟩ := k L hm o ho
    refine ⟨hk, ⟨L, _, hf, hn, e, hd⟩, FunFrames.slots hr fun b hb => k b ?_⟩
    unfold frs
    rw [List.filterMap_cons, hf]
    exact List.mem_cons_of_mem _ hb
section
variable {X : Cx} {pins : List (Addr × Obj)} {σ : St} {H : Hp} {s : Shared}
theorem Inv.old (I : Inv X pins σ H s) (hex : X.ex = []) {b : Addr} (h : s.heap.get? b = none) : X.s₀.heap.get? b = none := by
  cases q : X.s₀.heap.get? b with
  | none => rfl
  | some o =>
    obtain ⟨o', e⟩ := I.base.there b o q (by rw [hex]; simp)
    rw [h] at e
    cases e
theorem Inv.mvd (I : Inv X pins σ H s) {h' : Heap} {xs : List Addr} (m : Mvd (frs X.stack) xs s.heap h') (hx : ∀ b ∈ xs, X.s₀.heap.get? b = none ∧ H b = none) (hex : X.ex = []) : Un X.fs [] X.H₀ H X.s₀.heap h' ∧ HOk X.prog X.w H h' := by
  have low : ∀ b o, X.s₀.heap.get? b = some o → b ∉ xs := fun b o e hb => by rw [(hx b hb).1] at e; cases e
  have neL : ∀ b o, X.s₀.heap.get? b = some o → b ≠ X.env.locals := fun b o e => Nat.ne_of_lt (Nat.lt_of_lt_of_le (Heap.lt_size e) I.ok.above)
  have nst : ∀ b o, X.s₀.heap.get? b = some o → b ∉ X.fs → b ∉ frs X.stack := fun b o e hf hs => by
    rcases I.ok.stk with z | ⟨z, z2⟩
    · rw [z] at hs; exact hf hs
    · rw [z] at hs
      unfold frs at hs
      rw [List.filterMap_cons, z2] at hs
      rcases List.mem_cons.mp hs with q | q
      · exact neL b o e q
      · exact hf q
  have B := I.base
  rw [hex] at B
  refine ⟨⟨fun b o e n hf _ => ?_, fun b o e n hf _ => ?_, fun b o e n _ => B.free b o e n (by simp), fun b o e _ => ?_, B.tups, B.frzs, B.tbls⟩, fun b u e => ?_⟩
  · exact m.keep b o (low b o e) (nst b o e hf) (B.keep b o e n hf (by simp))
  · obtain ⟨sl, e1⟩ := B.slot b o e n hf (by simp)
    obtain ⟨sl', e2⟩ := m.slot b _ (low b o e) e1
    exact ⟨sl', e2⟩
  · obtain ⟨o', e1⟩ := B.there b o e (by simp)
    obtain ⟨sl, e2⟩ := m.slot b o' (low b o e) e1
    exact ⟨_, e2⟩
  · have tr : ∀ c v, H c = some v → c ∉ xs ∧ c ∉ frs X.stack := fun c v q => ⟨(fun z => by rw [(hx c z).2] at q; cases q), (fun z => by rw [I.stkFree c z] at q; cases q)⟩
    refine (I.hok b u e).stay (fun c v hc q => m.keep c v ?_ ?_ q) (fun _ q => q) fun _ _ q => q
    · rcases hc with z | z
      · rw [z]; exact (tr b u e).1
      · exact (tr c _ z).1
    · rcases hc with z | z
      · rw [z]; exact (tr b u e).2
      · exact (tr c _ z).2
end
section
variable {P : Program} {w : World} {K : PySem.W.Frag} {mg : Str → Option Value} {base : Heap} {N : List Str} {qual : Str} {scope : Scope} {f : Addr} {cd : Value} {A : Around} {outer : List Env} {s0 : Shared} {H0 : Hp} {E : XK}
theorem passes_cx {E' : XK} (h : ∀ cls od H', E' cls od H' → E cls od H') : Passes (CXR P w) (cxOf (CXR P w) P w K mg base N qual scope f cd A outer s0 H0 E) E' := by
  intro pins σ H s ev s' I c
  obtain ⟨e, T, cls, od, H', rfl, h1, h2, h3, h4, h5, h6, h7, h8, h9, h10⟩ := c
  have J : Inv (cxOf (CXR P w) P w K mg base N qual scope f cd A outer s0 H0 E) pins σ H' s' := I.call' (ch := []) h1 h3 h4 h2 (fun b z => absurd z (by simp))
  refine leave_next (base := base) (outer := outer) (L := s0.heap.objs.size) J.ok.frames J.stack rfl h9 fun h' T' hT' y m => ?_
  obtain ⟨u, ok⟩ := J.mvd (h' := h') m (fun b hb => by
    simp only [List.mem_cons, List.not_mem_nil, or_false] at hb
    rcases hb with rfl | rfl | rfl
    · exact ⟨I.old rfl h5, h7⟩
    · exact ⟨I.old rfl h6, h8⟩
    · exact ⟨J.old rfl (Heap.get?_none_of_le hT'), J.hok.fresh hT'⟩) rfl
  exact ⟨e, T', cls, od, H', rfl, J.os, J.bare, u, ok, I.old rfl h5, J.old rfl (Heap.get?_none_of_le hT'), h7, J.hok.fresh hT', y, h _ _ _ h10⟩
theorem raises_cx {pins : List (Addr × Obj)} {σ : St} {H : Hp} {s : Shared} {e : Addr} {cls : Value} {od : Option Addr} (I : Inv (cxOf (CXR P w) P w K mg base N qual scope f cd A outer s0 H0 E) pins σ H s) (x : Made s.heap e cls od) (he : s0.heap.get? e = none) (hn : H e = none) (h : E cls od H) :
    (cxOf (CXR P w) P w K mg base N qual scope f cd A outer s0 H0 E).xe (.ref e) s := by
  refine leave_first (base := base) (outer := outer) (L := s0.heap.objs.size) I.ok.frames I.stack rfl x fun h' T hT y m => ?_
  obtain ⟨u, ok⟩ := I.mvd (h' := h') m (fun b hb => by
    simp only [List.mem_cons, List.not_mem_nil, or_false] at hb
    rcases hb with rfl | rfl
    · exact ⟨he, hn⟩
    · exact ⟨I.old rfl (Heap.get?_none_of_le hT), I.hok.fresh hT⟩) rfl
  exact ⟨e, T, cls, od, H, rfl, I.os, I.bare, u, ok, he, I.old rfl (Heap.get?_none_of_le hT), hn, I.hok.fresh hT, y, h⟩
end
end L2

set_option Elab.async false
set_option linter.all false
set_option maxRecDepth 100000
set_option maxHeartbeats 4000000
namespace L2
open PySem PySem.Spec PyProof.Rows
section
variable {P : Program} {w : World} {K : PySem.W.Frag} {mg : Str → Option Value} {base : Heap}
theorem Fun.okx {x qual : Str} {st : Stmt} {f : Addr} {fd : FuncData} {N ps : List Str} {k : Nat} {sp : Sp} (F : Fun K x qual st f fd) (S : FnScope N ps (defScope st)) (len : ∀ vs H Q E, sp vs H Q E → vs.length = ps.length)
    (hbody : ∀ (cdv : Value) (A : Around) (outer : List Env) (s : Shared) (H : Hp) (vs : List V) (Q : VK) (E : XK), Room k (A.deeper (envOfC qual (defScope st) s.heap.objs.size f cdv)) → sp vs H Q E →
      ∃ t, QSs (cxOf (CXR P w) P w K mg base N qual (defScope st) f cdv A outer s H E) (defBody st) t ∧ t { nx := fun _ H' => Q .non H', rt := Q } (start N vs) H) : FnOk P w K mg base (CXR P w) (k + 1) f fd ps sp := by
  obtain ⟨oc, od, kV, doc, pm, an, cdv, ct, osl, rfl, lk, hcd⟩ := F.ex
  refine fn_of lk hcd S len fun A outer s H vs Q E hr hsp => ?_
  obtain ⟨t, h, q⟩ := hbody cdv A outer s H vs Q E hr hsp
  exact ⟨t, h.run, q⟩
structure CalleeX (P : Program) (w : World) (K : PySem.W.Frag) (mg : Str → Option Value) (base : Heap) (k : Nat) (x : Str) (ps : List Str) (sp : Sp) : Prop where
  ex : ∃ (f : Addr) (fd : FuncData), FnOk P w K mg base (CXR P w) k f fd ps sp ∧ mg x = some (.ref f) ∧ PySem.W.keepIn K (.ref f) = true ∧ Binds K fd ps []
theorem calleex_of {k : Nat} {x : Str} {ps : List Str} {sp : Sp} {f : Addr} {fd : FuncData} (F : FnOk P w K mg base (CXR P w) k f fd ps sp) (m : mg x = some (.ref f)) (kp : PySem.W.keepIn K (.ref f) = true) (b : Binds K fd ps []) : CalleeX P w K mg base k x ps sp := ⟨f, fd, F, m, kp, b⟩
end
section
variable {X : Cx} {k : Nat} {x : Str} {ps : List Str} {sp : Sp} {p pos np cpos : Pos} {e : Expr} {es : List Expr} {t : TA} {E : XK}
theorem qe_fnx (C : CalleeX X.prog X.w X.K X.mg X.base k x ps sp) (hr : Room k X.A) (hx : Passes (CXR X.prog X.w) X E) (ha : QA X (e :: es) t) (hg : Gl X x := by rfl) (hdb : (x == ("__debug__" : Str)) = false := by decide)
    (he : starEach (e :: es) X.env = (false, eval e X.env) :: starEach es X.env := by rfl) (hpl : (backTo pos (starEach es X.env)).any (·.1) = false := by rfl) : QE X (.Call (.Name x p) (e :: es) [] pos) (tCall sp [] E t) := by
  obtain ⟨f, fd, F, hm, hk, hb⟩ := C.ex
  exact ⟨pe_call F hr hg hm hk hb .nil hx ha.run hdb he hpl⟩
abbrev VE : List Value := [.type "ValueError", .type "Exception", .type "BaseException", .type "object"]
def Raises (X : Cx) (E : XK) : Prop := ∀ (pins : List (Addr × Obj)) (σ : St) (H : Hp) (s : Shared) (a : Addr) (cls : Value) (od : Option Addr), Inv X pins σ H s → Made s.heap a cls od → X.s₀.heap.get? a = none → H a = none → E cls od H → X.xe (.ref a) s
theorem exc_in {K : PySem.W.Frag} {h0 : Heap} {C : Addr} (kin0 : K.In h0) (q : PySem.W.excIn K C VE "ValueError.__new__" = true) :
    ∃ bm N nm q bs hdct sn sub ab col dd k0 k1 k2 k3 k5 mN, mN "__init__" = none ∧ ∀ h : Heap, K.In h → h.get? C = some (excClassObj nm q C N bs bm hdct sn sub ab col dd k0 k1 k2 k3 k5 "ValueError.__new__") ∧ h.Ns N mN ∧ OwnTail h VE bm := by
  unfold PySem.W.excIn at q
  split at q
  · rename_i dd cd sl ho
    split at q
    · rename_i C' bm k0 k1 k2 k3 n k5 hm hs
      simp only [Bool.and_eq_true, beq_iff_eq, Bool.not_eq_true'] at q
      obtain ⟨⟨⟨⟨⟨rfl, rfl⟩, hdel⟩, ht⟩, hok⟩, hni⟩ := q
      obtain ⟨nm, bs, mro, ns, qn, hd, sn, sub, ab, col, del⟩ := cd
      dsimp only at hm hdel hok hni
      subst hm hdel
      have hsl : sl = #[k0, k1, k2, k3, some (.builtin "ValueError.__new__"), k5] := by
        obtain ⟨l⟩ := sl
        simp only at hs
        rw [hs]
      subst hsl
      have n0 : h0.Ns ns (h0.nsMap ns) := .of_isNs (PySem.W.isNs_of_in kin0 hok)
      refine ⟨bm, ns, nm, qn, bs, hd, sn, sub, ab, col, dd, k0, k1, k2, k3, k5, h0.nsMap ns, PySem.W.nsMap_none_of_in kin0 hok hni, fun h kin => ⟨kin _ _ ho, ?_, PySem.W.tail_of_in kin ht⟩⟩
      obtain ⟨o, es, ep, e, r⟩ := n0
      refine ⟨o, es, ep, ?_, r⟩
      unfold PySem.W.nsOkIn at hok
      split at hok
      · rename_i hl
        have := kin0 _ _ hl
        rw [e] at this
        cases this
        exact kin _ _ hl
      · cases hok
    · cases q
  · cases q
theorem ObjOk.there {P : Program} {w : World} {H : Hp} {h : Heap} {a : Addr} {o : HO} (x : ObjOk P w H h a o) : ∃ u, h.get? a = some u := by
  induction o with
  | lst xs => obtain ⟨_, _, _, _, e⟩ := x; exact ⟨_, e⟩
  | tup xs => obtain ⟨_, _, _, o, e, _⟩ := x; exact ⟨_, e⟩
  | dK kvs => obtain ⟨_, _, vs, _, d⟩ := x; obtain ⟨o, e, _⟩ := Heap.dictOf_iff.mp d; exact ⟨_, e⟩
  | dT kvs => obtain ⟨_, _, _, _, o, _, _, e, _⟩ := x; exact ⟨_, e⟩
  | set S n => obtain ⟨o, _, _, _, e, _⟩ := x; exact ⟨_, e⟩
  | ins C dx fs => obtain ⟨_, _, _, e, _⟩ := x; exact ⟨_, e⟩
  | own y => exact x
  | xd fs => obtain ⟨_, ⟨o, _, _, e, _⟩, _⟩ := x; exact ⟨_, e⟩
  | met f y => exact ⟨_, x⟩
  | rng lo hi => obtain ⟨_, _, _, e⟩ := x; exact ⟨_, e⟩
  | frz o u _ => exact ⟨_, x.1⟩
  | tbl ps => exact ⟨_, x⟩
  | ext φ => exact x.2.1
theorem HOk.no {P : Program} {w : World} {H : Hp} {h : Heap} (x : HOk P w H h) {a : Addr} (e : h.get? a = none) : H a = none := by
  cases q : H a with
  | none => rfl
  | some u =>
    have z := (x a u q).there
    rw [e] at z
    obtain ⟨o, z⟩ := z
    cases z
theorem qs_raise {C : Addr} {a : Expr} (hc : X.calm = true) (hC : PySem.W.excIn X.K C VE "ValueError.__new__" = true) (G : X.mg x = some (.ref C)) (ha : QA X [a] t) (hx : Raises X E) (hex : X.ex = []) (hg : Gl X x := by rfl) (hdb : (x == ("__debug__" : Str)) = false := by decide)
    (he : starEach [a] X.env = [(false, eval a X.env)] := by rfl) : QS X (.Raise (some (.Call (.Name x np) [a] [] cpos)) none pos) (fun D σ H => t σ H fun vs H1 => vs.length ≤ sizeLine ∧ E (.ref C) none H1) := by
  refine ⟨fun pins s σ H D I h => ?_⟩
  obtain ⟨bm, N, nm, q, bs, hdct, sn, sub, ab, col, dd, k0, k1, k2, k3, k5, mN, cni, cl⟩ := exc_in I.kIn hC
  obtain ⟨cC, cN, cT⟩ := cl _ I.kIn
  refine wpAny_Raise_call_subU (C := C) (nm := nm) (q := q) (N := N) (bs := bs) (bm := bm) (hdct := hdct) (sn := sn) (sub := sub) (ab := ab) (col := col) (dd := dd) (k0 := k0) (k1 := k1) (k2 := k2) (k3 := k3) (k5 := k5)
    PySem.F.excBase_ValueError (by decide) PySem.F.excBase_ValueError (mN := mN) (cT.hasType PySem.F.excBase_ValueError.hasBase) (I.ok.hd hc) (by rw [he]; rfl) cni (ld_glob I hg G ⟨rfl, ?_⟩ hdb)
  rw [he]
  have ar := ha.run cpos pins s σ H _ I h
  rw [he] at ar
  refine Calls.evalArgs_plain (wpAny_mono ar (fun us s2 h2 => ?_) fun _ _ y => y)
  obtain ⟨vs, H1, I1, r1, z, q1⟩ := h2
  obtain ⟨cC', cN', cT'⟩ := cl _ I1.kIn
  refine ⟨rfl, by rw [← r1.length]; exact z, cC', cN', cT', fun h' a' hm => ?_⟩
  obtain ⟨t', e1, _, _⟩ := hm.there
  have I2 : Inv X pins σ H1 { s2 with heap := h' } := I1.kept (t' := s2.toks) hm.keeps
  exact hx pins σ H1 _ a' (.ref C) none I2 ⟨_, _, e1, rfl, rfl, rfl, rfl⟩ (I1.old hex hm.new) (I1.hok.no hm.new) q1
end
end L2

set_option Elab.async false
set_option linter.all false
set_option maxRecDepth 100000
set_option maxHeartbeats 4000000
namespace L2
open PySem PySem.Spec PyProof.Rows
def exk (a : Addr) (cls : Value) (od : Option Addr) : HO := .ext fun h => ∃ o vs, h.get? a = some o ∧ o.cls = cls ∧ o.dict = od ∧ o.data = .fields vs
theorem exk_ok {P : Program} {w : World} {H : Hp} {h : Heap} {a T : Addr} {cls : Value} {od : Option Addr} (x : Lies h a T cls od) : ObjOk P w H h a (exk a cls od) := by
  obtain ⟨oe, vs, oT, ts, a1, a2, a3, a4, a5, a6, a7, a8, a9⟩ := x
  refine ⟨⟨oe, vs, a1, a2, a3, a4⟩, ⟨oe, a1⟩, fun h1 h2 q k => ?_⟩
  obtain ⟨o, vs, q1, q2⟩ := q
  exact ⟨o, vs, k o q1, q2⟩
theorem Un.land {fs xs : List Addr} {H H' : Hp} {h h1 h2 : Heap} {e : Addr} {o : HO} (u : Un fs [] H H' h h1) (m : Mvd fs xs h1 h2) (hx : ∀ b ∈ xs, h.get? b = none) (he : h.get? e = none) (hn : H' e = none) : Un fs [] H (upd H' e o) h h2 := by
  have low : ∀ b ob, h.get? b = some ob → b ∉ xs := fun b ob q z => by rw [hx b z] at q; cases q
  have ne : ∀ b ob, h.get? b = some ob → b ≠ e := fun b ob q z => by rw [z, he] at q; cases q
  have ne' : ∀ b ob, H' b = some ob → b ≠ e := fun b ob q z => by rw [z, hn] at q; cases q
  refine ⟨fun b ob q n hf _ => m.keep b ob (low b ob q) hf (u.keep b ob q n hf (by simp)), fun b ob q n hf _ => ?_, fun b ob q n _ => ?_, fun b ob q _ => ?_, fun b ys q => ?_, fun b ob v q => ?_, fun b ps q => ?_⟩
  · obtain ⟨sl, e1⟩ := u.slot b ob q n hf (by simp)
    obtain ⟨sl', e2⟩ := m.slot b _ (low b ob q) e1
    exact ⟨sl', e2⟩
  · rw [upd_ne (ne b ob q)]; exact u.free b ob q n (by simp)
  · obtain ⟨o', e1⟩ := u.there b ob q (by simp)
    obtain ⟨sl, e2⟩ := m.slot b o' (low b ob q) e1
    exact ⟨_, e2⟩
  · have z := u.tups b ys q
    rw [upd_ne (ne' b _ z)]; exact z
  · have z := u.frzs b ob v q
    rw [upd_ne (ne' b _ z)]; exact z
  · obtain ⟨more, z⟩ := u.tbls b ps q
    exact ⟨more, by rw [upd_ne (ne' b _ z)]; exact z⟩
theorem HOk.land {P : Program} {w : World} {fs xs : List Addr} {H : Hp} {h1 h2 : Heap} {e : Addr} {o : HO} (x : HOk P w H h1) (m : Mvd fs xs h1 h2) (hx : ∀ b ∈ xs, H b = none) (hf : ∀ b ∈ fs, H b = none) (hn : H e = none) (new : ObjOk P w (upd H e o) h2 e o) : HOk P w (upd H e o) h2 := by
  intro b u q
  by_cases hb : b = e
  · subst hb
    rw [upd_same] at q
    cases q
    exact new
  · rw [upd_ne hb] at q
    have tr : ∀ c v, H c = some v → c ∉ xs ∧ c ∉ fs := fun c v q => ⟨(fun z => by rw [hx c z] at q; cases q), (fun z => by rw [hf c z] at q; cases q)⟩
    have ne' : ∀ b ob, H b = some ob → b ≠ e := fun b ob q z => by rw [z, hn] at q; cases q
    refine (x b u q).stay (fun c v hc z => ?_) (fun c z => by rw [upd_ne (ne' c _ z)]; exact z) fun c ys z => by rw [upd_ne (ne' c _ z)]; exact z
    rcases hc with r | r
    · rw [r] at z ⊢
      exact m.keep b v (tr b u q).1 (tr b u q).2 z
    · exact m.keep c v (tr c _ r).1 (tr c _ r).2 z
abbrev TX := St → Hp → VK → XK → Prop
abbrev TXS := Ends → (St → XK) → St → Hp → Prop
def XP (X : Cx) (pins : List (Addr × Obj)) (σ : St) (E : XK) (ev : Value) (s' : Shared) : Prop := ∃ H0 s0, Inv X pins σ H0 s0 ∧ CXR X.prog X.w X.stack H0 s0 E ev s'
structure QX (X : Cx) (e : Expr) (t : TX) : Prop where
  run : ∀ (pins : List (Addr × Obj)) (s : Shared) (σ : St) (H : Hp) (Q : VK) (E : XK), Inv X pins σ H s → t σ H Q E → wpAny (model X.prog X.w) X.A (eval e X.env) (EP X pins σ Q) (XP X pins σ E) s
structure QXS (X : Cx) (sts : List Stmt) (t : TXS) : Prop where
  run : ∀ (pins : List (Addr × Obj)) (s : Shared) (σ : St) (H : Hp) (D : Ends) (E : St → XK), Inv X pins σ H s → t D E σ H → wpAny (model X.prog X.w) X.A (execs sts X.env) (SP X pins D) (fun ev s' => ∃ σ', XP X pins σ' (E σ') ev s') s
abbrev Cx.to (X : Cx) (A : Around) (c : Bool) (XE : Value → Shared → Prop) : Cx := { X with A := A, calm := c, xe := XE }
section
variable {X : Cx} {pins : List (Addr × Obj)} {σ : St} {H : Hp} {s : Shared}
theorem Inv.to (I : Inv X pins σ H s) {A : Around} {c : Bool} {XE : Value → Shared → Prop} (hA : A.frames = X.A.frames) (hc : c = true → A.handled = none) : Inv (X.to A c XE) pins σ H s :=
  ⟨⟨I.ok.mod, I.ok.kind, I.ok.glob, I.ok.blt, I.ok.above, I.ok.inj, I.ok.has, I.ok.cab, hc, hA.trans I.ok.frames, I.ok.stk, I.ok.exf, I.ok.bs, I.ok.bsz, I.ok.noex, I.ok.exfs, I.ok.funs, I.ok.frf⟩, I.os, I.bare, I.base, I.loc, I.cell, I.free, I.freeC, I.pin, I.hok, I.len⟩
theorem Inv.back {A : Around} {c : Bool} {XE : Value → Shared → Prop} (I : Inv (X.to A c XE) pins σ H s) (ok : X.Ok) : Inv X pins σ H s :=
  ⟨ok, I.os, I.bare, I.base, I.loc, I.cell, I.free, I.freeC, I.pin, I.hok, I.len⟩
end
section
variable {X : Cx} {k : Nat} {x : Str} {ps : List Str} {sp : Sp} {p pos np cpos : Pos} {e : Expr} {es : List Expr} {t : TA}
theorem qx_fn (C : CalleeX X.prog X.w X.K X.mg X.base k x ps sp) (hr : Room k X.A) (ha : ∀ XE, QA (X.to X.A X.calm XE) (e :: es) t) (hg : Gl X x := by rfl) (hdb : (x == ("__debug__" : Str)) = false := by decide)
    (he : starEach (e :: es) X.env = (false, eval e X.env) :: starEach es X.env := by rfl) (hpl : (backTo pos (starEach es X.env)).any (·.1) = false := by rfl) : QX X (.Call (.Name x p) (e :: es) [] pos) (fun σ H Q E => t σ H fun vs H1 => sp vs H1 Q E) := by
  obtain ⟨f, fd, F, hm, hk, hb⟩ := C.ex
  refine ⟨fun pins s σ H Q E I h => ?_⟩
  refine wpAny_Call_Name_kw (ld_glob I hg hm ?_ hdb)
  refine PySem.W.callWith_K (h₀ := X.base) I.ok.mod.kin hk (thn ((ha (XP X pins σ E)).run pos pins s σ H _ (I.to rfl I.ok.hd) h) fun us s1 ⟨vs, H1, I1, r, q⟩ => ⟨(I1.back I.ok).kIn, ?_⟩) he hpl
  have I1 := I1.back I.ok
  have hl : us.length = ps.length := by rw [← r.length]; exact F.len _ _ _ _ q
  have hb' := hb s1 us I1.kIn (by simpa using hl)
  rw [List.append_nil] at hb'
  refine wpAny_call (codeAny_mono (F.run X.A X.stack s1 H1 ⟨us, []⟩ us vs Q E hr I1.env0 hb' r q) fun r s' hq => ?_)
  cases r with
  | error e => exact ⟨H1, s1, I1, hq⟩
  | ok fl =>
    cases fl with
    | ret u => exact I1.after hq
    | next => exact False.elim hq
    | brk => exact False.elim hq
    | cont => exact False.elim hq
theorem qxs_set {i : Nat} {t : TX} {pos' : Pos} (hN : X.N.Nodup) (hi : X.N[i]? = some x) (hx : Loc X.env.scope x) (he : QX X e t) (hs : swapsWith e (some (.Name x pos')) pos.line X.env = pure false := by rfl) (hf : X.fn x = true ∨ X.env.scope.names.lookup x = some .local := by first | exact .inl rfl | exact .inr rfl | assumption) :
    QXS X [.Assign [.Name x pos'] e pos] (fun D E σ H => t σ H (fun v H1 => D.nx (σ.set i (some v)) H1) (E σ)) := by
  refine ⟨fun pins s σ H D E I h => ?_⟩
  refine wpAny_execs_cons (wpAny_mono (wpAny_Assign_Name (Q := SP X pins D) (thn (he.run pins s σ H _ (E σ) I h) fun v s1 ⟨y, H1, I1, r1, q1⟩ => store_ok I1 hN hi hx r1 (fun s2 I2 => ⟨_, H1, I2, q1⟩) hf) hs) (fun f s1 q => ?_) fun ev s1 q => ⟨σ, q⟩)
  cases f with
  | next => exact wpAny_execs_nil q
  | ret v => exact q
  | brk => exact q
  | cont => exact q
end
end L2

set_option Elab.async false
set_option linter.all false
set_option maxRecDepth 100000
set_option maxHeartbeats 4000000
namespace L2
open PySem PySem.Spec PyProof.Rows
structure ExcC (K : PySem.W.Frag) (C : Addr) : Prop where
  ty : PySem.W.typeIn K (.ref C) = some (.type "type")
  cl : (PySem.W.clsIn K C).isSome = true
  bs : PySem.W.subIn K (.ref C) (.type "BaseException") = some true
theorem looks_isType {K : PySem.W.Frag} {M : Model} {h : Heap} {C : Addr} (X : K.In h) (e : (PySem.W.clsIn K C).isSome = true) : PySem.W.Looks M h (isType (.ref C)) true := by
  unfold PySem.W.clsIn at e
  split at e
  · rename_i c' d' cd' sl' ho
    intro A' Q' E' s' k q
    unfold isType loadHead
    exact wpAny_bind (wpAny_loadPart (k _ _ (X _ _ ho)) (wpAny_pure q))
  · cases e
theorem exc_matches {K : PySem.W.Frag} {M : Model} {A : Around} {E : Value → Shared → Prop} {s : Shared} {Q : Bool → Shared → Prop} {e C C' : Addr} {oe : Obj} (X : K.In s.heap) (c : ExcC K C) (he : s.heap.get? e = some oe) (hcls : oe.cls = .ref C') (hs : PySem.W.subIn K (.ref C') (.ref C) = some true) (h : Q true s) :
    wpAny M A (excMatches (.ref e) (.ref C)) Q E s := by
  have L1 : PySem.W.Looks M s.heap (typeOf (.ref C)) (.type "type") := PySem.W.looks_typeIn X c.ty
  have L2 : PySem.W.Looks M s.heap (isType (.ref C)) true := looks_isType X c.cl
  have L3 := PySem.W.looks_subIn (M := M) X c.bs
  have L4 : PySem.W.Looks M s.heap (typeOf (.ref e)) (.ref C') := by
    intro A' Q' E' s' k q
    unfold typeOf
    exact wpAny_bind (wpAny_loadPart (k _ _ he) (wpAny_pure (by rw [hcls]; exact q)))
  have L5 := PySem.W.looks_subIn (M := M) X hs
  have f := tc_notTuple
  unfold excMatches
  unfold isInstance isExcClass
  repeat (first | with_reducible refine L1.here ?_ | with_reducible refine L2.here ?_ | with_reducible refine L3.here ?_ | with_reducible refine L4.here ?_ | with_reducible refine L5.here ?_ | wp_step)
  exact h
section
variable {X : Cx} {pins : List (Addr × Obj)} {σ : St} {H : Hp} {s : Shared}
theorem goes_ok {M : Model} {A : Around} {E : Value → Shared → Prop} {i : Nat} {n : Str} {hpos : Pos} {Q : Unit → Shared → Prop} (I : Inv X pins σ H s) (hN : X.N.Nodup) (hi : X.N[i]? = some n) (hk : X.env.scope.names.lookup n = some .local)
    (h : ∀ s', Inv X pins (σ.set i none) H s' → Q () s') : wpAny M A (do bindName X.env n .none; unbindBehindTheSuite X.env n hpos) Q E s := by
  obtain ⟨m, hn, hl⟩ := id I.loc
  have hcls : (X.env.scope.kind == .class || (X.env.scope.kind == .module && X.env.locals != X.env.globals)) = false := by rw [I.ok.kind]; rfl
  have cne := I.cne
  obtain ⟨oL, _, _, hoL, _⟩ := id hn
  refine wpAny_nameGoes_keeps hk hn hcls fun h' v hn' hs => ?_
  have hok : HOk X.prog X.w H h' := fun b ob e => by
    refine (I.hok b ob e).stay (fun c w' hc q => (hs.2 c ?_).trans q) (fun _ q => q) fun _ _ q => q
    rintro rfl
    rcases hc with rfl | hc
    · rw [I.free] at e; cases e
    · rw [I.free] at hc; cases hc
  refine h _ ⟨I.ok, I.os, I.bare, ⟨fun b o e n hb hx => ?_, fun b o e n hb hx => ?_, I.base.free, fun b o e hx => ?_, I.base.tups, I.base.frzs, I.base.tbls⟩, ⟨_, hn', fun j y v' e1 e2 e3 => ?_⟩, fun y c e => ?_, I.free, I.freeC, fun p hp => ?_, hok, by simpa using I.len⟩
  · exact (hs.2 b (Nat.ne_of_lt (Nat.lt_of_lt_of_le (Heap.lt_size e) I.ok.above))).trans (I.base.keep b o e n hb hx)
  · obtain ⟨sl, e1⟩ := I.base.slot b o e n hb hx
    exact ⟨sl, (hs.2 b (Nat.ne_of_lt (Nat.lt_of_lt_of_le (Heap.lt_size e) I.ok.above))).trans e1⟩
  · obtain ⟨o', e1⟩ := I.base.there b o e hx
    exact ⟨o', (hs.2 b (Nat.ne_of_lt (Nat.lt_of_lt_of_le (Heap.lt_size e) I.ok.above))).trans e1⟩
  · by_cases hj : j = i
    · subst hj
      have hiσ : j < σ.length := by rw [I.len]; exact (List.getElem?_eq_some_iff.mp hi).1
      rw [List.getElem?_set_self hiσ] at e2
      cases e2
    · rw [List.getElem?_set_ne (Ne.symm hj)] at e2
      obtain ⟨u', r', q⟩ := hl j y v' e1 e2 e3
      refine ⟨u', r', ?_⟩
      rcases q with ⟨k, e⟩ | ⟨k, c, e, z⟩
      · refine .inl ⟨k, ?_⟩
        have : y ≠ n := fun e => hj (nodup_ix hN e1 (e ▸ hi))
        simp [this, e]
      · exact .inr ⟨k, c, e, z.sameBut hs (cne y c e)⟩
  · obtain ⟨w', z⟩ := I.cell y c e
    exact ⟨w', z.sameBut hs (cne y c e)⟩
  · obtain ⟨e, n, ne, nf, d⟩ := I.pin p hp
    exact ⟨(hs.2 p.1 ne).trans e, n, ne, nf, d⟩
end
section
variable {X : Cx} {c n : Str} {np hpos pos : Pos} {body hbody : List Stmt} {b₀ : Stmt} {tb : TXS} {th : TS} {i : Nat} {C : Addr}
def Ends.gone (D : Ends) (i : Nat) : Ends := { nx := fun σ H => D.nx (σ.set i none) H, rt := D.rt, bk := fun σ H => D.bk (σ.set i none) H, ct := fun σ H => D.ct (σ.set i none) H }
def tTry (K : PySem.W.Frag) (C : Addr) (i : Nat) (tb : TXS) (th : TS) : TS := fun D σ H => tb D (fun σ1 cls od H2 => (∃ C', cls = .ref C' ∧ PySem.W.subIn K (.ref C') (.ref C) = some true) ∧ ∀ a, H2 a = none → th (D.gone i) (σ1.set i (some (.ref a))) (upd H2 a (exk a cls od))) σ H
theorem qs_tryM (hN : X.N.Nodup) (hi : X.N[i]? = some n) (hk : X.env.scope.names.lookup n = some .local) (hC : ExcC X.K C) (G : X.mg c = some (.ref C)) (hf : X.env.frame = some X.env.locals) (hst : X.stack = X.env :: X.outer) (hb : QXS X body tb) (hh : ∀ e XE, QSs (X.to (X.A.mark (some e)) false XE) (b₀ :: hbody) th) (hg : Gl X c := by rfl) (hdb : (c == ("__debug__" : Str)) = false := by decide) :
    QS X (.Try body [.ExceptHandler (some (.Name c np)) (some n) (b₀ :: hbody) hpos] [] [] pos) (tTry X.K C i tb th) := by
  refine ⟨fun pins s σ H D I h => ?_⟩
  refine wpAny_Try_except (wpAny_mono (hb.run pins s σ H D _ I h) (fun f s1 q => ?_) fun ev s1 q => ?_)
  · cases f with
    | next => exact wpAny_execs_nil q
    | ret v => exact q
    | brk => exact q
    | cont => exact q
  · obtain ⟨σ1, H0, s0, I0, e, T, cls, od, H', rfl, h1, h2, h3, h4, h5, h6, h7, h8, h9, ⟨C', rfl, hsub⟩, h10⟩ := q
    have J : Inv X pins σ1 H' s1 := I0.call' (ch := []) h1 h3 h4 h2 (fun b z => absurd z (by simp))
    have hfr : X.A.frames = some (X.env :: X.outer) := by rw [← hst]; exact J.ok.frames
    have hstk := J.stack
    rw [hst] at hstk
    refine note_next (base := X.base) hfr hstk hf h9 fun h' T' hT' y m => flight_none (fs := frs (X.env :: X.outer)) y fun h'' y' m' => ?_
    have M1 : Mvd (frs X.stack) [e, T, T'] s1.heap h'' := by rw [hst]; exact (m.mono (by simp)).trans (m'.mono (by simp))
    have fT' : s0.heap.get? T' = none := by
      cases q : s0.heap.get? T' with
      | none => rfl
      | some o =>
        obtain ⟨o', z⟩ := h3.there T' o q (by simp)
        exact absurd (Heap.lt_size z) (Nat.not_lt.mpr hT')
    have hT'n : H' T' = none := J.hok.fresh hT'
    have fx : ∀ b ∈ [e, T, T'], s0.heap.get? b = none ∧ H' b = none := by
      intro b hb
      simp only [List.mem_cons, List.not_mem_nil, or_false] at hb
      rcases hb with rfl | rfl | rfl
      · exact ⟨h5, h7⟩
      · exact ⟨h6, h8⟩
      · exact ⟨fT', hT'n⟩
    have land : ∀ {h3' : Heap}, Mvd (frs X.stack) [e, T, T'] s1.heap h3' → Lies h3' e T' (.ref C') od → Inv X pins σ1 (upd H' e (exk e (.ref C') od)) { s1 with heap := h3' } := fun {h3'} mm ll =>
      I0.call' (s' := { s1 with heap := h3' }) (ch := []) h1 (h3.land mm (fun b hb => (fx b hb).1) h5 h7) (h4.land mm (fun b hb => (fx b hb).2) (fun b hb => J.stkFree b hb) h7 (exk_ok ll)) h2 (fun b z => absurd z (by simp))
    have I1 := land M1 y'
    refine wpAny_handleBy_cons (codeAny_handlers_test ?_) (by intro q; cases q)
    have I1' : Inv (X.to (X.A.mark (some (.ref e))) false (notedBy (model X.prog X.w) (X.A.mark (some (.ref e))) X.env fun x s₁ => True)) pins σ1 (upd H' e (exk e (.ref C') od)) { s1 with heap := h'' } := I1.to rfl (by simp)
    refine ld_glob I1' hg G ?_ hdb
    obtain ⟨oe, vs, oT, ts, a1, a2, a3, a4, a5, a6, a7, a8, a9⟩ := id y'
    refine exc_matches I1.kIn hC a1 a2 hsub ?_
    refine codeAny_handlers_suite_as (flight_none (fs := frs X.stack) y' fun h4' y4 m4 => ?_)
    have I2 := land (M1.trans (m4.mono (by simp))) y4
    refine store_ok (v := .ref e) I2 hN hi (.inl hk) rfl (fun s3 I3 => ?_) (.inr hk)
    refine wpAny_mono ((hh (.ref e) _).run pins s3 _ _ (D.gone i) (I3.to rfl (by simp)) (h10 e h7)) (fun f s4 q => ?_) fun ev s4 q => q
    cases f with
    | next =>
      obtain ⟨σ', H4, I4, q⟩ := q
      exact goes_ok (I4.back I.ok) hN hi hk fun s5 I5 => ⟨_, H4, I5, q⟩
    | ret v =>
      obtain ⟨u, σ', H4, I4, r, q⟩ := q
      exact goes_ok (I4.back I.ok) hN hi hk fun s5 I5 => ⟨u, _, H4, I5, r, q⟩
    | brk =>
      obtain ⟨σ', H4, I4, q⟩ := q
      exact goes_ok (I4.back I.ok) hN hi hk fun s5 I5 => ⟨_, H4, I5, q⟩
    | cont =>
      obtain ⟨σ', H4, I4, q⟩ := q
      exact goes_ok (I4.back I.ok) hN hi hk fun s5 I5 => ⟨_, H4, I5, q⟩
end
end L2

set_option Elab.async false
set_option linter.all false
set_option maxRecDepth 100000
set_option maxHeartbeats 4000000
namespace L2
open PySem PySem.Spec PyProof.Rows
def overVE : List Value → Bool
  | .ref _ :: r => overVE r
  | l => l == VE
theorem over_has : ∀ {l : List Value}, overVE l = true → l.contains (.type "object") = true ∧ l.contains (.type "BaseException") = true := by
  intro l
  induction l with
  | nil => intro e; cases e
  | cons c r ih =>
    intro e
    cases c with
    | ref a => obtain ⟨x, y⟩ := ih e; exact ⟨by rw [List.contains_cons, x, Bool.or_true], by rw [List.contains_cons, y, Bool.or_true]⟩
    | _ => rw [beq_iff_eq.mp (show (_ == _) = true from e)]; decide
structure ExC (K : PySem.W.Frag) (C : Addr) : Prop where
  ov : ((PySem.W.clsIn K C).any fun cd => overVE cd.mro) = true
  hd : PySem.W.hasDictIn K C = true
  ga : PySem.W.findIn K (.ref C) "__getattribute__" = some (some (.builtin "BaseException.__getattribute__"))
  gt : PySem.W.findIn K (.ref C) "__getattr__" = some none
  sa : PySem.W.findIn K (.ref C) "__setattr__" = some (some (.builtin "object.__setattr__"))
  dc : PySem.W.typeIn K (.ref C) = some (.type "type")
section
open PySem.W PySem.Builtin PySem.Builtin.ObjectAttr
variable {prog : Program} {w : World} {A : Around} {E : Value → Shared → Prop} {s : Shared} {K : Frag} {x C : Addr} {ox : Obj} {od : Option Obj} {name : Str} {R : Result → Shared → Prop}
end
end L2

set_option Elab.async false
set_option linter.all false
set_option maxRecDepth 100000
set_option maxHeartbeats 4000000
namespace L2
open PySem PySem.Spec PyProof.Rows
theorem exk_at {P : Program} {w : World} {H : Hp} {h : Heap} {a : Addr} {cls : Value} {od : Option Addr} (x : ObjOk P w H h a (exk a cls od)) : ∃ o vs, h.get? a = some o ∧ o.cls = cls ∧ o.dict = od ∧ o.data = .fields vs := x.1
def del (H : Hp) (a : Addr) : Hp := fun b => if b = a then none else H b
theorem del_same {H : Hp} {a : Addr} : del H a a = none := by unfold del; rw [if_pos rfl]
theorem del_ne {H : Hp} {a b : Addr} (h : b ≠ a) : del H a b = H b := by unfold del; rw [if_neg h]
section
variable {X : Cx} {pins : List (Addr × Obj)} {σ : St} {H : Hp} {s : Shared}
theorem Inv.del {a : Addr} {φ : Heap → Prop} (I : Inv X pins σ H s) (h0 : X.s₀.heap.get? a = none) (e : H a = some (.ext φ)) : Inv X pins σ (L2.del H a) s := by
  have fr : ∀ b, H b = none → L2.del H a b = none := fun b q => by
    unfold L2.del; split
    · rfl
    · exact q
  have st : ∀ b o, H b = some o → (∀ φ, o ≠ .ext φ) → L2.del H a b = some o := fun b o q n => by
    rw [del_ne fun z => by rw [z, e] at q; cases q; exact n φ rfl]
    exact q
  refine ⟨I.ok, I.os, I.bare, ⟨I.base.keep, I.base.slot, fun b o q n hx => fr b (I.base.free b o q n hx), I.base.there, fun b xs q => st b _ (I.base.tups b xs q) (by intro φ z; cases z), fun b o u q => st b _ (I.base.frzs b o u q) (by intro φ z; cases z), fun b ps q => ?_⟩, I.loc, I.cell, fr _ I.free, fun x c q => fr _ (I.freeC x c q), fun p hp => ?_, fun b o q => ?_, I.len⟩
  · obtain ⟨more, z⟩ := I.base.tbls b ps q
    exact ⟨more, st b _ z (by intro φ z; cases z)⟩
  · obtain ⟨q1, q2, q3⟩ := I.pin p hp
    exact ⟨q1, fr _ q2, q3⟩
  · have hb : b ≠ a := fun z => by rw [z, del_same] at q; cases q
    rw [del_ne hb] at q
    exact (I.hok b o q).stay (fun _ _ _ z => z) (fun c z => st c _ z (by intro φ z; cases z)) fun c xs z => st c _ z (by intro φ z; cases z)
end
section
variable {X : Cx} {pins : List (Addr × Obj)} {σ : St} {H : Hp} {s : Shared} {a C : Addr} {f : Str} {A : Around} {E : Value → Shared → Prop}
open PySem.W PySem.Builtin PySem.Builtin.ObjectAttr
end
section
variable {X : Cx} {o e value : Expr} {f : Str} {pos pos' : Pos} {ta tv : TE}
end
section
open PySem.W
end
end L2

set_option Elab.async false
set_option linter.all false
set_option maxRecDepth 100000
set_option maxHeartbeats 4000000
namespace L2
open PySem PySem.Spec PyProof.Rows
def excI (K : PySem.W.Frag) (C : Addr) : Bool := match K.lookup C with
  | some ⟨.type "type", _, .cls cd, sl⟩ => (match cd.mro, sl.toList with
    | .ref C' :: bm, [_, _, _, _, some (.builtin n), _] => C' == C && n == "ValueError.__new__" && !cd.hasDel && PySem.W.tailIn K VE bm
    | _, _ => false)
  | _ => false
section
variable {prog : Program} {w : World} {A : Around} {E : Value → Shared → Prop} {h : Heap} {g : Array GenState} {d : Drawn} {t : Nat} {os : OsState}
variable {nm q : Str} {C N : Addr} {bs bm bmB : List Value} {hdct : Bool} {sn : List Str} {sub : List Value} {ab : Bool} {col : Option Bool} {dd : Option Addr} {k0 k1 k2 k3 k5 : Option Value} {B Bn newId nid initId inN : String} {bmN : List Value}
end
section
variable {X : Cx} {k : Nat} {x : Str} {sp : Sp} {ps : List Str} {C f : Addr} {fd : FuncData} {np cpos pos : Pos} {a : Expr} {t : TA} {E : XK}
structure Rz (K : PySem.W.Frag) (C f : Addr) : Prop where
  ei : excI K C = true
  init : PySem.W.findIn K (.ref C) "__init__" = some (some (.ref f))
  fn : PySem.W.isFn K (.ref f) = true
  kp : PySem.W.keepIn K (.ref C) = true
  bs : PySem.W.subIn K (.ref C) (.type "BaseException") = some true
  ty : PySem.W.typeIn K (.ref C) = some (.type "type")
end
end L2

set_option Elab.async false
set_option linter.all false
namespace L2
open PySem PySem.Spec PyProof.Rows
end L2

set_option Elab.async false
set_option linter.all false
set_option maxRecDepth 100000
set_option maxHeartbeats 4000000
namespace L2
open PySem PySem.Spec PyProof.Rows
structure RoomN (k : Nat) (A : Around) : Prop where
  dp : A.depth + 3 * k + 5 < recursionLimit
  un : A.units + 16 * k + 200 < cLine
theorem Room.n {k : Nat} {A : Around} (r : Room k A) : RoomN k A := ⟨r.dp, r.un⟩
theorem RoomN.mono {j k : Nat} {A : Around} (r : RoomN k A) (h : j ≤ k) : RoomN j A := ⟨by have := r.dp; omega, by have := r.un; omega⟩
theorem RoomN.deeper {k : Nat} {A : Around} (r : RoomN (k + 1) A) (env : Env) : RoomN k (A.deeper env) :=
  ⟨by have := r.dp; show A.depth + 1 + 3 * k + 5 < _; omega, by have := r.un; show A.units + 3 + 16 * k + 200 < _; omega⟩
theorem RoomN.mark {k : Nat} {A : Around} (r : RoomN k A) (e : Value) : RoomN k (A.mark (some e)) := ⟨r.dp, r.un⟩
structure FnOkN (P : Program) (w : World) (K : PySem.W.Frag) (mg : Str → Option Value) (base : Heap) (k : Nat) (f : Addr) (fd : FuncData) (ps : List Str) (sp : Sp) : Prop where
  len : ∀ vs H Q E, sp vs H Q E → vs.length = ps.length
  run : ∀ (A : Around) (outer : List Env) (s : Shared) (H : Hp) (args : Args) (us : List Value) (vs : List V) (Q : VK) (E : XK), RoomN k A → Env0 P w K mg base A outer s H → BindsTo s fd args (ps.zip us) → Vals vs us → sp vs H Q E →
    codeAny (model P w) A (.call (.ref f) args) (CR CX0 outer P w H s Q E) s
theorem FnOkN.fn {P : Program} {w : World} {K : PySem.W.Frag} {mg : Str → Option Value} {base : Heap} {k : Nat} {f : Addr} {fd : FuncData} {ps : List Str} {sp : Sp} (F : FnOkN P w K mg base k f fd ps sp) : FnOk P w K mg base CX0 k f fd ps sp :=
  ⟨F.len, fun A outer s H args us vs Q E hr => F.run A outer s H args us vs Q E hr.n⟩
section
variable {P : Program} {w : World} {K : PySem.W.Frag} {mg : Str → Option Value} {base : Heap}
theorem fn_ofN {k : Nat} {f : Addr} {name qual : Str} {params : Arguments} {body : List Stmt} {scope : Scope} {dV kV doc pm cdv ct oc : Value} {an od : Option Addr}
    {osl : Array (Option Value)} {N ps : List Str} {sp : Sp} (lk : K.lookup f = some ⟨oc, od, .func (PySem.W.fnOf name qual params body scope dV kV doc pm an cdv ct), osl⟩) (hcd : PySem.W.codeIn K cdv qual = true) (S : FnScope N ps scope)
    (len : ∀ vs H Q E, sp vs H Q E → vs.length = ps.length)
    (hbody : ∀ (A : Around) (outer : List Env) (s : Shared) (H : Hp) (vs : List V) (Q : VK) (E : XK), RoomN k (A.deeper (envOfC qual scope s.heap.objs.size f cdv)) → sp vs H Q E →
      ∃ t, PSs ((cxOf CX0 P w K mg base N qual scope f cdv A outer s H E).to (A.deeper (envOfC qual scope s.heap.objs.size f cdv)) false (fun _ _ => False)) body t ∧ t { nx := fun _ H' => Q .non H', rt := Q } (start N vs) H) :
    FnOkN P w K mg base (k + 1) f (PySem.W.fnOf name qual params body scope dV kV doc pm an cdv ct) ps sp := by
  refine ⟨len, fun A outer s H args us vs Q E hr e0 hb r hsp => ?_⟩
  have hl := len _ _ _ _ hsp
  have KX : K.In s.heap := e0.mod.kin.keeps fun b o e => (e0.bs b o e).1
  have lim : s.heap.NoLimit := e0.mod.nolimit.keeps fun b o e => (e0.bs b o e).1
  have hkind : ∀ y ∈ ps.zip us, scope.names.lookup y.1 = some .local ∨ (scope.names.lookup y.1 = some .cell ∧ ((cellsFrom (s.heap.objs.size + 1) scope.names []).lookup y.1).isSome = true) := fun ⟨n, v⟩ hy => by
    rcases S.par n (List.of_mem_zip hy).1 with q | q
    · exact .inl q
    · exact .inr ⟨q, PySem.W.cellsFrom_some _ _ _ (.inl q)⟩
  refine codeAny_call_function (by have := hr.dp; omega) (KX _ _ lk) rfl S.co S.gen rfl (PySem.W.codeRec_of KX hcd) (hb _ _ _ _ ?_)
  refine wpAny_newFunctionEnv_cells S.kind hkind fun env he s1 x => ?_
  subst he
  refine ⟨lim.keeps x.toInCall.keep, codeAny_func ?_⟩
  obtain ⟨t, ht, hq⟩ := hbody A outer s H vs Q E (hr.deeper _) hsp
  have e0' : Env0 P w K mg base { A with handled := none } outer s H := ⟨e0.frames, e0.mod, e0.bs, e0.bsz, e0.funs, e0.frf, e0.hok, e0.bare⟩
  have I0 : Inv (cxOf CX0 P w K mg base N qual scope f cdv { A with handled := none } outer s H E) [] (start N vs) H s1 := inv_start S rfl e0' hl r x
  have I : Inv ((cxOf CX0 P w K mg base N qual scope f cdv A outer s H E).to (A.deeper (envOfC qual scope s.heap.objs.size f cdv)) false (fun _ _ => False)) [] (start N vs) H s1 := I0.to (A := A.deeper (envOfC qual scope s.heap.objs.size f cdv)) (c := false) (XE := fun _ _ => False) rfl (by simp)
  refine wpAny_mono (ht [] s1 (start N vs) H _ I hq) (fun fl s' hs => ?_) fun e s' hs => False.elim hs
  have fin : ∀ {σ' : St} {H' : Hp} {v : V} {u : Value}, Inv ((cxOf CX0 P w K mg base N qual scope f cdv A outer s H E).to (A.deeper (envOfC qual scope s.heap.objs.size f cdv)) false (fun _ _ => False)) [] σ' H' s' → RelV v u → Q v H' → CE outer P w H s Q u s' :=
    fun {σ' H' v u} J rv q => ⟨v, H', J.os, J.bare, J.base, J.hok, rv, q⟩
  cases fl with
  | ret u =>
    obtain ⟨v, σ', H', J, rv, q⟩ := hs
    exact fin J rv q
  | next =>
    obtain ⟨σ', H', J, q⟩ := hs
    exact fin (v := V.non) (u := Value.none) J rfl q
  | brk =>
    obtain ⟨_, _, _, q⟩ := hs
    exact False.elim q
  | cont =>
    obtain ⟨_, _, _, q⟩ := hs
    exact False.elim q
theorem Fun.okN {x qual : Str} {st : Stmt} {f : Addr} {fd : FuncData} {N ps : List Str} {k : Nat} {sp : Sp} (F : Fun K x qual st f fd) (S : FnScope N ps (defScope st)) (len : ∀ vs H Q E, sp vs H Q E → vs.length = ps.length)
    (hbody : ∀ (cdv : Value) (A : Around) (outer : List Env) (s : Shared) (H : Hp) (vs : List V) (Q : VK) (E : XK), RoomN k (A.deeper (envOfC qual (defScope st) s.heap.objs.size f cdv)) → sp vs H Q E →
      ∃ t, QSs ((cxOf CX0 P w K mg base N qual (defScope st) f cdv A outer s H E).to (A.deeper (envOfC qual (defScope st) s.heap.objs.size f cdv)) false (fun _ _ => False)) (defBody st) t ∧ t { nx := fun _ H' => Q .non H', rt := Q } (start N vs) H) : FnOkN P w K mg base (k + 1) f fd ps sp := by
  obtain ⟨oc, od, kV, doc, pm, an, cdv, ct, osl, rfl, lk, hcd⟩ := F.ex
  refine fn_ofN lk hcd S len fun A outer s H vs Q E hr hsp => ?_
  obtain ⟨t, h, q⟩ := hbody cdv A outer s H vs Q E hr hsp
  exact ⟨t, h.run, q⟩
structure CalleeN (P : Program) (w : World) (K : PySem.W.Frag) (mg : Str → Option Value) (base : Heap) (k : Nat) (x : Str) (ps : List Str) (sp : Sp) : Prop where
  ex : ∃ (f : Addr) (fd : FuncData), FnOkN P w K mg base k f fd ps sp ∧ mg x = some (.ref f) ∧ PySem.W.keepIn K (.ref f) = true ∧ Binds K fd ps []
theorem calleen_of {k : Nat} {x : Str} {ps : List Str} {sp : Sp} {f : Addr} {fd : FuncData} (F : FnOkN P w K mg base k f fd ps sp) (m : mg x = some (.ref f)) (kp : PySem.W.keepIn K (.ref f) = true) (b : Binds K fd ps []) : CalleeN P w K mg base k x ps sp := ⟨f, fd, F, m, kp, b⟩
end
section
variable {X : Cx} {k : Nat} {x : Str} {ps : List Str} {sp : Sp} {p pos : Pos} {e : Expr} {es : List Expr} {t : TA}
theorem qe_fnN (C : CalleeN X.prog X.w X.K X.mg X.base k x ps sp) (hr : RoomN k X.A) (ha : QA X (e :: es) t) (hg : Gl X x := by rfl) (hdb : (x == ("__debug__" : Str)) = false := by decide)
    (he : starEach (e :: es) X.env = (false, eval e X.env) :: starEach es X.env := by rfl) (hpl : (backTo pos (starEach es X.env)).any (·.1) = false := by rfl) : QE X (.Call (.Name x p) (e :: es) [] pos) (tCall sp [] E0 t) := by
  obtain ⟨f, fd, F, hm, hk, hb⟩ := C.ex
  refine ⟨fun pins s σ H Q I h => ?_⟩
  refine wpAny_Call_Name_kw (ld_glob I hg hm ?_ hdb)
  refine PySem.W.callWith_K (h₀ := X.base) I.ok.mod.kin hk (thn (ha.run pos pins s σ H _ I h) fun us s1 ⟨vs, H1, I1, r, q⟩ => ⟨I1.kIn, ?_⟩) he hpl
  have q : sp (vs ++ []) H1 Q E0 := q
  rw [List.append_nil] at q
  have hl : us.length = ps.length := by rw [← r.length]; exact F.len _ _ _ _ q
  have hb' := hb s1 us I1.kIn (by simpa using hl)
  rw [List.append_nil] at hb'
  refine wpAny_call (codeAny_mono (F.run X.A X.stack s1 H1 ⟨us, []⟩ us vs Q _ hr I1.env0 hb' r q) fun r s' hq => ?_)
  cases r with
  | error e => exact False.elim hq
  | ok fl =>
    cases fl with
    | ret u => exact I1.after hq
    | next => exact False.elim hq
    | brk => exact False.elim hq
    | cont => exact False.elim hq
end
end L2

set_option Elab.async false
set_option linter.all false
set_option maxRecDepth 100000
set_option maxHeartbeats 4000000
namespace L2
open PySem PySem.Spec PyProof.Rows
structure ExN (K : PySem.W.Frag) (D : Addr) : Prop extends ExC K D where
  ca : PySem.W.findIn K (.ref D) "__class__" = some (some (.builtin "object.__class__"))
  cg : PySem.W.specialIn K (.builtin "object.__class__") "__get__" = some (some (.builtin "getset_descriptor.__get__"))
  ct : PySem.W.takesIn K (.builtin "object.__class__") = some true
section
open PySem.W PySem.Builtin PySem.Builtin.ObjectAttr
variable {prog : Program} {w : World} {A : Around} {E : Value → Shared → Prop} {s : Shared} {K : Frag} {x D : Addr} {ox : Obj} {od : Option Obj}
theorem exc_class {Q : Option Value → Shared → Prop} (X : K.In s.heap) (I : PySem.W.InstAt s.heap x ox D od) (c : ExN K D) (h : Q (some (.ref D)) { s with toks := s.toks + 1 }) : wpAny (model prog w) A (getAttr? (.ref x) "__class__") Q E s := by
  obtain ⟨cd, hc, ho⟩ := any_some c.ov
  have ne : cd.mro.isEmpty = false := by cases q : cd.mro with | nil => rw [q] at ho; cases ho | cons _ _ => rfl
  have hf : findObj K D od "__class__" = some (.bind (.builtin "getset_descriptor.__get__") (.builtin "object.__class__")) := by
    unfold findObj
    rw [hc, Option.bind_some, c.ca, Option.bind_some]
    dsimp only
    rw [c.cg, Option.bind_some]
    dsimp only
    rw [c.ct]
    rfl
  have hm : mroIn K D (.type "object") = some true := by unfold mroIn; rw [hc, Option.bind_some, if_neg (by rw [ne]; decide), (over_has ho).1]
  obtain ⟨hp, g, d, t, os⟩ := s
  have L0 := I.type (M := model prog w)
  have L1 := looks_findIn (M := model prog w) X c.ga
  have L2 := looks_findIn (M := model prog w) X c.gt
  have L3 := looks_find (M := model prog w) X I hf
  have L4 : Looks (model prog w) hp (isInstance (.ref x) (.type "BaseException")) true := I.type.andThen (looks_mroIn X (by unfold mroIn; rw [hc, Option.bind_some, if_neg (by rw [ne]; decide), (over_has ho).2]))
  have f3 := PySem.F.attr_ValueError.ga.bind (.ref x)
  have hx2 : (Value.builtin "BaseException.__getattribute__" == Value.builtin "object.__getattribute__") = false := by decide +kernel
  have hx1 : (onTheHeap (Value.ref D) && Value.builtin "BaseException.__getattribute__" == Value.builtin "object.__getattribute__") = false := by rw [hx2]; rfl
  have hk : builtinKind "BaseException.__getattribute__" = some .slot := by decide +kernel
  have hsplit : splitId "BaseException.__getattribute__" = some ("BaseException", "__getattribute__") := by decide +kernel
  unfold getAttr? getAttrBy? getAttrBy
  refine wpAny_bind (wpAny_mkText (wpAny_bind (wpAny_attempt (wpAny_holding (wpAny_bind (L0.at (wpAny_bind (L1.at ?_))))))))
  dsimp only
  rw [hx1]
  simp only [Bool.false_eq_true, if_false]
  unfold getAttrByItsOwn hookBefore callGetattribute
  rw [if_pos (show onTheHeap (Value.ref D) = true from rfl)]
  refine wpAny_bind (L2.at ?_)
  simp only [Bool.false_and, Bool.false_eq_true, if_false]
  unfold boundAndCalled
  rw [f3]
  refine wpAny_bind (wpAny_attempt (wpAny_holding (wpAny_bind (wpAny_pure (wpAny_call (codeAny_call_builtin PySem.F.attr_ValueError.ga.plain PySem.F.entry_bexc_ga (@check_slot (model prog w) _ _ ⟨hp, g, d, t + 1, os⟩ "BaseException.__getattribute__" "BaseException" "__getattribute__" (.ref x) [.str "__class__" t] [] _ hk hsplit L4 (PySem.F.args_bexc_ga (.ref x) (.str "__class__" t)) ?_)))))))
  show wpAny _ _ (Builtin.«object.__getattribute__» ⟨[.ref x, .str "__class__" t], []⟩) _ _ _
  refine wpAny_bind (wpAny_pure (wpAny_bind (wpAny_pure (wpAny_bind (L0.at (wpAny_bind (L3.at ?_)))))))
  show wpAny _ _ (holding [.builtin "object.__class__"] (call (.builtin "getset_descriptor.__get__") [.builtin "object.__class__", .ref x, .ref D]) >>= ret) _ _ _
  refine wpAny_bind (wpAny_holding (wpAny_call (class_get (s := ⟨hp, g, d, t + 1, os⟩) (ox := ox) (od := od) X I hm (wpAny_pure ?_))))
  show wpAny _ _ (handedOut (.ref D)) _ _ _
  rw [handedOut_of rfl]
  exact wpAny_pure (wpAny_pure h)
theorem kitx_exc (c : ExN K D) : KitX K (.ref x) (.ref D) (fun h => PySem.W.InstAt h x ox D od) where
  ty := fun _ _ _ I => I.type
  it := fun _ _ X _ => by
    obtain ⟨cd, hc, _⟩ := any_some c.ov
    exact looks_isType X (by rw [hc]; rfl)
  ne := fun h tp dd its n sl X htp => by
    obtain ⟨cdD, hcD, _⟩ := any_some c.ov
    refine Bool.eq_false_iff.mpr fun q => ?_
    have e : D = tp := Value.ref.inj (beq_iff_eq.mp q)
    subst e
    unfold clsIn at hcD
    split at hcD
    · rename_i c' d' cd' sl' ho
      have z := (X _ _ ho).symm.trans htp
      cases z
    · cases hcD
  ca := fun X I k => exc_class X I c k
end
def rIsY (K : PySem.W.Frag) : List V → Hp → VK → Prop := fun xs H Q => ∃ a C C' od b, xs = [.ref a, .ref C] ∧ H a = some (exk a (.ref C') od) ∧ (∀ d, od = some d → ∃ fs, H d = some (.xd fs)) ∧ ExN K C' ∧ PySem.W.kitOne K (.ref C') (.ref C) = some b ∧ Q (.bl b) H
def rIsYT (K : PySem.W.Frag) (T : String) : List V → Hp → VK → Prop := fun xs H Q => ∃ a C' od b, xs = [.ref a, .ty T] ∧ H a = some (exk a (.ref C') od) ∧ (∀ d, od = some d → ∃ fs, H d = some (.xd fs)) ∧ ExN K C' ∧ PySem.W.kitOne K (.ref C') (.type T) = some b ∧ Q (.bl b) H
section
variable {X : Cx} {pins : List (Addr × Obj)} {σ : St} {H : Hp} {s : Shared} {a C' : Addr} {od : Option Addr}
theorem exk_inst (I : Inv X pins σ H s) (ea : H a = some (exk a (.ref C') od)) (hd : ∀ d, od = some d → ∃ fs, H d = some (.xd fs)) : ∃ ox oo, PySem.W.InstAt s.heap a ox C' oo := by
  obtain ⟨oe, vs, a1, a2, a3, a4⟩ := exk_at (I.hok a _ ea)
  cases od with
  | none => exact ⟨oe, none, a1, a2, by unfold PySem.W.notCls; rw [a4], by rw [a3]; trivial⟩
  | some d =>
    obtain ⟨fs, ed⟩ := hd d rfl
    obtain ⟨mA, nA, r⟩ := I.hok d _ ed
    obtain ⟨oD, hoD, hl⟩ := lookIn_ns nA
    exact ⟨oe, some oD, a1, a2, by unfold PySem.W.notCls; rw [a4], by rw [a3]; exact hoD⟩
theorem k_isY {K : PySem.W.Frag} (hK : X.K = K := by rfl) : CallR X (.builtin "isinstance") (rIsY K) := by
  subst hK
  intro pins s σ H xs us Q I r h
  obtain ⟨a, C, C', od, b, rfl, ea, hd, c, e, q⟩ := h
  obtain ⟨u, v, rfl, ru, rv⟩ := r.two
  obtain rfl : u = Value.ref a := ru
  obtain rfl : v = Value.ref C := rv
  obtain ⟨ox, oo, J⟩ := exk_inst I ea hd
  exact PySem.W.kia_one (kitx_exc (ox := ox) (od := oo) c) I.kIn J e (fun z => nomatch z) fun tk => ⟨.bl b, H, I.tok tk, rfl, q⟩
theorem k_isYT {K : PySem.W.Frag} (T : String) (hK : X.K = K := by rfl) : CallR X (.builtin "isinstance") (rIsYT K T) := by
  subst hK
  intro pins s σ H xs us Q I r h
  obtain ⟨a, C', od, b, rfl, ea, hd, c, e, q⟩ := h
  obtain ⟨u, v, rfl, ru, rv⟩ := r.two
  obtain rfl : u = Value.ref a := ru
  obtain rfl : v = Value.type T := rv
  obtain ⟨ox, oo, J⟩ := exk_inst I ea hd
  exact PySem.W.kia_one (kitx_exc (ox := ox) (od := oo) c) I.kIn J e (fun z => nomatch z) fun tk => ⟨.bl b, H, I.tok tk, rfl, q⟩
end
end L2

set_option Elab.async false
set_option linter.all false
set_option maxRecDepth 100000
set_option maxHeartbeats 4000000
namespace L2
open PySem PySem.Spec PyProof.Rows
section
variable {X : Cx}
end
end L2

set_option Elab.async false
set_option linter.all false
set_option maxRecDepth 100000
set_option maxHeartbeats 4000000
namespace L2
open PySem
inductive DOk : Dt → Prop where
  | flat (v : V) : DOk (.flat v)
  | tup {ds : List Dt} (l : ds.length ≤ 5000) (h : ∀ d ∈ ds, DOk d) : DOk (.tup ds)
  | lst {ds : List Dt} (l : ds.length ≤ 5000) (h : ∀ d ∈ ds, DOk d) : DOk (.lst ds)
def SameA (A : Addr → Prop) (H H' : Hp) : Prop := SameT H H' ∧ ∀ b xs, ¬ A b → H b = some (.lst xs) → H' b = some (.lst xs)
theorem Same.a {A : Addr → Prop} {H H' : Hp} (e : Same H H') : SameA A H H' := ⟨e.t, fun b xs _ h => e b _ h⟩
theorem SameA.refl (A : Addr → Prop) (H : Hp) : SameA A H H := ⟨SameT.refl _, fun _ _ _ h => h⟩
theorem SameA.trans {A : Addr → Prop} {H H1 H2 : Hp} (a : SameA A H H1) (b : SameA A H1 H2) : SameA A H H2 := ⟨a.1.trans b.1, fun c xs n h => b.2 c xs n (a.2 c xs n h)⟩
theorem SameA.set {A : Addr → Prop} {H : Hp} {S : Addr} {zs : List V} {o : HO} (h : H S = some (.lst zs)) (hA : A S) : SameA A H (upd H S o) := ⟨SameT.set h, fun b xs n e => by rw [upd_ne (fun z => n (by rw [z]; exact hA))]; exact e⟩
theorem SameA.mono {A B : Addr → Prop} {H H' : Hp} (e : SameA A H H') (h : ∀ b, A b → B b) : SameA B H H' := ⟨e.1, fun b xs n => e.2 b xs fun a => n (h b a)⟩
def ThAt (K : PySem.W.Frag) (H : Hp) (v : V) (x : Str × V) : Prop := flatV x.2 = true ∧ ∃ a, v = .ref a ∧ SqT K H a [.str x.1, x.2]
theorem ThAt.same {K : PySem.W.Frag} {H H' : Hp} (e : SameT H H') (v : V) (x : Str × V) (h : ThAt K H v x) : ThAt K H' v x := by
  obtain ⟨f, a, r, q⟩ := h
  exact ⟨f, a, r, e.tup q⟩
def PrAt (K : PySem.W.Frag) (H : Hp) (v : V) (x : Str × Str × V) : Prop := ∃ (a : Addr) (u : V), v = .ref a ∧ SqT K H a [.str x.1, u] ∧ ThAt K H u x.2
theorem PrAt.same {K : PySem.W.Frag} {H H' : Hp} (e : SameT H H') (v : V) (x : Str × Str × V) (h : PrAt K H v x) : PrAt K H' v x := by
  obtain ⟨a, u, r, q, t⟩ := h
  exact ⟨a, u, r, e.tup q, t.same e⟩
structure Rx where
  wd : Str
  pl : List Int
  ops : List (Str × V)
  ar : List (Str × Str × V)
def RwAt (K : PySem.W.Frag) (A : Addr → Prop) (H : Hp) (v : V) (x : Rx) : Prop := ∃ (a p o e : Addr) (ov ev : List V), v = .ref a ∧ SqT K H a [.str x.wd, .ref p, .ref o, .ref e] ∧ SqT K H p (x.pl.map V.int) ∧ H o = some (.lst ov) ∧ Al (ThAt K H) ov x.ops ∧ H e = some (.lst ev) ∧ Al (PrAt K H) ev x.ar ∧ ¬ A o ∧ ¬ A e
theorem RwAt.same {K : PySem.W.Frag} {A : Addr → Prop} {H H' : Hp} (s : SameA A H H') (v : V) (x : Rx) (h : RwAt K A H v x) : RwAt K A H' v x := by
  obtain ⟨a, p, o, e, ov, ev, h1, h2, h3, h4, h5, h6, h7, h8, h9⟩ := h
  exact ⟨a, p, o, e, ov, ev, h1, s.1.tup h2, s.1.tup h3, s.2 _ _ h8 h4, h5.mono (ThAt.same s.1), s.2 _ _ h9 h6, h7.mono (PrAt.same s.1), h8, h9⟩
theorem RwAt.mono {K : PySem.W.Frag} {A B : Addr → Prop} {H : Hp} (s : ∀ b, B b → H b ≠ none → A b) (v : V) (x : Rx) (h : RwAt K A H v x) : RwAt K B H v x := by
  obtain ⟨a, p, o, e, ov, ev, h1, h2, h3, h4, h5, h6, h7, h8, h9⟩ := h
  exact ⟨a, p, o, e, ov, ev, h1, h2, h3, h4, h5, h6, h7, fun b => h8 (s o b (by rw [h4]; simp)), fun b => h9 (s e b (by rw [h6]; simp))⟩
def thD (x : Str × V) : Dt := .tup [.flat (.str x.1), .flat x.2]
def prD (x : Str × Str × V) : Dt := .tup [.flat (.str x.1), thD x.2]
def rzD (x : Rx) : Dt := .tup [.flat (.str x.wd), .tup (x.pl.map fun i => .flat (.int i)), .lst (x.ops.map thD), .lst (x.ar.map prD)]
theorem ThAt.d {K : PySem.W.Frag} {H : Hp} {v : V} {x : Str × V} (h : ThAt K H v x) : IsD K H 1 v (thD x) := by
  obtain ⟨f, a, rfl, q⟩ := h
  refine .tup q rfl fun j v d h1 h2 => ?_
  match j, h1, h2 with
  | 0, h1, h2 => cases h1; cases h2; exact .flat rfl
  | 1, h1, h2 => cases h1; cases h2; exact .flat f
theorem PrAt.d {K : PySem.W.Frag} {H : Hp} {v : V} {x : Str × Str × V} (h : PrAt K H v x) : IsD K H 2 v (prD x) := by
  obtain ⟨a, u, rfl, q, t⟩ := h
  refine .tup q rfl fun j v d h1 h2 => ?_
  match j, h1, h2 with
  | 0, h1, h2 => cases h1; cases h2; exact .flat rfl
  | 1, h1, h2 => cases h1; cases h2; exact t.d
theorem Al.lstD {K : PySem.W.Frag} {H : Hp} {α : Type} {R : V → α → Prop} {g : α → Dt} {n : Nat} {a : Addr} {vs : List V} {xs : List α} (al : Al R vs xs) (e : SqL K H a vs) (h : ∀ v x, R v x → IsD K H n v (g x)) : IsD K H (n + 1) (.ref a) (.lst (xs.map g)) := by
  refine .lst e (by rw [List.length_map]; exact al.1) fun j v d h1 h2 => ?_
  rw [List.getElem?_map] at h2
  obtain ⟨r, hr, rfl⟩ := Option.map_eq_some_iff.mp h2
  exact h v r (al.2 j v r h1 hr)
theorem intsT {K : PySem.W.Frag} {H : Hp} {n : Nat} {p : Addr} {pl : List Int} (q : SqT K H p (pl.map V.int)) : IsD K H (n + 1) (.ref p) (.tup (pl.map fun i => .flat (.int i))) := by
  refine .tup q (by simp) fun j v d h1 h2 => ?_
  rw [List.getElem?_map] at h1 h2
  obtain ⟨k, hk, rfl⟩ := Option.map_eq_some_iff.mp h1
  rw [hk] at h2
  cases h2
  exact .flat rfl
theorem RwAt.d {K : PySem.W.Frag} {A : Addr → Prop} {H : Hp} {v : V} {x : Rx} (h : RwAt K A H v x) : IsD K H 4 v (rzD x) := by
  obtain ⟨a, p, o, e, ov, ev, rfl, h2, h3, h4, h5, h6, h7, _, _⟩ := h
  refine .tup h2 rfl fun j v d f1 f2 => ?_
  match j, f1, f2 with
  | 0, h1, h2 => cases h1; cases h2; exact .flat rfl
  | 1, h1, h2 => cases h1; cases h2; exact intsT h3
  | 2, h1, h2 => cases h1; cases h2; exact (h5.lstD (g := thD) (SqL.of h4) fun _ _ t => t.d).up (by omega)
  | 3, h1, h2 => cases h1; cases h2; exact h7.lstD (g := prD) (SqL.of h6) fun _ _ t => t.d
structure Rx.Ok (x : Rx) : Prop where
  pl : x.pl.length ≤ 5000
  ops : x.ops.length ≤ 5000
  ar : x.ar.length ≤ 5000
section
variable {g : TG} {tt : TT} {te : TE} {σ0 : St} {H1 : Hp} {D : Addr} {Q : VK}
end
end L2

set_option Elab.async false
set_option linter.all false
set_option maxRecDepth 100000
set_option maxHeartbeats 4000000
namespace L2
open PySem PySem.Spec PyProof.Rows
section
variable {X : Cx}
end
end L2

set_option Elab.async false
set_option linter.all false
set_option maxRecDepth 100000
set_option maxHeartbeats 4000000
namespace L2
open PySem PySem.Spec PyProof.Rows
section
variable {prog : Program} {w : World} {A : Around} {E : Value → Shared → Prop} {s : Shared}
end
section
variable {X : Cx}
end
section
variable {g : TG} {tt : TT} {te : TE} {σ0 : St} {H1 : Hp} {D : Addr} {Q : VK}
end
end L2

set_option Elab.async false
set_option linter.all false
set_option maxRecDepth 100000
set_option maxHeartbeats 4000000
namespace L2
open PySem PySem.Spec PyProof.Rows
theorem via {t : TS} {X : St → Hp → Prop} {rt : VK} {bk ct : St → Hp → Prop} {σ : St} {H : Hp} (R : Hp → Prop) (h2 : ∀ H', R H' → X σ H') (h1 : ∀ Y : St → Hp → Prop, (∀ H', R H' → Y σ H') → t ⟨Y, rt, bk, ct⟩ σ H) : t ⟨X, rt, bk, ct⟩ σ H := h1 X h2
section
variable {X : Cx}
end
theorem noFill_tuple_mul : fillsNumberSlot (.type "tuple") "mul" = pure false :=
  PySem.fillsNumberSlot_seq (id := "tuple.__mul__") (r := some (.builtin "tuple.__rmul__")) PySem.F.slot_tuple_mul.lookup (by decide +kernel) PySem.F.slot_tuple_rmul.lookup (by decide +kernel)
theorem repeat_tuple : seqRepeat? (.type "tuple") = pure (some (.builtin "tuple.__mul__")) := by
  unfold seqRepeat?
  rw [PySem.seqSlot_of (T := "tuple") (name := "__mul__") (id := "tuple.__mul__") PySem.F.slot_tuple_mul.lookup (by decide +kernel), PySem.seqSlot_of (T := "tuple") (name := "__rmul__") (id := "tuple.__rmul__") PySem.F.slot_tuple_rmul.lookup (by decide +kernel)]
  rfl
theorem int_rmul_tup (a : Int) (t : Tok) (l : Addr) (items : Array Value) (n : Nat) (dd : Option Addr) (sl : Array (Option Value)) :
    Meets (Builtin.«int.__rmul__» ⟨[.int a t, .ref l], []⟩) (fun _ R s => s.heap.get? l = some { cls := .type "tuple", dict := dd, data := .seq items n, slots := sl } ∧ R (.ok (.ret Value.notImplemented)) s) :=
  .of_wp fun prog w A R s h => by obtain ⟨hp, g, d, tk, os⟩ := s; obtain ⟨hl, h⟩ := h; wp_walk; exact ⟨_, rfl, h⟩
theorem tmul_one (l : Addr) (items : Array Value) (n : Nat) (dd : Option Addr) (sl : Array (Option Value)) (u : Tok) :
    Meets (Builtin.«tuple.__mul__» ⟨[.ref l, .int 1 u], []⟩) (fun _ R s => s.heap.get? l = some { cls := .type "tuple", dict := dd, data := .seq items n, slots := sl } ∧ R (.ok (.ret (.ref l))) s) :=
  .of_wp fun prog w A R s h => by obtain ⟨hp, g, d, tk, os⟩ := s; obtain ⟨hl, h⟩ := h; wp_walk; exact ⟨_, rfl, h⟩
theorem tmul_zero (l : Addr) (items : Array Value) (n : Nat) (dd : Option Addr) (sl : Array (Option Value)) (u : Tok) (hne : ¬ items.isEmpty = true) :
    Meets (Builtin.«tuple.__mul__» ⟨[.ref l, .int 0 u], []⟩) (fun _ R s => s.heap.get? l = some { cls := .type "tuple", dict := dd, data := .seq items n, slots := sl } ∧ R (.ok (.ret (.ref s.heap.objs.size))) { s with heap := s.heap.push { cls := .type "tuple", data := .seq #[] } }) :=
  .of_wp fun prog w A R s h => by obtain ⟨hp, g, d, tk, os⟩ := s; obtain ⟨hl, h⟩ := h; wp_walk; exact ⟨_, rfl, h⟩
end L2

set_option Elab.async false
set_option linter.all false
set_option maxRecDepth 100000
set_option maxHeartbeats 4000000
namespace L2
open PySem PySem.Spec PyProof.Rows
theorem tmul_many (l : Addr) (items : Array Value) (n : Nat) (dd : Option Addr) (sl : Array (Option Value)) (u : Tok) (x : Int) (h2 : 2 ≤ x) (hx : x < 2 ^ 62) (hne : items.isEmpty = false) (hz : (items.size : Int) * x ≤ 1000) (hs : ¬ ((List.replicate x.toNat items).foldl (· ++ ·) #[]).size > sizeLine) :
    Meets (Builtin.«tuple.__mul__» ⟨[.ref l, .int x u], []⟩) (fun _ R s => s.heap.get? l = some { cls := .type "tuple", dict := dd, data := .seq items n, slots := sl } ∧ R (.ok (.ret (.ref s.heap.objs.size))) { s with heap := s.heap.push { cls := .type "tuple", data := .seq ((List.replicate x.toNat items).foldl (· ++ ·) #[]) } }) :=
  .of_wp fun prog w A R s h => by
    obtain ⟨hp, g, d, tk, os⟩ := s; obtain ⟨hl, h⟩ := h
    have c0 : (decide (x < -2 ^ 63) || decide (x ≥ 2 ^ 63)) = false := by
      have a : ¬ x < -2 ^ 63 := by omega
      have b : ¬ x ≥ 2 ^ 63 := by omega
      rw [decide_eq_false a, decide_eq_false b]; rfl
    have c1 : (items.isEmpty || x == 1) = false := by
      have b : ¬ x = 1 := by omega
      rw [hne]
      simp [b]
    have c2 : (decide (x ≤ 0) || items.isEmpty) = false := by
      have b : ¬ x ≤ 0 := by omega
      rw [hne, decide_eq_false b]; rfl
    have c3 : ¬ ((items.size : Int) * x > (2 ^ 63 - 1) / 8) := by omega
    have c4 : Builtin.Tuple.tupleTooMany ((items.size : Int) * x) = false := by
      unfold Builtin.Tuple.tupleTooMany
      have : (100000 : Nat) ≤ sizeLine := by decide
      exact decide_eq_false (by omega)
    wp_walk
    refine wpAny_ite_false (by rw [c0]; rfl) ?_
    wp_walk
    refine wpAny_ite_false (by rw [c1]; rfl) ?_
    wp_walk
    refine wpAny_ite_false (by rw [c2]; rfl) ?_
    wp_walk
    refine wpAny_ite_false (decide_eq_false c3) ?_
    wp_walk
    exact ⟨_, rfl, h⟩
section
variable {X : Cx}
def rMulT (K : PySem.W.Frag) : R2 := fun x y H Q => ∃ l k xs, x = .ref l ∧ y = .int k ∧ SqT K H l xs ∧ xs ≠ [] ∧ 0 ≤ k ∧ k < 2 ^ 62 ∧ (xs.length : Int) * k ≤ 1000 ∧ ∀ r H', Same H H' → SqT K H' r (List.replicate k.toNat xs).flatten → Q (.ref r) H'
theorem k_mulT (K : PySem.W.Frag) (hK : X.K = K := by rfl) : OpR X (binaryOp .Mult) (rMulT K) := by
  subst hK
  intro pins s σ H x y v u Q I rx ry h
  obtain ⟨l, k, xs, rfl, rfl, hH, hne, h0, h1, hz, q⟩ := h
  cases rx
  obtain ⟨t, rfl⟩ := ry
  obtain ⟨its, r, p, _⟩ := I.tuple hH
  have hl := r.length
  obtain ⟨⟨cls, dd, data, sl⟩, e, hc, n, hd⟩ := id p
  simp only at hc hd
  subst hc hd
  have hz' : (its.toArray.size : Int) * k ≤ 1000 := by rw [List.size_toArray, ← hl]; exact hz
  have hem : its.toArray.isEmpty = false := by
    cases its with
    | nil => cases xs with | nil => exact absurd rfl hne | cons a b => simp at hl
    | cons a b => simp
  have go : ∀ Q' : Value → Shared → Prop, wpAny (model X.prog X.w) X.A (call (.builtin "tuple.__mul__") [.ref l, .int k t]) Q' X.xe s → wpAny (model X.prog X.w) X.A (binaryOp .Mult (.ref l) (.int k t)) Q' X.xe s := fun Q' hh =>
    wpAny_binaryOp_repeat_ref (T := "tuple") (U := "int") (by decide) ⟨_, e, rfl⟩ (fun s' => typeIs_int s' k t) noFill_tuple_mul PySem.F.fills_int_mul PySem.F.slot_int_rmul repeat_tuple PySem.F.slot_int_index.lookup
      (call_meets PySem.F.slot_int_rmul (typeIs_int s k t) PySem.F.entry_int_rmul (PySem.F.args_int_rmul_2 _ _) (int_rmul_tup k t l its.toArray n dd sl) ⟨e, rfl, ⟨_, e, rfl⟩, hh⟩)
  by_cases k1 : k = 1
  · subst k1
    refine go _ (call_meets PySem.F.slot_tuple_mul ⟨_, e, rfl⟩ PySem.F.entry_tuple_mul (PySem.F.args_tuple_mul_2 _ _) (tmul_one l its.toArray n dd sl t) ⟨e, ?_⟩)
    exact ⟨.ref l, H, I, rfl, q l H (Same.refl _) (by show SqT X.K H l (List.replicate 1 xs).flatten; simpa using hH)⟩
  by_cases k0 : k = 0
  · subst k0
    refine go _ (call_meets PySem.F.slot_tuple_mul ⟨_, e, rfl⟩ PySem.F.entry_tuple_mul (PySem.F.args_tuple_mul_2 _ _) (tmul_zero l its.toArray n dd sl t (by rw [hem]; exact Bool.false_ne_true)) ⟨e, ?_⟩)
    refine ⟨.ref _, _, I.laid (t' := s.toks) (o := .tup []) (fun b ob q => Heap.get?_push_of_some _ q) (Nat.le_refl _) ⟨by show 0 ≤ sizeLine; decide, [], .nil, ⟨_, Heap.get?_push_size _ rfl, rfl, _, rfl⟩⟩, rfl, q _ _ (Same.upd I.fresh) (SqT.of upd_same)⟩
  · have hnew : List.foldl (fun x1 x2 => x1 ++ x2) #[] (List.replicate k.toNat its.toArray) = (List.replicate k.toNat its).flatten.toArray := by
      have := foldl_rep its k.toNat []
      rw [List.nil_append] at this
      exact this
    have hlen : (List.replicate k.toNat xs).flatten.length ≤ sizeLine := by
      rw [len_rep]
      have : (100000 : Nat) ≤ sizeLine := by decide
      have e : ((k.toNat * xs.length : Nat) : Int) = (xs.length : Int) * k := by rw [Int.natCast_mul, Int.toNat_of_nonneg h0, Int.mul_comm]
      omega
    have hs : ¬ ((List.replicate k.toNat its.toArray).foldl (· ++ ·) #[]).size > sizeLine := by
      have h' : List.foldl (fun x1 x2 => x1 ++ x2) #[] (List.replicate k.toNat its.toArray) = (List.replicate k.toNat its).flatten.toArray := hnew
      rw [h', List.size_toArray, len_rep, ← hl]
      rw [len_rep] at hlen
      omega
    refine go _ (call_meets PySem.F.slot_tuple_mul ⟨_, e, rfl⟩ PySem.F.entry_tuple_mul (PySem.F.args_tuple_mul_2 _ _) (tmul_many l its.toArray n dd sl t k (by omega) h1 hem hz' hs) ⟨e, ?_⟩)
    rw [hnew]
    exact ⟨.ref _, _, I.laid (t' := s.toks) (o := .tup (List.replicate k.toNat xs).flatten) (fun b ob q => Heap.get?_push_of_some _ q) (Nat.le_refl _) ⟨hlen, _, r.rep k.toNat, ⟨_, Heap.get?_push_size _ rfl, rfl, _, rfl⟩⟩, rfl, q _ _ (Same.upd I.fresh) (SqT.of upd_same)⟩
theorem s_mulT {K : PySem.W.Frag} {l : Addr} {k : Int} {xs : List V} {H : Hp} {Q : VK} (hq : SqT K H l xs) (hne : xs ≠ []) (h0 : 0 ≤ k) (h1 : k < 2 ^ 62) (hz : (xs.length : Int) * k ≤ 1000) (h : ∀ r H', Same H H' → SqT K H' r (List.replicate k.toNat xs).flatten → Q (.ref r) H') : rMulT K (.ref l) (.int k) H Q := ⟨l, k, xs, rfl, rfl, hq, hne, h0, h1, hz, h⟩
end
end L2

set_option Elab.async false
set_option linter.all false
set_option maxRecDepth 100000
set_option maxHeartbeats 4000000
namespace L2
open PySem PySem.Spec PyProof.Rows
theorem dict_eq_declines_str (l : Addr) (es : Array DictEntry) (n : Nat) (dd : Option Addr) (sl : Array (Option Value)) (b : Str) (u : Tok) :
    Meets (Builtin.«dict.__eq__» ⟨[.ref l, .str b u], []⟩) (fun _ R s => s.heap.get? l = some { cls := .type "dict", dict := dd, data := .dict es n, slots := sl } ∧ R (.ok (.ret .notImplemented)) s) :=
  .of_wp fun prog w A R s h => by obtain ⟨hp, g, d, tk, os⟩ := s; obtain ⟨hl, h⟩ := h; have f1 := PySem.F.sub_str_dict; wp_walk; exact ⟨_, rfl, h⟩
theorem str_eq_declines_dict (l : Addr) (es : Array DictEntry) (n : Nat) (dd : Option Addr) (sl : Array (Option Value)) (b : Str) (u : Tok) :
    Meets (Builtin.«str.__eq__» ⟨[.str b u, .ref l], []⟩) (fun _ R s => s.heap.get? l = some { cls := .type "dict", dict := dd, data := .dict es n, slots := sl } ∧ R (.ok (.ret .notImplemented)) s) :=
  .of_wp fun prog w A R s h => by obtain ⟨hp, g, d, tk, os⟩ := s; obtain ⟨hl, h⟩ := h; wp_walk; exact ⟨_, rfl, h⟩
theorem rc_dict_str {A : Around} {s : Shared} {l : Addr} {es : Array DictEntry} {n : Nat} {dd : Option Addr} {sl : Array (Option Value)} (b : Str) (u : Tok) (ho : s.heap.get? l = some { cls := .type "dict", dict := dd, data := .dict es n, slots := sl }) (hu : A.units < cLine) : SeqAt.RcAt A s (.ref l) (.str b u) false := fun prog w E Q h => by
  exact SeqAt.rc_eq_decline_or (k := false) ⟨_, ho, rfl⟩ (typeIs_str s b u) (by decide) PySem.F.sub_str_dict PySem.F.slot_dict_eq PySem.F.slot_str_eq_refl
    (fun _ hq => call_meets PySem.F.slot_dict_eq ⟨_, ho, rfl⟩ PySem.F.entry_dict_eq (PySem.F.args_dict_eq_2 _ _) (dict_eq_declines_str l es n dd sl b u) ⟨ho, hq⟩)
    (fun _ hq => call_meets PySem.F.slot_str_eq_refl (typeIs_str s b u) PySem.F.entry_str_eq (PySem.F.args_str_eq_2 _ _) (str_eq_declines_dict l es n dd sl b u) ⟨ho, hq⟩)
    (fun _ hq => wpAny_of_eq (rfl : isSame (.ref l) (.str b u) = pure false) hq) (.inr hu) h
section
variable {X : Cx}
def rEqS (K : PySem.W.Frag) : R2 := fun x y H Q => ∃ (a : Addr) (z : Str), x = .ref a ∧ y = .str z ∧ ((∃ xs, SqL K H a xs) ∨ (∃ xs, SqT K H a xs) ∨ ∃ kvs, H a = some (.dK kvs)) ∧ Q (.bl false) H
theorem op_eqS (hu : X.A.units + 200 < cLine) : OpR X (compareOp .Eq) (rEqS X.K) := by
  intro pins s σ H x y v u Q I rx ry h
  obtain ⟨a, z, rfl, rfl, hk, q⟩ := h
  cases rx
  obtain ⟨t, rfl⟩ := ry
  rcases hk with ⟨xs, hx⟩ | ⟨xs, hx⟩ | ⟨kvs, hx⟩
  · obtain ⟨its, r, p, _⟩ := I.list hx
    exact SeqAt.RcAt.list_str z t p.isList (by omega) X.prog X.w _ _ ⟨.bl false, H, I, rfl, q⟩
  · obtain ⟨its, r, p, _⟩ := I.tuple hx
    exact SeqAt.RcAt.tuple_str z t (show s.heap.IsTuple a its.toArray from p) (by omega) X.prog X.w _ _ ⟨.bl false, H, I, rfl, q⟩
  · obtain ⟨_, _, vs, _, d⟩ := I.hok a _ hx
    obtain ⟨⟨cls, dd, data, sl⟩, ho, es, n, ex, hd, _⟩ := Heap.dictOf_iff.mp d
    obtain ⟨hc, _⟩ := ex
    simp only at hc hd
    subst hc hd
    exact rc_dict_str z t ho (by omega) X.prog X.w _ _ ⟨.bl false, H, I, rfl, q⟩
def rEqT (K : PySem.W.Frag) : R2 := fun x y H Q => rEqA K x y H Q ∨ rEqS K x y H Q
theorem k_eqT (K : PySem.W.Frag) (hu : X.A.units + 200 < cLine) (hK : X.K = K := by rfl) : OpR X (compareOp .Eq) (rEqT K) := by subst hK; exact (op_eqA hu).or (op_eqS hu)
theorem s_eqt {K : PySem.W.Frag} {x y : V} {H : Hp} {Q : VK} (hs : scal x y = true) (h : Q (.bl (decide (x = y))) H) : rEqT K x y H Q := .inl (.inl ⟨hs, h⟩)
open PySem.Builtin PySem.Builtin.Str in
def SplitC (x y : Str) (ws : List Str) : Prop :=
  ((decide (x.length < y.length) || decide (strKind x < strKind y)) = false ∧ (y.length == 0) = false ∧ (occurrences x y 0 x.length (x.length + 1)).isEmpty = false ∧ x.length ≤ 1000 ∧ partsBetween x (occurrences x y 0 x.length (x.length + 1)) y.length = ws ∧ ws.length ≤ 1000) ∨
  ((decide (x.length < y.length) || decide (strKind x < strKind y)) = true ∧ ws = [x]) ∨
  ((decide (x.length < y.length) || decide (strKind x < strKind y)) = false ∧ (y.length == 0) = false ∧ (occurrences x y 0 x.length (x.length + 1)).isEmpty = true ∧ ws = [x])
theorem vals_strs : ∀ (t : Nat) (ws : List Str), Vals (ws.map V.str) (strsFrom t ws)
  | _, [] => .nil
  | t, x :: r => .cons ⟨t, rfl⟩ (vals_strs (t + 1) r)
def rSplit : V → List V → Hp → VK → Prop := fun x vs H Q => ∃ (z y : Str) (ws : List Str), x = .str z ∧ vs = [.str y] ∧ SplitC z y ws ∧ ∀ q, H q = none → Q (.ref q) (upd H q (.lst (ws.map V.str)))
theorem mt_split : MtR X "str.split" rSplit := by
  intro pins s σ H x vs v us Q I rx rv h
  obtain ⟨z, y, ws, rfl, rfl, hc, q⟩ := h
  obtain ⟨t, rfl⟩ := rx
  obtain ⟨u, rfl, ru⟩ := rv.one
  obtain ⟨t2, rfl⟩ := ru
  have big : 1000 ≤ sizeLine := by decide
  rcases hc with ⟨h1, h2, h3, h4, rfl, h6⟩ | ⟨h1, rfl⟩ | ⟨h1, h2, h3, rfl⟩
  · refine call_meets PySem.F.slot_str_split (typeIs_str s z t) PySem.F.entry_str_split (PySem.F.args_str_split_2 _ _) (meets_str_split_sep z y t t2 h1 h2 h3 (by omega) (by omega)) ?_
    exact ⟨.ref _, _, I.lnew (t' := s.toks + _) (vals_strs s.toks _) (by rw [List.length_map]; omega), rfl, q _ I.fresh⟩
  · refine call_meets PySem.F.slot_str_split (typeIs_str s z t) PySem.F.entry_str_split (PySem.F.args_str_split_2 _ _) (meets_str_split_cannot_occur z y t t2 h1) ?_
    exact ⟨.ref _, _, I.lnew (t' := s.toks) (ys := [V.str z]) (its := [.str z t]) (.cons ⟨t, rfl⟩ .nil) (by show 1 ≤ sizeLine; decide), rfl, q _ I.fresh⟩
  · refine call_meets PySem.F.slot_str_split (typeIs_str s z t) PySem.F.entry_str_split (PySem.F.args_str_split_2 _ _) (meets_str_split_not_found z y t t2 h1 h2 h3) ?_
    exact ⟨.ref _, _, I.lnew (t' := s.toks) (ys := [V.str z]) (its := [.str z t]) (.cons ⟨t, rfl⟩ .nil) (by show 1 ≤ sizeLine; decide), rfl, q _ I.fresh⟩
def eqStr (z : Str) : Value → Bool
  | .str a _ => a == z
  | _ => false
theorem vals_str_at : ∀ {ws : List Str} {us : List Value} {j : Nat} {u : Value}, Vals (ws.map V.str) us → us[j]? = some u → ∃ a t, u = .str a t ∧ ws[j]? = some a
  | [], _, j, u, .nil, h => by simp at h
  | a :: r, _, 0, u, .cons ra _, h => by
    obtain ⟨t, rfl⟩ := ra
    have h : u = .str a t := by simpa using h.symm
    exact ⟨a, t, h, rfl⟩
  | a :: r, _, j + 1, u, .cons _ rr, h => by
    obtain ⟨b, t, e1, e2⟩ := vals_str_at (j := j) rr (by simpa using h)
    exact ⟨b, t, e1, by simpa using e2⟩
def rIndex (K : PySem.W.Frag) : V → List V → Hp → VK → Prop := fun x vs H Q => ∃ (l : Addr) (z : Str) (ws : List Str) (j : Nat), x = .ref l ∧ vs = [.str z] ∧ SqL K H l (ws.map V.str) ∧ ws[j]? = some z ∧ (∀ m < j, ws[m]? ≠ some z) ∧ ws.length ≤ 1000 ∧ Q (.int (j : Nat)) H
theorem mt_indexK (K : PySem.W.Frag) (hK : X.K = K := by rfl) : MtR X "list.index" (rIndex K) := by
  subst hK
  intro pins s σ H x vs v us Q I rx rv h
  obtain ⟨l, z, ws, j, rfl, rfl, hl, hj, hno, hz, q⟩ := h
  cases rx
  obtain ⟨u, rfl, ru⟩ := rv.one
  obtain ⟨t, rfl⟩ := ru
  obtain ⟨its, r, p, _⟩ := I.list hl
  have hlen := r.length
  rw [List.length_map] at hlen
  have hjl := (List.getElem?_eq_some_iff.mp hj).1
  obtain ⟨⟨cls, dd, data, sl⟩, ho, hc, n, hd⟩ := id p.isList
  simp only at hc hd
  subst hc hd
  have at' : ∀ m (hm : m < its.toArray.size), ∃ a t, its.toArray[m] = .str a t ∧ ws[m]? = some a := fun m hm => by
    have hm' : m < its.length := by simpa using hm
    have := vals_str_at r (List.getElem?_eq_getElem hm')
    simpa using this
  refine call_meets PySem.F.slot_list_index ⟨_, ho, rfl⟩ PySem.F.entry_list_index (PySem.F.args_list_index_2 _ _) (SeqAt.list_indexAt l its.toArray n dd sl (.str z t) (eqStr z) j (by rw [List.size_toArray]; omega) (by omega) ?_ ?_) ⟨ho, fun y hy => ?_, ?_⟩
  · obtain ⟨a, t', e1, e2⟩ := at' j (by rw [List.size_toArray]; omega)
    rw [hj] at e2
    cases e2
    rw [e1]
    show (z == z) = true
    simp
  · intro m hm hmj
    obtain ⟨a, t', e1, e2⟩ := at' m hm
    rw [e1]
    show (a == z) = false
    have : a ≠ z := fun e => hno m hmj (by rw [e2, e])
    simpa using this
  · obtain ⟨m, hm, rfl⟩ := Array.mem_iff_getElem.mp hy
    obtain ⟨a, t', e1, e2⟩ := at' m hm
    rw [e1]
    exact SeqAt.EqAt.str_str a t' z t
  · exact ⟨.int (j : Nat), H, I.tok _, ⟨_, rfl⟩, q⟩
end
end L2

set_option Elab.async false
set_option linter.all false
set_option maxRecDepth 100000
set_option maxHeartbeats 4000000
namespace L2
open PySem PySem.Spec PyProof.Rows
section
variable {prog : Program} {w : World} {A : Around} {E : Value → Shared → Prop} {s : Shared}
theorem draw_list {it t : Addr} {items : Array Value} (hne : t ≠ it) : ∀ (n i : Nat) (s : Shared) (Q : List Value → Shared → Prop), s.heap.IsListIter it t i → s.heap.IsList t items → i + n ≤ items.size →
    (∀ h', h'.IsListIter it t (i + n) → Heap.SameBut it s.heap h' → Q ((items.toList.drop i).take n) { s with heap := h' }) → wpAny (model prog w) A (draw (.ref it) n) Q E s
  | 0, i, s, Q, hit, _, _, hQ => by
    show wpAny _ _ (pure []) Q E s
    exact wpAny_pure (by simpa using hQ s.heap hit (Heap.SameBut.refl ..))
  | n + 1, i, s, Q, hit, ht, hle, hQ => by
    have hlt : i < items.size := by omega
    show wpAny _ _ (pyNext (.ref it) >>= _) Q E s
    refine wpAny_bind (wpAny_pyNext_list_item hit ht (x := items[i]) (by simp [hlt]) fun h₁ hit₁ hs₁ => ?_)
    refine wpAny_bind (wpAny_holding (draw_list hne n (i + 1) _ _ hit₁ (ht.at fun o e => hs₁.extBut _ _ hne e) (by omega) fun h₂ hit₂ hs₂ => wpAny_pure ?_))
    have hd : items.toList.drop i = items[i] :: items.toList.drop (i + 1) := by simp [List.drop_eq_getElem_cons, hlt]
    have := hQ h₂ (by rw [show i + (n + 1) = i + 1 + n by omega]; exact hit₂) (hs₁.trans hs₂)
    rw [hd, List.take_succ_cons] at this
    exact this
theorem unpackItems_list {t : Addr} {items : Array Value} {Q : List Value → Shared → Prop} (hh : A.handled = none) (ht : s.heap.IsList t items)
    (hQ : ∀ h', Heap.ExtBut s.heap.objs.size s.heap h' → Q items.toList { s with heap := h' }) : wpAny (model prog w) A (unpackItems (.ref t) items.size none) Q E s := by
  have hlt : t ≠ s.heap.objs.size := by obtain ⟨o, ho, _⟩ := ht; exact Nat.ne_of_lt (Heap.lt_size ho)
  unfold unpackItems
  refine wpAny_bind ?_
  · unfold notIterableAtAll
    refine wpAny_bind (wpAny_specialOf ht.typeIs PySem.F.slot_list_iter.lookup ?_)
    refine wpAny_pure ?_
    simp only [Bool.false_eq_true, if_false]
    refine wpAny_bind (wpAny_holding (wpAny_pyIter_list ht ?_))
    refine wpAny_bind (wpAny_holding (draw_list hlt items.size 0 _ _ ⟨_, Heap.get?_push_size _ rfl, rfl, rfl⟩ (Heap.IsList.push ht _) (by omega) fun h₁ hit₁ hs₁ => ?_))
    have hall : List.take items.size (List.drop 0 items.toList) = items.toList := by
      rw [List.drop_zero]; exact List.take_of_length_le (by simp)
    rw [hall]
    rw [if_neg (by simp)]
    have ht₁ : h₁.IsList t items := (Heap.IsList.push ht _).at fun o e => hs₁.extBut _ _ hlt e
    refine wpAny_bind (wpAny_holding (wpAny_pyNext_list_end hh hit₁ ht₁ (by simp) fun h₂ he₂ => ?_))
    simp only [Option.isSome_none, Bool.false_eq_true, if_false]
    refine wpAny_pure (hQ h₂ fun b o hb e => he₂ b o hb (hs₁.extBut b o hb (Heap.get?_push_of_some _ e)))
theorem assign_Tuple_list {env : Env} {elts : List Expr} {x1} {pos : Pos} {t : Addr} {items : Array Value} {Q : Unit → Shared → Prop} (hh : A.handled = none) (ht : s.heap.IsList t items)
    (hn : (assignEach elts env).length = items.size) (hstar : (assignEach elts env).findIdx? (·.1) = none)
    (h : ∀ h', Heap.ExtBut s.heap.objs.size s.heap h' → wpAny (model prog w) A (assignInOrder ((assignEach elts env).map (·.2)) items.toList) Q E { s with heap := h' }) :
    wpAny (model prog w) A (assign (.Tuple elts x1 pos) env (.ref t)) Q E s := by
  rw [arm_assign_Tuple]
  refine wpAny_bind (wpAny_standAt ?_)
  unfold unpack
  rw [hn, hstar]
  exact wpAny_bind (wpAny_holding (unpackItems_list hh ht h))
end
def gTupL (K : PySem.W.Frag) (n : Nat) (t : TGs) : TG := fun v σ H Q => ∃ a xs, v = .ref a ∧ SqL K H a xs ∧ xs.length = n ∧ t xs σ H Q
section
variable {X : Cx}
theorem qg_tupLK (K : PySem.W.Frag) {es : List Expr} {k : Nat} {pos : Pos} {t : TGs} {n : Nat} (hc : X.calm = true) (h : QGs X es t) (hK : X.K = K := by rfl) (hn : (assignEach es X.env).length = n := by rfl) (hst : (assignEach es X.env).findIdx? (·.1) = none := by rfl) : QG X (.Tuple es k pos) (gTupL K n t) := by
  subst hK
  refine ⟨fun pins s σ H v u Q I r hw => ?_⟩
  obtain ⟨a, xs, e1, hq, hl, hw⟩ := hw
  subst e1
  cases r
  obtain ⟨its, rv, ht, hz⟩ := I.list hq
  refine assign_Tuple_list (I.ok.hd hc) ht.isList (by simp [hn, ← hl, rv.length]) hst fun h' hx => ?_
  have I1 : Inv X pins σ H { s with heap := h' } := I.kept (t' := s.toks) fun b o e => hx b o (Nat.ne_of_lt (Heap.lt_size e)) e
  exact h.run pins _ σ H xs _ Q I1 (by simpa using rv) hw
theorem s_gtupL {K : PySem.W.Frag} {σ : St} {H : Hp} {gs : TGs} {n : Nat} {a : Addr} {xs : List V} {QS' : St → Hp → Prop} (q : SqL K H a xs) (l : xs.length = n) (h : gs xs σ H QS') : gTupL K n gs (.ref a) σ H QS' := ⟨a, xs, rfl, q, l, h⟩
end
section
variable {X : Cx} {k : Nat} {x : Str} {ps : List Str} {sp : Sp} {p pos : Pos}
theorem qe_fn0 (C : Callee X.prog X.w X.K X.mg X.base k x ps sp) (hr : Room k X.A) (hg : Gl X x := by rfl) (hdb : (x == ("__debug__" : Str)) = false := by decide) : QE X (.Call (.Name x p) [] [] pos) (tCall sp [] E0 tNil) := by
  obtain ⟨f, fd, F, hm, hk, hb⟩ := C.ex
  exact ⟨pe_call0 F hr hg hm hk hb .nil pass0 hdb⟩
end
end L2

set_option Elab.async false
set_option linter.all false
set_option maxRecDepth 100000
set_option maxHeartbeats 4000000
namespace K10
open PySem L2
def LET : Str := "abcdefghijklmnopqrstuvwxyz_"
def DIG : Str := "0123456789"
def W9 : List Str := ["let", "in", "if", "then", "else", "fn", "rec", "yes", "no"]
def W10 : List Str := ["let", "if", "fn", "rec", "yes", "no", "?", "+", "-", "<"]
def BR : Str := "()"
def isIn (t : Str) (ws : List Str) : Bool := ws.any fun a => a == t
def allIn (t s : Str) : Bool := t.cps.toList.all fun c => decide (c ∈ s.cps.toList)
def hd0 (t : Str) : Bool := t.cps.toList.head? == some 48
def okC (c : Nat) : Bool := (decide (33 ≤ c) && decide (c ≤ 126)) || c == 32 || c == 10 || c == 9
def oddC (c : Nat) : Bool := decide (33 ≤ c) && decide (c ≤ 126) && !decide (c ∈ BR.cps.toList)
def nameB (t : Str) : Bool := decide (1 ≤ t.length) && decide (t.length ≤ 8) && allIn t LET && !isIn t W9
def figB (t : Str) : Bool := decide (1 ≤ t.length) && decide (t.length ≤ 18) && allIn t DIG && (t == ("0" : Str) || !hd0 t)
def oddB (t : Str) : Bool := decide (1 ≤ t.length) && decide (t.length ≤ 60) && t.cps.toList.all oddC && !nameB t && !isIn t W10 && !figB t
structure GoodT (t : Str) : Prop where
  len : t.length ≤ 1000
  ok : ∀ c ∈ t.cps.toList, okC c = true
theorem isIn_mem {t : Str} {ws : List Str} (h : isIn t ws = true) : t ∈ ws := by
  obtain ⟨a, ha, e⟩ := List.any_eq_true.mp h
  have e : a = t := by simpa using e
  rw [← e]; exact ha
theorem not_isIn {t : Str} {ws : List Str} (h : ¬ t ∈ ws) : isIn t ws = false := by
  cases e : isIn t ws
  · rfl
  · exact absurd (isIn_mem e) h
theorem mem_isIn {t : Str} {ws : List Str} (h : t ∈ ws) : isIn t ws = true := List.any_eq_true.mpr ⟨t, h, by simp⟩
end K10

set_option Elab.async false
set_option linter.all false
set_option maxRecDepth 100000
namespace K12
open PySem L2 K10
theorem dig_pos : ∀ n : Nat, 0 < n → (Nat.toDigits 10 n).head? ≠ some '0' := by
  intro n
  induction n using Nat.strongRecOn with
  | ind n ih =>
    intro hn
    by_cases h : n < 10
    · rw [Nat.toDigits_of_lt_base h]
      have : ∀ k : Nat, k < 10 → 0 < k → [k.digitChar].head? ≠ some '0' := by decide
      exact this n h hn
    · rw [Nat.toDigits_of_base_le (by decide) (by omega)]
      have hq : 0 < n / 10 := by omega
      have := ih (n / 10) (by omega) hq
      cases e : Nat.toDigits 10 (n / 10) with
      | nil => exact absurd e Nat.toDigits_ne_nil
      | cons a r =>
        rw [e] at this
        simpa using this
theorem dig_char {c : Char} (h : c.isDigit = true) : c.toNat ∈ DIG.cps.toList := by
  have e : DIG.cps.toList = [48, 49, 50, 51, 52, 53, 54, 55, 56, 57] := by decide +kernel
  rw [e]
  have h1 : 48 ≤ c.toNat ∧ c.toNat ≤ 57 := by
    unfold Char.isDigit at h
    simp only [Bool.and_eq_true, decide_eq_true_eq] at h
    exact ⟨h.1, h.2⟩
  have : ∀ k : Nat, 48 ≤ k → k ≤ 57 → k ∈ [48, 49, 50, 51, 52, 53, 54, 55, 56, 57] := by
    intro k h1 h2
    have : k - 48 < 10 := by omega
    have all : ∀ j : Nat, j < 10 → 48 + j ∈ [48, 49, 50, 51, 52, 53, 54, 55, 56, 57] := by decide
    have := all (k - 48) this
    rwa [show 48 + (k - 48) = k by omega] at this
  exact this _ h1.1 h1.2
theorem text_cps (m : Nat) : (Str.ofString (toString (m : Int))).cps.toList = (Nat.toDigits 10 m).map Char.toNat := by
  have e : toString (m : Int) = m.repr := rfl
  rw [e]
  rw [PyProof.Rows.signs_ofString, Nat.toList_repr]
theorem fig_text {n : Int} (h0 : 0 ≤ n) (h1 : n < 10 ^ 18) : oddB (Str.ofString (toString n)) = false ∧ (Str.ofString (toString n)).length ≤ 1000 := by
  obtain ⟨m, rfl⟩ := Int.eq_ofNat_of_zero_le h0
  have hm : m < 10 ^ 18 := by omega
  have hc := text_cps m
  have hl : (Str.ofString (toString (m : Int))).length = (Nat.toDigits 10 m).length := by
    show (Str.ofString (toString (m : Int))).cps.size = _
    rw [← Array.length_toList, hc, List.length_map]
  have l1 : 1 ≤ (Nat.toDigits 10 m).length := Nat.length_toDigits_pos
  have l2 : (Nat.toDigits 10 m).length ≤ 18 := (Nat.length_toDigits_le_iff (by decide) (by decide)).mpr hm
  have fig : figB (Str.ofString (toString (m : Int))) = true := by
    unfold figB
    rw [hl, decide_eq_true l1, decide_eq_true l2]
    have a : allIn (Str.ofString (toString (m : Int))) DIG = true := by
      unfold allIn
      rw [hc, List.all_map, List.all_eq_true]
      intro c hcm
      exact decide_eq_true (dig_char (Nat.isDigit_of_mem_toDigits (by decide) (by decide) hcm))
    rw [a]
    by_cases z : m = 0
    · subst z
      decide +kernel
    · have hh := dig_pos m (by omega)
      have : hd0 (Str.ofString (toString (m : Int))) = false := by
        unfold hd0
        rw [hc]
        cases e : Nat.toDigits 10 m with
        | nil => rfl
        | cons c r =>
          rw [e] at hh
          have hne : c ≠ '0' := by simpa using hh
          show (some c.toNat == some 48) = false
          have : c.toNat ≠ 48 := fun q => hne (Char.ext (UInt32.toNat_inj.mp q))
          simpa using this
      rw [this]
      simp
  refine ⟨?_, by omega⟩
  unfold oddB
  rw [fig]
  simp
end K12

set_option Elab.async false
set_option linter.all false
set_option maxRecDepth 100000
set_option maxHeartbeats 4000000
namespace K12
open PySem L2
def top (i : Nat) : Stmt := PySem.Challenge.pw_gapscribe_k12_bare_forms.main.body.getD i (.Pass ⟨0, 0, 0, 0⟩)
abbrev s_is_whole : Stmt := top 14
abbrev s_is_name : Stmt := top 15
abbrev s_is_figures : Stmt := top 16
abbrev s_is_odd_sign : Stmt := top 17
abbrev s_is_odd : Stmt := top 18
abbrev s_is_word : Stmt := top 19
abbrev s_is_two_names : Stmt := top 20
abbrev s_is_note : Stmt := top 21
abbrev s_many_parts : Stmt := top 22
abbrev s_bare : Stmt := top 23
abbrev s_law_cell : Stmt := top 25
abbrev s_law_names : Stmt := top 26
abbrev s_law_odd : Stmt := top 27
abbrev s_law_number : Stmt := top 28
abbrev s_law_words : Stmt := top 29
abbrev s_law_word : Stmt := top 30
abbrev s_law_right : Stmt := top 31
abbrev s_law_wrong : Stmt := top 32
abbrev s_law_note : Stmt := top 33
abbrev s_law_kinds : Stmt := top 34
abbrev s_law_counted : Stmt := top 35
abbrev s_law_made : Stmt := top 36
abbrev s_law_round : Stmt := top 37
abbrev s_law : Stmt := top 38
structure Txt (K : PySem.W.Frag) (mg : Str → Option Value) : Prop where
  isinstance : mg "isinstance" = none
  int : mg "int" = none
  bool : mg "bool" = none
  str : mg "str" = none
  len : mg "len" = none
  all : mg "all" = none
  tuple : mg "tuple" = none
  range : mg "range" = none
  ValueError : mg "ValueError" = none
end K12
namespace K12
open PySem L2 K10
structure Script (K : PySem.W.Frag) (H : Hp) (a : Addr) : Prop where
  ex : ∃ ns : List Int, SqL K H a (ns.map V.int) ∧ ns.length ≤ 63
theorem Script.same {K : PySem.W.Frag} {H H' : Hp} {a : Addr} (S : Script K H a) (h : Same H H') : Script K H' a := by
  obtain ⟨ns, q, l⟩ := S.ex
  exact ⟨ns, h.seq q, l⟩
inductive TyN (K : PySem.W.Frag) (H : Hp) : V → String → Prop where
  | non : TyN K H .non "NoneType"
  | bl (x : Bool) : TyN K H (.bl x) "bool"
  | int (i : Int) : TyN K H (.int i) "int"
  | str (x : Str) (h : x.length ≤ 1000) : TyN K H (.str x) "str"
  | tup {a : Addr} {xs : List V} (q : SqT K H a xs) : TyN K H (.ref a) "tuple"
  | lst {a : Addr} {xs : List V} (q : SqL K H a xs) : TyN K H (.ref a) "list"
  | dK {a : Addr} {kvs : List (Key × V)} (e : H a = some (.dK kvs)) : TyN K H (.ref a) "dict"
def kitT (t T : String) : Bool := t == T || (t == "bool" && T == "int")
theorem TyN.q {K : PySem.W.Frag} {H : Hp} {v : V} {t : String} (h : TyN K H v t) : TyQ K H v (.type t) := by
  cases h with
  | non => exact .ty .non
  | bl x => exact .ty (.bl x)
  | int x => exact .ty (.int x)
  | str x => exact .ty (.str x)
  | tup q => exact .tup q
  | lst q => exact .lst q
  | dK e => exact .ty (.dK e)
theorem kit_all {K : PySem.W.Frag} {t T : String} (ht : t ∈ ["NoneType", "bool", "int", "str", "tuple", "list", "dict"]) (hT : T ∈ ["str", "int", "bool", "tuple"]) : PySem.W.kitOne K (.type t) (.type T) = some (kitT t T) := by
  have one : ∀ (t T : String), t ≠ T → (PySem.W.kitMeta T && (match fastBuiltinMro t with | some l => l.contains (.type T) == kitT t T | none => false)) = true → PySem.W.kitOne K (.type t) (.type T) = some (kitT t T) := by
    intro t T hne h
    rw [Bool.and_eq_true] at h
    obtain ⟨h1, h2⟩ := h
    split at h2
    · rename_i l hl
      exact kit_of h1 hne hl (by simpa using h2)
    · cases h2
  simp only [List.mem_cons, List.not_mem_nil, or_false] at ht hT
  rcases hT with rfl | rfl | rfl | rfl <;> rcases ht with rfl | rfl | rfl | rfl | rfl | rfl | rfl <;> first | (exact kit_same) | (exact one _ _ (by decide) (by decide +kernel))
theorem TyN.mem {K : PySem.W.Frag} {H : Hp} {v : V} {t : String} (h : TyN K H v t) : t ∈ ["NoneType", "bool", "int", "str", "tuple", "list", "dict"] := by
  cases h <;> simp
theorem s_isiN {K : PySem.W.Frag} {H : Hp} {Q : VK} {v : V} {t T : String} (h : TyN K H v t) (hT : T ∈ ["str", "int", "bool", "tuple"]) (q : Q (.bl (kitT t T)) H) : rIsi K T [v, .ty T] H Q :=
  ⟨v, .type t, _, rfl, h.q, kit_all h.mem hT, q⟩
theorem TyN.same {K : PySem.W.Frag} {H H' : Hp} {v : V} {t : String} (h : TyN K H v t) (e : Same H H') : TyN K H' v t := by
  cases h with
  | non => exact .non
  | bl x => exact .bl x
  | int x => exact .int x
  | str x h => exact .str x h
  | tup q => exact .tup (e.t.tup q)
  | lst q => exact .lst (e.seq q)
  | dK h => exact .dK (e _ _ h)
def Has (K : PySem.W.Frag) (H : Hp) (v : V) : Prop := ∃ t, TyN K H v t
theorem Has.same {K : PySem.W.Frag} {H H' : Hp} {v : V} (h : Has K H v) (e : Same H H') : Has K H' v := by
  obtain ⟨t, h⟩ := h
  exact ⟨t, h.same e⟩
def PARTS : List (Str × V) := [("gap", .int 0), ("odd", .int 0), ("num", .int 0), ("truth", .int 0), ("name", .int 0), ("plus", .int 2), ("minus", .int 2), ("less", .int 2), ("call", .int 2), ("if", .int 3), ("fn", .int 1), ("rec", .int 1), ("let", .int 2)]
def PN : List (Str × Nat) := [("gap", 0), ("odd", 0), ("num", 0), ("truth", 0), ("name", 0), ("plus", 2), ("minus", 2), ("less", 2), ("call", 2), ("if", 3), ("fn", 1), ("rec", 1), ("let", 2)]
def partsOf (wd : Str) : Option Nat := PN.lookup wd
theorem parts_eq (wd : Str) : lookD PARTS wd = (partsOf wd).map (fun n : Nat => V.int (n : Int)) := by
  have gen : ∀ ps : List (Str × Nat), lookD (ps.map fun p => (p.1, V.int (p.2 : Int))) wd = (ps.lookup wd).map (fun n : Nat => V.int (n : Int)) := by
    intro ps
    induction ps with
    | nil => rfl
    | cons p r ih =>
      unfold lookD at ih ⊢
      rw [List.map_cons, List.find?_cons, List.lookup_cons]
      by_cases z : p.1 = wd
      · have e2 : (wd == p.1) = true := by rw [z]; simp
        simp only [z, decide_true, Option.map_some]
        simp
      · have e2 : (wd == p.1) = false := by simpa using fun h => z h.symm
        simp only [z, decide_false, e2]
        exact ih
  exact gen PN
def wholeV : V → Bool
  | .int _ => true
  | _ => false
def nameV : V → Bool
  | .str s => nameB s
  | _ => false
def oddV : V → Bool
  | .str s => oddB s
  | _ => false
def wordV : V → Bool
  | .str s => (partsOf s).isSome
  | _ => false
structure Gs (P : Program) (w : World) (K : PySem.W.Frag) (mg : Str → Option Value) : Prop where
  ns : Glob mg "NAME_SIGNS" (.str LET)
  fg : Glob mg "FIGURES" (.str DIG)
  w9 : ∃ a, Glob mg "WORDS_NO_NAMES" (.ref a) ∧ ∀ H, SqT K H a (W9.map V.str)
  w10 : ∃ a, Glob mg "WORDS_NOT_ODD" (.ref a) ∧ ∀ H, SqT K H a (W10.map V.str)
  pw : ∃ a, Glob mg "PARTS_OF_WORDS" (.ref a) ∧ DkK P w K a PARTS
  gp : ∃ a e, Glob mg "GAP" (.ref a) ∧ (∀ H, SqT K H a [.str "gap", .non, .ref e]) ∧ ∀ H, SqT K H e []
end K12

set_option Elab.async false
set_option linter.all false
set_option maxRecDepth 100000
set_option maxHeartbeats 4000000
local macro_rules | `(tactic| walk_at "r1") => `(tactic| (first | (with_reducible first | refine L2.s_seq ?_ | refine L2.s_asg ?_ | refine L2.s_ret ?_ | refine L2.s_ifS ?_ | refine L2.s_test ?_ | refine L2.s_op ?_ | refine L2.s_c ?_ | refine L2.s_cons ?_ | refine L2.s_nil ?_ | refine L2.s_call ?_ | refine L2.s_cb ?_ | refine L2.s_gname ?_ | refine L2.s_ex ?_ | refine L2.s_exi ?_ | refine L2.s_drop ?_ | refine L2.s_next ?_ | refine L2.s_un ?_ | refine L2.s_tB ?_ | refine L2.s_not ?_ | refine L2.s_and ?_ | refine L2.s_or ?_ | refine L2.s_andV ?_ | refine L2.s_orV ?_ | refine L2.s_notV ?_ | refine L2.s_vals ?_ | refine L2.s_tup ?_ | refine L2.s_lst ?_ | refine L2.s_bm ?_ | refine L2.s_bm0 ?_ | refine L2.s_sl ?_ | refine L2.s_po ?_ | refine L2.s_po0 ?_ | refine L2.s_gcons ?_ | refine L2.s_gnil ?_ | refine L2.s_gsub ?_ | refine L2.s_isN ?_ | refine L2.s_notN ?_ | refine L2.s_rI0 ?_ | refine L2.s_rU ?_ | refine L2.s_add_int ?_ | refine L2.s_lt ?_ | refine L2.s_le ?_ | refine L2.iteT ?_ | refine L2.iteF ?_ | refine L2.s_comp ?_ | refine L2.s_for ?_ | refine L2.s_rng1 ?_ | refine L2.s_rng3 ?_ | refine L2.s_exr ?_ | refine L2.s_iany ?_ | refine L2.s_irev ?_ | refine L2.s_ienum ?_ | refine L2.s_listen ?_ | refine L2.s_listrev ?_ | refine L2.s_izip ?_ | refine L2.s_ienumT ?_ | refine L2.s_listzp ?_ | refine L2.s_ipI ?_ | refine L2.s_yes ?_ | refine L2.s_turn ?_ | refine L2.s_int_b ?_ | refine L2.s_intb ?_ | refine L2.s_truth ?_ | refine L2.s_chain ?_ | refine L2.s_nt ?_ | refine L2.s_nf ?_) | ((with_reducible refine' L2.s_var ?e ?_); (case e => exact rfl)) | ((with_reducible refine' L2.s_aug ?e ?_); (case e => exact rfl)) | ((with_reducible refine' L2.s_eq ?e ?_); (case e => exact rfl)) | ((with_reducible refine' L2.s_ne ?e ?_); (case e => exact rfl)) | ((with_reducible refine' L2.s_neb ?e ?_); (case e => exact rfl)) | ((with_reducible refine' L2.s_rI ?c ?_); (case c => first | decide | exact ⟨by decide, by decide⟩ | exact ⟨by decide, by decide, by decide⟩)) | ((with_reducible refine' L2.s_mul_r ?a ?b ?_); (case a => decide); (case b => decide)) | ((with_reducible refine' L2.s_mul_l ?a ?b ?_); (case a => decide); (case b => decide)) | ((with_reducible refine' L2.s_exr3 ?e ?_); (case e => decide))))
local macro_rules | `(tactic| walk_at "r") => `(tactic| (repeat walk_at "r1"))
namespace K12
open PySem L2 K10
section
variable {P : Program} {w : World} {K : PySem.W.Frag} {mg : Str → Option Value} {base : Heap}
def sp_whole (K : PySem.W.Frag) : Sp := fun vs H Q _ => ∃ v, vs = [v] ∧ Has K H v ∧ Q (.bl (wholeV v)) H
theorem sc_is_whole : FnScope ["thing"] ["thing"] (defScope s_is_whole) := ⟨rfl, rfl, rfl, by decide +kernel, rfl, by decide +kernel, by decide +kernel⟩
theorem ok_whole {f : Addr} {fd : FuncData} (F : Fun K "is_whole" "is_whole" s_is_whole f fd) (T : Txt K mg) : FnOk P w K mg base CX0 1 f fd ["thing"] (sp_whole K) := by
  refine F.okq sc_is_whole (fun vs H Q E h => ?_) (fun cdv A outer s H vs Q E hr h => ?_)
  · obtain ⟨v, rfl, _⟩ := h
    rfl
  · obtain ⟨v, rfl, ⟨t, ht⟩, q⟩ := h
    refine ⟨_, qss_one (qs_ret (qe_and (qe_callB (k_isi K "int") (by rfl) T.isinstance (by decide +kernel) (qa_cons (qv 0) (qa_cons (qe_bltn (v := .ty "int") (by rfl) T.int (by decide +kernel) rfl) qa_nil))) (qe_one (qe_not (qe_callB (k_isi K "bool") (by rfl) T.isinstance (by decide +kernel) (qa_cons (qv 0) (qa_cons (qe_bltn (v := .ty "bool") (by rfl) T.bool (by decide +kernel) rfl) qa_nil))))))), ?_⟩
    walk_at "r"
    refine s_isiN ht (by simp) ?_
    have e : wholeV v = (kitT t "int" && !kitT t "bool") := by cases ht <;> rfl
    rw [e] at q
    refine ⟨_, rfl, ?_⟩
    cases h1 : kitT t "int" with
    | false =>
      rw [h1] at q
      exact q
    | true =>
      rw [h1] at q
      walk_at "r"
      refine s_isiN ht (by simp) ?_
      walk_at "r"
      exact q
end
end K12

set_option Elab.async false
set_option linter.all false
set_option maxRecDepth 100000
set_option maxHeartbeats 4000000
namespace K12
open PySem L2 K10
section
variable {P : Program} {w : World} {K : PySem.W.Frag} {mg : Str → Option Value} {base : Heap}
theorem big : 100000 ≤ sizeLine := by decide
theorem take_snoc {α : Type} {l : List α} {i : Nat} {c : α} (h : l[i]? = some c) : l.take (i + 1) = l.take i ++ [c] := by
  rw [List.take_succ, h]
  rfl
theorem take_lt {z : Str} {i : Nat} {c : Nat} (h : z.cps.toList[i]? = some c) : i < z.length := by
  have := (List.getElem?_eq_some_iff.mp h).1
  simpa [Str.length] using this
theorem all_take {z : Str} {p : Nat → Bool} : (((z.cps.toList.take z.cps.size).map p).all id) = z.cps.toList.all p := by
  rw [List.take_of_length_le (by simp), List.all_map]
  rfl
def sp_name (K : PySem.W.Frag) : Sp := fun vs H Q _ => ∃ v, vs = [v] ∧ Has K H v ∧ ∀ H', Same H H' → Q (.bl (nameV v)) H'
theorem nd_is_name_1 : (["sign"] : List Str).Nodup := by decide +kernel
theorem sc_is_name : FnScope ["thing"] ["thing"] (defScope s_is_name) := ⟨rfl, rfl, rfl, by decide +kernel, rfl, by decide +kernel, by decide +kernel⟩
theorem in_strs {t : Str} {ws : List Str} : inV (.str t) (ws.map V.str) = isIn t ws := by
  unfold inV isIn
  rw [List.any_map]
  rfl
theorem flat_strs {ws : List Str} : (ws.map V.str).all flatV = true := by
  rw [List.all_map]
  exact List.all_eq_true.mpr fun _ _ => rfl
theorem ok_name {f : Addr} {fd : FuncData} (F : Fun K "is_name" "is_name" s_is_name f fd) (T : Txt K mg) (G : Gs P w K mg) : FnOk P w K mg base CX0 1 f fd ["thing"] (sp_name K) := by
  refine F.okq sc_is_name (fun vs H Q E h => ?_) (fun cdv A outer s H vs Q E hr h => ?_)
  · obtain ⟨v, rfl, _⟩ := h
    rfl
  · obtain ⟨v, rfl, ⟨t, ht⟩, q⟩ := h
    obtain ⟨a9, G_WORDS_NO_NAMES, h9⟩ := G.w9
    have G_NAME_SIGNS := G.ns
    refine ⟨_, qss_cons (qs_if (QW.qt (qw_or (qt_not (qt_val (qe_callB (k_isi K "str") (by rfl) T.isinstance (by decide +kernel) (qa_cons (qv 0) (qa_cons (qe_bltn (v := .ty "str") (by rfl) T.str (by decide +kernel) rfl) qa_nil))))) (qw_or1 (qt_not (qt_chain op_leA op_leA (qe_int) (qe_callB (k_len K) (by rfl) T.len (by decide +kernel) (qa_cons (qv 0) qa_nil)) (qe_int)))))) (qss_one (qs_ret (qe_bl))) (qss_nil))
      (qss_one (qs_ret (qe_and (qe_callB (k_all K rfl) (by rfl) T.all (by decide +kernel) (qa_cons (qe_comp (N := ["sign"]) (σ0 := capSt 1 []) rfl (cscope_fn rfl (by decide +kernel) (by decide +kernel) (by decide +kernel)) (qi_anyK K (qv 0)) (takes_in rfl (by rfl)) (fun _ _ _ _ => qg_name (i := 0) nd_is_name_1 rfl (Or.inl rfl)) (fun _ _ _ _ => qts_nil) (fun _ _ _ _ => qe_cmpR (k_in K) (qv 0) (qe_gl G_NAME_SIGNS) (by rfl))) qa_nil)) (qe_one (qe_cmpR (k_notin K) (qv 0) (qe_gl G_WORDS_NO_NAMES) (by rfl)))))), ?_⟩
    have bg := big
    walk_at "r"
    refine s_isiN ht (by simp) ?_
    walk_at "r"
    cases h1 : kitT t "str" with
    | false =>
      have e : nameV v = false := by cases ht <;> first | rfl | (cases h1)
      walk_at "r"
      rw [e] at q
      exact q H (Same.refl H)
    | true =>
      obtain ⟨z, rfl, hz⟩ : ∃ z, v = .str z ∧ z.length ≤ 1000 := by
        cases ht <;> first | exact ⟨_, rfl, by assumption⟩ | (cases h1)
      walk_at "r"
      refine s_len_str (by omega) ?_
      walk_at "r"
      have e : nameV (.str z) = (decide (1 ≤ z.length) && decide (z.length ≤ 8) && allIn z LET && !isIn z W9) := rfl
      rw [e] at q
      refine ite2 (fun h => ?_) (fun h => ?_)
      · have l1 : 1 ≤ z.length := by have := of_decide_eq_true h; omega
        walk_at "r"
        refine ite2 (fun h' => ?_) (fun h' => ?_)
        · have l2 : ¬ z.length ≤ 8 := fun x => by simp at h'; omega
          walk_at "r"
          have := q H (Same.refl H)
          rw [decide_eq_false l2, Bool.and_false, Bool.false_and, Bool.false_and] at this
          exact this
        · have l2 : z.length ≤ 8 := by simp at h'; omega
          walk_at "r"
          refine .inr (.inr ⟨z, rfl, fun D hD => ?_⟩)
          refine comp_str (z := z) (Pv := fun i ys σ' H' => ∃ sv, σ' = [sv] ∧ ys = ((z.cps.toList.take i).map fun c => decide (c ∈ LET.cps.toList)).map V.bl ∧ Same H H') ⟨none, rfl, rfl, Same.upd hD⟩ ?_ ?_
          · rintro i c ys σ' H' hc hys ⟨sv, rfl, rfl, hH⟩
            walk_at "r"
            have hi := take_lt hc
            refine .inr ⟨c, LET, rfl, rfl, ?_⟩
            refine ⟨_, hys, by rw [List.length_map, List.length_map, List.length_take]; omega, _, upd_same, _, rfl, ?_, hH.over hD⟩
            rw [take_snoc hc, List.map_append, List.map_append]
            rfl
          · rintro ys σ' H' hys ⟨sv, rfl, rfl, hH⟩
            walk_at "r"
            refine ⟨D, _, rfl, SqL.of hys, ?_⟩
            rw [all_take]
            have en : allIn z LET = (z.cps.toList.all fun c => decide (c ∈ LET.cps.toList)) := rfl
            rw [← en]
            have q' := q H' hH
            rw [decide_eq_true l1, decide_eq_true l2, Bool.true_and, Bool.true_and] at q'
            walk_at "r"
            refine ite2 (fun hA => ?_) (fun hA => ?_)
            · walk_at "r"
              refine s_in_seq (.inr (h9 _)) rfl flat_strs ?_
              rw [hA, Bool.true_and] at q'
              rw [if_pos rfl, in_strs]
              exact q'
            · have hA : allIn z LET = false := by simpa using hA
              rw [hA, Bool.false_and] at q'
              exact q'
      · have l1 : ¬ 1 ≤ z.length := fun x => h (decide_eq_true (by omega))
        walk_at "r"
        have := q H (Same.refl H)
        rw [decide_eq_false l1, Bool.false_and, Bool.false_and, Bool.false_and] at this
        exact this
end
end K12

set_option Elab.async false
set_option linter.all false
set_option maxRecDepth 100000
set_option maxHeartbeats 4000000
namespace K12
open PySem L2 K10
section
variable {P : Program} {w : World} {K : PySem.W.Frag} {mg : Str → Option Value} {base : Heap}
theorem str_len (t : Str) : t.cps.toList.length = t.length := by simp [Str.length]
theorem head_at {t : Str} {c : Nat} (h : atI t.cps.toList 0 = some c) : t.cps.toList.head? = some c := by
  obtain ⟨j, h1, h2, h3, _⟩ := atI_get h
  have : j = 0 := by
    unfold atI ixN at h
    rw [seqIndex_of (by decide) (by omega)] at h1
    have := Option.some.inj h1
    omega
  subst this
  rw [List.head?_eq_getElem?]
  exact h2
theorem first_at {t : Str} (h : 1 ≤ t.length) : ∃ c, atI t.cps.toList 0 = some c := by
  obtain ⟨c, h1, _⟩ := atI_in (xs := t.cps.toList) (i := 0) (by decide) (by rw [str_len]; omega)
  exact ⟨c, h1⟩
theorem zero_eq (c : Nat) : decide (V.str ⟨#[c]⟩ = V.str ("0" : Str)) = (some c == some 48) := by
  have e : ("0" : Str) = ⟨#[48]⟩ := by decide +kernel
  rw [e, Bool.eq_iff_iff]
  simp
theorem str_dec (t u : Str) : decide (V.str t = V.str u) = (t == u) := by
  rw [Bool.eq_iff_iff]
  simp
def sp_fig : Sp := fun vs H Q _ => ∃ z : Str, vs = [.str z] ∧ z.length ≤ 1000 ∧ ∀ H', Same H H' → Q (.bl (figB z)) H'
theorem nd_is_figures_1 : (["sign"] : List Str).Nodup := by decide +kernel
theorem sc_is_figures : FnScope ["text"] ["text"] (defScope s_is_figures) := ⟨rfl, rfl, rfl, by decide +kernel, rfl, by decide +kernel, by decide +kernel⟩
theorem ok_fig {f : Addr} {fd : FuncData} (F : Fun K "is_figures" "is_figures" s_is_figures f fd) (T : Txt K mg) (G : Gs P w K mg) : FnOk P w K mg base CX0 1 f fd ["text"] sp_fig := by
  refine F.okq sc_is_figures (fun vs H Q E h => ?_) (fun cdv A outer s H vs Q E hr h => ?_)
  · obtain ⟨v, rfl, _⟩ := h
    rfl
  · obtain ⟨z, rfl, hz, q⟩ := h
    have G_FIGURES := G.fg
    refine ⟨_, qss_cons (qs_if (QW.qt (qw_or (qt_not (qt_chain op_leA op_leA (qe_int) (qe_callB (k_len K) (by rfl) T.len (by decide +kernel) (qa_cons (qv 0) qa_nil)) (qe_int))) (qw_or1 (qt_not (qt_val (qe_callB (k_all K rfl) (by rfl) T.all (by decide +kernel) (qa_cons (qe_comp (N := ["sign"]) (σ0 := capSt 1 []) rfl (cscope_fn rfl (by decide +kernel) (by decide +kernel) (by decide +kernel)) (qi_anyK K (qv 0)) (takes_in rfl (by rfl)) (fun _ _ _ _ => qg_name (i := 0) nd_is_figures_1 rfl (Or.inl rfl)) (fun _ _ _ _ => qts_nil) (fun _ _ _ _ => qe_cmpR (k_in K) (qv 0) (qe_gl G_FIGURES) (by rfl))) qa_nil))))))) (qss_one (qs_ret (qe_bl))) (qss_nil))
      (qss_one (qs_ret (qe_or (qe_cmpR (k_eq K hr.u200) (qv 0) (qe_str) (nomark _)) (qe_one (qe_cmpR (k_ne K hr.u200) (qe_ix (k_ix K) (qv 0) (qe_int) (fun _ _ => rfl)) (qe_str) (nomark _)))))), ?_⟩
    have bg := big
    have e : figB z = (decide (1 ≤ z.length) && decide (z.length ≤ 18) && allIn z DIG && (z == ("0" : Str) || !hd0 z)) := rfl
    rw [e] at q
    walk_at "r"
    refine s_len_str (by omega) ?_
    walk_at "r"
    refine ite2 (fun h => ?_) (fun h => ?_)
    · have l1 : 1 ≤ z.length := by have := of_decide_eq_true h; omega
      walk_at "r"
      refine ite2 (fun h' => ?_) (fun h' => ?_)
      · have l2 : ¬ z.length ≤ 18 := fun x => by simp at h'; omega
        walk_at "r"
        have := q H (Same.refl H)
        rw [decide_eq_false l2, Bool.and_false, Bool.false_and, Bool.false_and] at this
        exact this
      · have l2 : z.length ≤ 18 := by simp at h'; omega
        walk_at "r"
        refine .inr (.inr ⟨z, rfl, fun D hD => ?_⟩)
        refine comp_str (z := z) (Pv := fun i ys σ' H' => ∃ sv, σ' = [sv] ∧ ys = ((z.cps.toList.take i).map fun c => decide (c ∈ DIG.cps.toList)).map V.bl ∧ Same H H') ⟨none, rfl, rfl, Same.upd hD⟩ ?_ ?_
        · rintro i c ys σ' H' hc hys ⟨sv, rfl, rfl, hH⟩
          walk_at "r"
          have hi := take_lt hc
          refine .inr ⟨c, DIG, rfl, rfl, ?_⟩
          refine ⟨_, hys, by rw [List.length_map, List.length_map, List.length_take]; omega, _, upd_same, _, rfl, ?_, hH.over hD⟩
          rw [take_snoc hc, List.map_append, List.map_append]
          rfl
        · rintro ys σ' H' hys ⟨sv, rfl, rfl, hH⟩
          walk_at "r"
          refine ⟨D, _, rfl, SqL.of hys, ?_⟩
          rw [all_take]
          have en : allIn z DIG = (z.cps.toList.all fun c => decide (c ∈ DIG.cps.toList)) := rfl
          rw [← en]
          have q' := q H' hH
          rw [decide_eq_true l1, decide_eq_true l2, Bool.true_and, Bool.true_and] at q'
          walk_at "r"
          refine ite2 (fun hA => ?_) (fun hA => ?_)
          · have hA : allIn z DIG = false := by simpa using hA
            rw [hA, Bool.false_and] at q'
            walk_at "r"
            exact q'
          · have hA : allIn z DIG = true := by simpa using hA
            rw [hA, Bool.true_and] at q'
            walk_at "r"
            rw [str_dec]
            refine ite2 (fun hz => ?_) (fun hz => ?_)
            · rw [hz, Bool.true_or] at q'
              exact q'
            · have hz : (z == ("0" : Str)) = false := by simpa using hz
              rw [hz, Bool.false_or] at q'
              walk_at "r"
              obtain ⟨c, hc⟩ := first_at l1
              refine s_ix_str (by omega) hc ?_
              refine s_ne rfl ?_
              rw [zero_eq]
              have : hd0 z = (some c == some 48) := by
                unfold hd0
                rw [head_at hc]
              rw [← this]
              exact q'
    · have l1 : ¬ 1 ≤ z.length := fun x => h (decide_eq_true (by omega))
      walk_at "r"
      have := q H (Same.refl H)
      rw [decide_eq_false l1, Bool.false_and, Bool.false_and, Bool.false_and] at this
      exact this
end
end K12

set_option Elab.async false
set_option linter.all false
set_option maxRecDepth 100000
set_option maxHeartbeats 4000000
namespace K12
open PySem L2 K10
section
variable {P : Program} {w : World} {K : PySem.W.Frag} {mg : Str → Option Value} {base : Heap}
def sp_osign : Sp := fun vs H Q _ => ∃ c : Nat, vs = [.str ⟨#[c]⟩] ∧ Q (.bl (oddC c)) H
theorem sc_is_odd_sign : FnScope ["sign"] ["sign"] (defScope s_is_odd_sign) := ⟨rfl, rfl, rfl, by decide +kernel, rfl, by decide +kernel, by decide +kernel⟩
theorem ll1 (a b : Nat) : decide ([a] < [b]) = decide (a < b) := by
  by_cases h : a < b
  · rw [decide_eq_true h]
    exact decide_eq_true (List.Lex.rel h)
  · rw [decide_eq_false h]
    refine decide_eq_false fun e => ?_
    cases e with
    | rel e => exact h e
    | cons e => cases e
theorem le_first (c : Nat) : (!decide ((⟨#[c]⟩ : Str).cps.toList < ("!" : Str).cps.toList)) = decide (33 ≤ c) := by
  have e : ("!" : Str).cps.toList = [33] := by decide +kernel
  have e2 : (⟨#[c]⟩ : Str).cps.toList = [c] := rfl
  rw [e, e2, ll1, Bool.eq_iff_iff]
  simp
theorem le_last (c : Nat) : (!decide (("~" : Str).cps.toList < (⟨#[c]⟩ : Str).cps.toList)) = decide (c ≤ 126) := by
  have e : ("~" : Str).cps.toList = [126] := by decide +kernel
  have e2 : (⟨#[c]⟩ : Str).cps.toList = [c] := rfl
  rw [e, e2, ll1, Bool.eq_iff_iff]
  simp
theorem ok_osign {f : Addr} {fd : FuncData} (F : Fun K "is_odd_sign" "is_odd_sign" s_is_odd_sign f fd) (T : Txt K mg) : FnOk P w K mg base CX0 1 f fd ["sign"] sp_osign := by
  refine F.okq sc_is_odd_sign (fun vs H Q E h => ?_) (fun cdv A outer s H vs Q E hr h => ?_)
  · obtain ⟨v, rfl, _⟩ := h
    rfl
  · obtain ⟨c, rfl, q⟩ := h
    refine ⟨_, qss_one (qs_ret (qe_and (qe_chain op_leA op_leA (qe_str) (qv 0) (qe_str)) (qe_one (qe_cmpR (k_notin K) (qv 0) (qe_str) (by rfl))))), ?_⟩
    walk_at "r"
    have e : oddC c = (decide (33 ≤ c) && decide (c ≤ 126) && !decide (c ∈ BR.cps.toList)) := rfl
    rw [e] at q
    refine .inr ⟨_, _, rfl, rfl, _, rfl, ?_⟩
    rw [le_first]
    refine ite2 (fun h => ?_) (fun h => ?_)
    · rw [h, Bool.true_and] at q
      walk_at "r"
      refine .inr ⟨_, _, rfl, rfl, _, rfl, ?_⟩
      rw [le_last]
      refine ite2 (fun h => ?_) (fun h => ?_)
      · rw [h, Bool.true_and] at q
        walk_at "r"
        exact .inr ⟨c, BR, rfl, rfl, q⟩
      · have h : decide (c ≤ 126) = false := by simpa using h
        rw [h, Bool.false_and] at q
        exact q
    · have h : decide (33 ≤ c) = false := by simpa using h
      rw [h, Bool.false_and, Bool.false_and] at q
      exact ⟨_, rfl, iteF q⟩
end
end K12

set_option Elab.async false
set_option linter.all false
set_option maxRecDepth 100000
set_option maxHeartbeats 4000000
namespace K12
open PySem L2 K10
section
variable {P : Program} {w : World} {K : PySem.W.Frag} {mg : Str → Option Value} {base : Heap}
def sp_odd (K : PySem.W.Frag) : Sp := fun vs H Q _ => ∃ v, vs = [v] ∧ Has K H v ∧ ∀ H', Same H H' → Q (.bl (oddV v)) H'
theorem nd_is_odd_1 : (["sign"] : List Str).Nodup := by decide +kernel
theorem sc_is_odd : FnScope ["thing"] ["thing"] (defScope s_is_odd) := ⟨rfl, rfl, rfl, by decide +kernel, rfl, by decide +kernel, by decide +kernel⟩
theorem ok_odd {f : Addr} {fd : FuncData} (F : Fun K "is_odd" "is_odd" s_is_odd f fd) (T : Txt K mg) (G : Gs P w K mg) (C_is_odd_sign : Callee P w K mg base 1 "is_odd_sign" ["sign"] sp_osign) (C_is_name : Callee P w K mg base 1 "is_name" ["thing"] (sp_name K)) (C_is_figures : Callee P w K mg base 1 "is_figures" ["text"] sp_fig) : FnOk P w K mg base CX0 2 f fd ["thing"] (sp_odd K) := by
  refine F.okq sc_is_odd (fun vs H Q E h => ?_) (fun cdv A outer s H vs Q E hr h => ?_)
  · obtain ⟨v, rfl, _⟩ := h
    rfl
  · obtain ⟨v, rfl, ⟨t, ht⟩, q⟩ := h
    obtain ⟨a10, G_WORDS_NOT_ODD, h10⟩ := G.w10
    refine ⟨_, qss_cons (qs_if (QW.qt (qw_or (qt_not (qt_val (qe_callB (k_isi K "str") (by rfl) T.isinstance (by decide +kernel) (qa_cons (qv 0) (qa_cons (qe_bltn (v := .ty "str") (by rfl) T.str (by decide +kernel) rfl) qa_nil))))) (qw_or1 (qt_not (qt_chain op_leA op_leA (qe_int) (qe_callB (k_len K) (by rfl) T.len (by decide +kernel) (qa_cons (qv 0) qa_nil)) (qe_int)))))) (qss_one (qs_ret (qe_bl))) (qss_nil))
      (qss_cons (qs_if (qt_not (qt_val (qe_callB (k_all K rfl) (by rfl) T.all (by decide +kernel) (qa_cons (qe_comp (N := ["sign"]) (σ0 := capSt 1 []) rfl (cscope_fn rfl (by decide +kernel) (by decide +kernel) (by decide +kernel)) (qi_anyK K (qv 0)) (takes_in rfl (by rfl)) (fun _ _ _ _ => qg_name (i := 0) nd_is_odd_1 rfl (Or.inl rfl)) (fun _ _ _ _ => qts_nil) (fun _ _ _ _ => qe_fn C_is_odd_sign (hr.mono (by decide)) (qa_cons (qv 0) qa_nil))) qa_nil)))) (qss_one (qs_ret (qe_bl))) (qss_nil))
      (qss_one (qs_ret (qe_and (qe_not (qe_fn C_is_name (hr.mono (by decide)) (qa_cons (qv 0) qa_nil))) (qe_and (qe_cmpR (k_notin K) (qv 0) (qe_gl G_WORDS_NOT_ODD) (by rfl)) (qe_one (qe_not (qe_fn C_is_figures (hr.mono (by decide)) (qa_cons (qv 0) qa_nil))))))))), ?_⟩
    have bg := big
    walk_at "r"
    refine s_isiN ht (by simp) ?_
    walk_at "r"
    cases h1 : kitT t "str" with
    | false =>
      have e : oddV v = false := by cases ht <;> first | rfl | (cases h1)
      walk_at "r"
      rw [e] at q
      exact q H (Same.refl H)
    | true =>
      obtain ⟨z, rfl, hz⟩ : ∃ z, v = .str z ∧ z.length ≤ 1000 := by
        cases ht <;> first | exact ⟨_, rfl, by assumption⟩ | (cases h1)
      walk_at "r"
      refine s_len_str (by omega) ?_
      walk_at "r"
      have e : oddV (.str z) = (decide (1 ≤ z.length) && decide (z.length ≤ 60) && z.cps.toList.all oddC && !nameB z && !isIn z W10 && !figB z) := rfl
      rw [e] at q
      refine ite2 (fun h => ?_) (fun h => ?_)
      · have l1 : 1 ≤ z.length := by have := of_decide_eq_true h; omega
        walk_at "r"
        refine ite2 (fun h' => ?_) (fun h' => ?_)
        · have l2 : ¬ z.length ≤ 60 := fun x => by simp at h'; omega
          walk_at "r"
          have := q H (Same.refl H)
          rw [decide_eq_false l2, Bool.and_false] at this
          exact this
        · have l2 : z.length ≤ 60 := by simp at h'; omega
          walk_at "r"
          refine .inr (.inr ⟨z, rfl, fun D hD => ?_⟩)
          refine comp_str (z := z) (Pv := fun i ys σ' H' => ∃ sv, σ' = [sv] ∧ ys = ((z.cps.toList.take i).map oddC).map V.bl ∧ Same H H') ⟨none, rfl, rfl, Same.upd hD⟩ ?_ ?_
          · rintro i c ys σ' H' hc hys ⟨sv, rfl, rfl, hH⟩
            walk_at "r"
            have hi := take_lt hc
            refine ⟨c, rfl, ?_⟩
            refine ⟨_, hys, by rw [List.length_map, List.length_map, List.length_take]; omega, _, upd_same, _, rfl, ?_, hH.over hD⟩
            rw [take_snoc hc, List.map_append, List.map_append]
            rfl
          · rintro ys σ' H' hys ⟨sv, rfl, rfl, hH⟩
            walk_at "r"
            refine ⟨D, _, rfl, SqL.of hys, ?_⟩
            rw [all_take]
            rw [decide_eq_true l1, decide_eq_true l2, Bool.true_and, Bool.true_and] at q
            walk_at "r"
            refine ite2 (fun hA => ?_) (fun hA => ?_)
            · have hA : z.cps.toList.all oddC = false := by simpa using hA
              rw [hA] at q
              walk_at "r"
              exact q H' hH
            · have hA : z.cps.toList.all oddC = true := by simpa using hA
              rw [hA, Bool.true_and] at q
              walk_at "r"
              refine ⟨_, rfl, ⟨_, .str z hz⟩, fun H2 s2 => ?_⟩
              walk_at "r"
              show if (!nameB z) = true then _ else _
              refine ite2 (fun hN => ?_) (fun hN => ?_)
              · rw [hN, Bool.true_and] at q
                walk_at "r"
                refine s_in_seq (.inr (h10 _)) rfl flat_strs ?_
                rw [if_pos rfl, in_strs]
                walk_at "r"
                refine ite2 (fun hW => ?_) (fun hW => ?_)
                · rw [hW, Bool.true_and] at q
                  walk_at "r"
                  refine ⟨_, rfl, hz, fun H3 s3 => ?_⟩
                  walk_at "r"
                  exact q H3 ((hH.trans s2).trans s3)
                · have hW : (!isIn z W10) = false := by simpa using hW
                  rw [hW] at q
                  exact q H2 (hH.trans s2)
              · have hN : (!nameB z) = false := by simpa using hN
                rw [hN] at q
                exact q H2 (hH.trans s2)
      · have l1 : ¬ 1 ≤ z.length := fun x => h (decide_eq_true (by omega))
        walk_at "r"
        have := q H (Same.refl H)
        rw [decide_eq_false l1] at this
        exact this
end
end K12

set_option Elab.async false
set_option linter.all false
set_option maxRecDepth 100000
set_option maxHeartbeats 4000000
namespace K12
open PySem L2 K10
section
variable {P : Program} {w : World} {K : PySem.W.Frag} {mg : Str → Option Value} {base : Heap}
def sp_word (K : PySem.W.Frag) : Sp := fun vs H Q _ => ∃ v, vs = [v] ∧ Has K H v ∧ Q (.bl (wordV v)) H
theorem sc_is_word : FnScope ["thing"] ["thing"] (defScope s_is_word) := ⟨rfl, rfl, rfl, by decide +kernel, rfl, by decide +kernel, by decide +kernel⟩
theorem ok_word {f : Addr} {fd : FuncData} (F : Fun K "is_word" "is_word" s_is_word f fd) (T : Txt K mg) (G : Gs P w K mg) : FnOk P w K mg base CX0 1 f fd ["thing"] (sp_word K) := by
  refine F.okq sc_is_word (fun vs H Q E h => ?_) (fun cdv A outer s H vs Q E hr h => ?_)
  · obtain ⟨v, rfl, _⟩ := h
    rfl
  · obtain ⟨v, rfl, ⟨t, ht⟩, q⟩ := h
    obtain ⟨ap, G_PARTS_OF_WORDS, hp⟩ := G.pw
    refine ⟨_, qss_one (qs_ret (qe_and (qe_callB (k_isi K "str") (by rfl) T.isinstance (by decide +kernel) (qa_cons (qv 0) (qa_cons (qe_bltn (v := .ty "str") (by rfl) T.str (by decide +kernel) rfl) qa_nil))) (qe_one (qe_cmpR (k_inD P w K) (qv 0) (qe_gl G_PARTS_OF_WORDS) (by rfl))))), ?_⟩
    walk_at "r"
    refine s_isiN ht (by simp) ?_
    walk_at "r"
    cases h1 : kitT t "str" with
    | false =>
      have e : wordV v = false := by cases ht <;> first | rfl | (cases h1)
      rw [e] at q
      exact iteF q
    | true =>
      obtain ⟨z, rfl, hz⟩ : ∃ z, v = .str z ∧ z.length ≤ 1000 := by
        cases ht <;> first | exact ⟨_, rfl, by assumption⟩ | (cases h1)
      walk_at "r"
      refine ⟨z, ap, PARTS, rfl, rfl, hp, ?_⟩
      rw [parts_eq, Option.isSome_map]
      exact q
end
end K12

set_option Elab.async false
set_option linter.all false
set_option maxRecDepth 100000
set_option maxHeartbeats 4000000
namespace K12
open PySem L2 K10
section
variable {P : Program} {w : World} {K : PySem.W.Frag} {mg : Str → Option Value} {base : Heap}
inductive Nt where
  | fl (v : V)
  | tp (xs : List V)
  | ot
def NtAt (K : PySem.W.Frag) (H : Hp) (v : V) : Nt → Prop
  | .fl u => v = u ∧ ∃ t, TyN K H u t ∧ kitT t "tuple" = false
  | .tp xs => ∃ a, v = .ref a ∧ SqT K H a xs ∧ ∀ x ∈ xs, Has K H x
  | .ot => ∃ a t, v = .ref a ∧ TyN K H v t ∧ kitT t "tuple" = false
theorem NtAt.same {K : PySem.W.Frag} {H H' : Hp} {v : V} {n : Nt} (h : NtAt K H v n) (e : Same H H') : NtAt K H' v n := by
  cases n with
  | fl u => obtain ⟨h1, t, h2, h3⟩ := h; exact ⟨h1, t, h2.same e, h3⟩
  | tp xs => obtain ⟨a, h1, h2, h3⟩ := h; exact ⟨a, h1, e.t.tup h2, fun x hx => (h3 x hx).same e⟩
  | ot => obtain ⟨a, t, h1, h2, h3⟩ := h; exact ⟨a, t, h1, h2.same e, h3⟩
theorem NtAt.has {K : PySem.W.Frag} {H : Hp} {v : V} {n : Nt} (h : NtAt K H v n) : Has K H v := by
  cases n with
  | fl u => obtain ⟨rfl, t, h2, h3⟩ := h; exact ⟨t, h2⟩
  | tp xs => obtain ⟨a, rfl, h2, h3⟩ := h; exact ⟨_, .tup h2⟩
  | ot => obtain ⟨a, t, rfl, h2, h3⟩ := h; exact ⟨t, h2⟩
def twoN : Nt → Bool
  | .tp [x, y] => nameV x && nameV y
  | _ => false
def sp_two (K : PySem.W.Frag) : Sp := fun vs H Q _ => ∃ v n, vs = [v] ∧ NtAt K H v n ∧ ∀ H', Same H H' → Q (.bl (twoN n)) H'
theorem sc_is_two_names : FnScope ["thing"] ["thing"] (defScope s_is_two_names) := ⟨rfl, rfl, rfl, by decide +kernel, rfl, by decide +kernel, by decide +kernel⟩
theorem ok_two {f : Addr} {fd : FuncData} (F : Fun K "is_two_names" "is_two_names" s_is_two_names f fd) (T : Txt K mg) (C_is_name : Callee P w K mg base 1 "is_name" ["thing"] (sp_name K)) : FnOk P w K mg base CX0 2 f fd ["thing"] (sp_two K) := by
  refine F.okq sc_is_two_names (fun vs H Q E h => ?_) (fun cdv A outer s H vs Q E hr h => ?_)
  · obtain ⟨v, n, rfl, _⟩ := h
    rfl
  · obtain ⟨v, n, rfl, hn, q⟩ := h
    refine ⟨_, qss_one (qs_ret (qe_and (qe_callB (k_isi K "tuple") (by rfl) T.isinstance (by decide +kernel) (qa_cons (qv 0) (qa_cons (qe_bltn (v := .ty "tuple") (by rfl) T.tuple (by decide +kernel) rfl) qa_nil))) (qe_and (qe_cmpR (k_eq K hr.u200) (qe_callB (k_len K) (by rfl) T.len (by decide +kernel) (qa_cons (qv 0) qa_nil)) (qe_int) (nomark _)) (qe_and (qe_fn C_is_name (hr.mono (by decide)) (qa_cons (qe_ix (k_ix K) (qv 0) (qe_int) (fun _ _ => rfl)) qa_nil)) (qe_one (qe_fn C_is_name (hr.mono (by decide)) (qa_cons (qe_ix (k_ix K) (qv 0) (qe_int) (fun _ _ => rfl)) qa_nil))))))), ?_⟩
    walk_at "r"
    have no : ∀ t, TyN K H v t → kitT t "tuple" = false → twoN n = false → rIsi K "tuple" [v, .ty "tuple"] H fun x H1 => ∃ k, x = .bl k ∧ if k = true then (tAndV (tOp (rEqA K) (tCB (rLen K) (tCons (tVar 0) tNil)) (tC (.int 2))) (tAndV (tCall (sp_name K) [] E (tCons (tOp (rIx K) (tVar 0) (tC (.int 0))) tNil)) (tCall (sp_name K) [] E (tCons (tOp (rIx K) (tVar 0) (tC (.int 1))) tNil)))) (L2.start ["thing"] [v]) H1 Q else Q (.bl false) H1 := by
      intro t ht hk h2
      refine s_isiN ht (by simp) ⟨_, rfl, ?_⟩
      rw [hk]
      have := q H (Same.refl H)
      rw [h2] at this
      exact iteF this
    cases n with
    | fl u =>
      obtain ⟨rfl, t, ht, hk⟩ := hn
      exact no t ht hk rfl
    | ot =>
      obtain ⟨a, t, rfl, ht, hk⟩ := hn
      exact no t ht hk rfl
    | tp xs =>
      obtain ⟨a, rfl, hq, hx⟩ := hn
      refine s_isiN (.tup hq) (by simp) ?_
      show ∃ k, V.bl true = V.bl k ∧ _
      walk_at "r"
      refine s_len_tup hq ?_
      walk_at "r"
      match xs, hq, hx, q with
      | [x, y], hq, hx, q =>
        refine iteT ?_
        walk_at "r"
        refine s_ix_tup hq (v := x) rfl ?_
        walk_at "r"
        refine ⟨_, rfl, hx x (by simp), fun H1 s1 => ?_⟩
        have e : twoN (.tp [x, y]) = (nameV x && nameV y) := rfl
        rw [e] at q
        walk_at "r"
        refine ite2 (fun h => ?_) (fun h => ?_)
        · rw [h, Bool.true_and] at q
          walk_at "r"
          refine s_ix_tup (s1.t.tup hq) (v := y) rfl ?_
          walk_at "r"
          exact ⟨_, rfl, (hx y (by simp)).same s1, fun H2 s2 => q H2 (s1.trans s2)⟩
        · have h : nameV x = false := by simpa using h
          rw [h, Bool.false_and] at q
          exact q H1 s1
      | [], hq, hx, q => exact iteF (q H (Same.refl H))
      | [x], hq, hx, q => exact iteF (q H (Same.refl H))
      | x :: y :: z :: r, hq, hx, q =>
        refine ite2 (fun h => ?_) (fun h => q H (Same.refl H))
        have := of_decide_eq_true h
        have h2 : (((x :: y :: z :: r).length : Nat) : Int) = 2 := V.int.inj this
        simp only [List.length_cons] at h2
        omega
end
end K12

set_option Elab.async false
set_option linter.all false
set_option maxRecDepth 100000
set_option maxHeartbeats 4000000
namespace K12
open PySem L2 K10
section
variable {P : Program} {w : World} {K : PySem.W.Frag} {mg : Str → Option Value} {base : Heap}
def nameN : Nt → Bool
  | .fl v => nameV v
  | _ => false
def oddN : Nt → Bool
  | .fl v => oddV v
  | _ => false
def numN : Nt → Bool
  | .fl (.int i) => decide (0 ≤ i) && decide (i < 10 ^ 18)
  | _ => false
def truthN : Nt → Bool
  | .fl (.bl _) => true
  | _ => false
def nonN : Nt → Bool
  | .fl .non => true
  | _ => false
def noteB (wd : Str) (n : Nt) : Bool :=
  if wd = "odd" then oddN n else if wd = "num" then numN n else if wd = "truth" then truthN n else if wd ∈ (["name", "fn", "let"] : List Str) then nameN n else if wd = "rec" then twoN n else nonN n
theorem NtAt.name {K : PySem.W.Frag} {H : Hp} {v : V} {n : Nt} (h : NtAt K H v n) : nameV v = nameN n ∧ oddV v = oddN n ∧ (wholeV v = true ↔ ∃ i, v = .int i ∧ n = .fl (.int i)) ∧ (decide (v = .bl true) || decide (v = .bl false)) = truthN n ∧ decide (v = .non) = nonN n := by
  cases n with
  | fl u =>
    obtain ⟨rfl, t, h2, h3⟩ := h
    cases h2 <;> first | (exact ⟨rfl, rfl, by simp [wholeV], rfl, rfl⟩) | (exact ⟨rfl, rfl, by simp [wholeV], by decide, rfl⟩) | skip
    rename_i b
    exact ⟨rfl, rfl, by simp [wholeV], by cases b <;> rfl, rfl⟩
  | tp xs =>
    obtain ⟨a, rfl, h2, h3⟩ := h
    exact ⟨rfl, rfl, by simp [wholeV], rfl, rfl⟩
  | ot =>
    obtain ⟨a, t, rfl, h2, h3⟩ := h
    exact ⟨rfl, rfl, by simp [wholeV], rfl, rfl⟩
theorem dec_str (a b : Str) : decide (V.str a = V.str b) = decide (a = b) := by
  by_cases h : a = b
  · simp [h]
  · simp [h]
def sp_note (K : PySem.W.Frag) : Sp := fun vs H Q _ => ∃ wd v n, vs = [.str wd, v] ∧ NtAt K H v n ∧ ∀ H', Same H H' → Q (.bl (noteB wd n)) H'
theorem sc_is_note : FnScope ["word", "note"] ["word", "note"] (defScope s_is_note) := ⟨rfl, rfl, rfl, by decide +kernel, rfl, by decide +kernel, by decide +kernel⟩
theorem ok_note {f : Addr} {fd : FuncData} (F : Fun K "is_note" "is_note" s_is_note f fd) (T : Txt K mg) (C_is_whole : Callee P w K mg base 1 "is_whole" ["thing"] (sp_whole K)) (C_is_name : Callee P w K mg base 1 "is_name" ["thing"] (sp_name K)) (C_is_odd : Callee P w K mg base 2 "is_odd" ["thing"] (sp_odd K)) (C_is_two_names : Callee P w K mg base 2 "is_two_names" ["thing"] (sp_two K)) : FnOk P w K mg base CX0 3 f fd ["word", "note"] (sp_note K) := by
  refine F.okq sc_is_note (fun vs H Q E h => ?_) (fun cdv A outer s H vs Q E hr h => ?_)
  · obtain ⟨wd, v, n, rfl, _⟩ := h
    rfl
  · obtain ⟨wd, v, n, rfl, hn, q⟩ := h
    refine ⟨_, qss_cons (qs_if (qt_cmpR (k_eq K hr.u200) (qv 0) (qe_str) (nomark _)) (qss_one (qs_ret (qe_fn C_is_odd (hr.mono (by decide)) (qa_cons (qv 1) qa_nil)))) (qss_nil))
      (qss_cons (qs_if (qt_cmpR (k_eq K hr.u200) (qv 0) (qe_str) (nomark _)) (qss_one (qs_ret (qe_and (qe_fn C_is_whole (hr.mono (by decide)) (qa_cons (qv 1) qa_nil)) (qe_one (qe_chain op_leA op_ltA (qe_int) (qv 1) (qe_op op_pow (qe_int) (qe_int))))))) (qss_nil))
      (qss_cons (qs_if (qt_cmpR (k_eq K hr.u200) (qv 0) (qe_str) (nomark _)) (qss_one (qs_ret (qe_or (qe_cmpR op_isB (qv 1) (qe_bl) (nomark _)) (qe_one (qe_cmpR op_isB (qv 1) (qe_bl) (nomark _)))))) (qss_nil))
      (qss_cons (qs_if (qt_cmpR (k_in K) (qv 0) (qe_tup (qa_cons (qe_str) (qa_cons (qe_str) (qa_cons (qe_str) qa_nil)))) (by rfl)) (qss_one (qs_ret (qe_fn C_is_name (hr.mono (by decide)) (qa_cons (qv 1) qa_nil)))) (qss_nil))
      (qss_cons (qs_if (qt_cmpR (k_eq K hr.u200) (qv 0) (qe_str) (nomark _)) (qss_one (qs_ret (qe_fn C_is_two_names (hr.mono (by decide)) (qa_cons (qv 1) qa_nil)))) (qss_nil))
      (qss_one (qs_ret (qe_cmp (qc_isN (qv 1))))))))), ?_⟩
    obtain ⟨e1, e2, e3, e4, e5⟩ := hn.name
    unfold noteB at q
    walk_at "r"
    rw [dec_str]
    refine ite2 (fun h => ?_) (fun h => ?_)
    · rw [if_pos (of_decide_eq_true h), ← e2] at q
      walk_at "r"
      exact ⟨_, rfl, hn.has, q⟩
    rw [if_neg (fun x => h (decide_eq_true x))] at q
    walk_at "r"
    rw [dec_str]
    refine ite2 (fun h => ?_) (fun h => ?_)
    · rw [if_pos (of_decide_eq_true h)] at q
      walk_at "r"
      refine ⟨_, rfl, hn.has, ?_⟩
      walk_at "r"
      refine ite2 (fun h => ?_) (fun h => ?_)
      · obtain ⟨i, rfl, rfl⟩ := e3.mp h
        have e : numN (.fl (.int i)) = (decide (0 ≤ i) && decide (i < 10 ^ 18)) := rfl
        rw [e] at q
        walk_at "r"
        refine ite2 (fun h => ?_) (fun h => ?_)
        · rw [h, Bool.true_and] at q
          walk_at "r"
          exact q H (Same.refl H)
        · have h : decide (0 ≤ i) = false := by simpa using h
          rw [h, Bool.false_and] at q
          exact q H (Same.refl H)
      · have e : numN n = false := by
          cases hx : numN n with
          | false => rfl
          | true =>
            cases n with
            | fl u =>
              obtain ⟨rfl, _⟩ := hn
              cases v <;> first | (cases hx) | (exact absurd rfl h)
            | tp xs => cases hx
            | ot => cases hx
        rw [e] at q
        exact q H (Same.refl H)
    rw [if_neg (fun x => h (decide_eq_true x))] at q
    walk_at "r"
    rw [dec_str]
    refine ite2 (fun h => ?_) (fun h => ?_)
    · rw [if_pos (of_decide_eq_true h), ← e4] at q
      walk_at "r"
      refine ⟨true, rfl, ?_⟩
      walk_at "r"
      refine ite2 (fun h => ?_) (fun h => ?_)
      · rw [h, Bool.true_or] at q
        exact q H (Same.refl H)
      · have h : decide (v = .bl true) = false := by simpa using h
        rw [h, Bool.false_or] at q
        walk_at "r"
        exact ⟨false, rfl, q H (Same.refl H)⟩
    rw [if_neg (fun x => h (decide_eq_true x))] at q
    walk_at "r"
    refine ⟨by show 3 ≤ sizeLine; decide, fun p hp => ?_⟩
    refine s_in_seq (.inr (SqT.of upd_same)) rfl rfl ?_
    have sm := Same.upd (o := .tup [.str "name", .str "fn", .str "let"]) hp
    have em : inV (.str wd) [.str "name", .str "fn", .str "let"] = decide (wd ∈ (["name", "fn", "let"] : List Str)) := by
      have := in_strs (t := wd) (ws := ["name", "fn", "let"])
      rw [show ([V.str "name", V.str "fn", V.str "let"] : List V) = (["name", "fn", "let"] : List Str).map V.str from rfl, this]
      by_cases hm : wd ∈ (["name", "fn", "let"] : List Str)
      · rw [decide_eq_true hm, mem_isIn hm]
      · rw [decide_eq_false hm, not_isIn hm]
    rw [if_neg Bool.false_ne_true, em]
    walk_at "r"
    refine ite2 (fun h => ?_) (fun h => ?_)
    · rw [if_pos (of_decide_eq_true h), ← e1] at q
      walk_at "r"
      exact ⟨_, rfl, hn.has.same sm, fun H' s' => q H' (sm.trans s')⟩
    rw [if_neg (fun x => h (decide_eq_true x))] at q
    walk_at "r"
    rw [dec_str]
    refine ite2 (fun h => ?_) (fun h => ?_)
    · rw [if_pos (of_decide_eq_true h)] at q
      walk_at "r"
      exact ⟨_, _, rfl, hn.same sm, fun H' s' => q H' (sm.trans s')⟩
    rw [if_neg (fun x => h (decide_eq_true x)), ← e5] at q
    walk_at "r"
    exact q _ sm
end
end K12

set_option Elab.async false
set_option linter.all false
set_option maxRecDepth 100000
set_option maxHeartbeats 4000000
namespace K12
open PySem L2 K10
section
variable {P : Program} {w : World} {K : PySem.W.Frag} {mg : Str → Option Value} {base : Heap}
def sp_cell (K : PySem.W.Frag) : Sp := fun vs H Q _ => ∃ (a : Addr) (k : Int), vs = [.ref a, .int k] ∧ Script K H a ∧ 0 ≤ k ∧ ∀ z : Int, Q (.int z) H
theorem sc_law_cell : FnScope ["_law_script", "_law_k", "_law_many", "_law_first"] ["_law_script", "_law_k"] (defScope s_law_cell) := ⟨rfl, rfl, rfl, by decide +kernel, rfl, by decide +kernel, by decide +kernel⟩
theorem ok_cell {f : Addr} {fd : FuncData} (F : Fun K "_law_cell" "_law_cell" s_law_cell f fd) (T : Txt K mg) : FnOk P w K mg base CX0 1 f fd ["_law_script", "_law_k"] (sp_cell K) := by
  refine F.okq sc_law_cell (fun vs H Q E h => ?_) (fun cdv A outer s H vs Q E hr h => ?_)
  · obtain ⟨a, k, rfl, _⟩ := h
    rfl
  · obtain ⟨a, k, rfl, S, h0, q⟩ := h
    obtain ⟨ns, hS, hl⟩ := S.ex
    refine ⟨_, qss_cons (qs_if (qt_cmpR op_ltA (qv 1) (qe_callB (k_len K) (by rfl) T.len (by decide +kernel) (qa_cons (qv 0) qa_nil)) (nomark _)) (qss_one (qs_ret (qe_ix (k_ix K) (qv 0) (qv 1) (fun _ _ => rfl)))) (qss_nil))
      (qss_cons (qs_set (i := 2) sc_law_cell.nd rfl (Or.inl rfl) (qe_callB (k_len K) (by rfl) T.len (by decide +kernel) (qa_cons (qv 0) qa_nil)))
      (qss_cons (qs_set (i := 3) sc_law_cell.nd rfl (Or.inl rfl) (qe_int))
      (qss_cons (qs_if (qt_cmpR op_gt (qv 2) (qe_int) (nomark _)) (qss_one (qs_set (i := 3) sc_law_cell.nd rfl (Or.inl rfl) (qe_op op_mod (qe_ix (k_ix K) (qv 0) (qe_op op_mod (qv 1) (qv 2)) (fun _ _ => rfl)) (qe_int)))) (qss_nil))
      (qss_one (qs_ret (qe_op op_mod (qe_op (k_add K) (qe_op (k_add K) (qe_op op_mulA (qv 3) (qe_int)) (qe_op op_mulA (qv 2) (qe_int))) (qe_op op_mulA (qv 1) (qe_int))) (qe_int))))))), ?_⟩
    walk_at "r"
    refine s_len_lst hS ?_
    walk_at "r"
    refine ite2 (fun h => ?_) (fun h => ?_)
    · have h1 : k < (ns.map V.int).length := by simpa using h
      obtain ⟨v, hv, m⟩ := atI_in h0 h1
      obtain ⟨z, _, rfl⟩ := List.mem_map.mp m
      walk_at "r"
      exact s_ix_lst hS hv (q z)
    · walk_at "r"
      refine s_len_lst hS ?_
      walk_at "r"
      refine ite2 (fun h => ?_) (fun h => ?_)
      · have hp : (0 : Int) < (ns.map V.int).length := by simpa using h
        obtain ⟨v, hv, m⟩ := atI_in (xs := ns.map V.int) (Int.emod_nonneg k (by omega)) (Int.emod_lt_of_pos k hp)
        obtain ⟨z, _, rfl⟩ := List.mem_map.mp m
        walk_at "r"
        refine s_rI hp ?_
        refine s_ix_lst hS hv ?_
        walk_at "r"
        exact q _
      · walk_at "r"
        exact q _
end
end K12

set_option Elab.async false
set_option linter.all false
set_option maxRecDepth 100000
set_option maxHeartbeats 4000000
namespace K12
open PySem L2 K10
section
variable {P : Program} {w : World} {K : PySem.W.Frag} {mg : Str → Option Value} {base : Heap}
theorem lets_len : LET.cps.toList.length = 27 := by decide +kernel
theorem lets_size : LET.length ≤ sizeLine := by decide +kernel
theorem catlen (u v : Str) : (u ++ v).length = u.length + v.length := by
  show (u.cps ++ v.cps).size = _
  simp [Str.length]
theorem one_len (c : Nat) : (⟨#[c]⟩ : Str).length = 1 := rfl
theorem cat_cps (t u : Str) : (t ++ u).cps.toList = t.cps.toList ++ u.cps.toList := by
  show (t.cps ++ u.cps).toList = _
  simp
theorem allIn_cat (t u s : Str) : allIn (t ++ u) s = (allIn t s && allIn u s) := by
  unfold allIn
  rw [cat_cps, List.all_append]
theorem allIn_one {c : Nat} {s : Str} (h : c ∈ s.cps.toList) : allIn ⟨#[c]⟩ s = true := by
  unfold allIn
  simpa using h
theorem w9_lens : W9.all (fun t => decide (t.length ≤ 4)) = true := by decide +kernel
theorem w9_ends : W9.all (fun t => !(t.cps.toList.getLast? == some 95)) = true := by decide +kernel
theorem w9_len {t : Str} (h : t ∈ W9) : t.length ≤ 4 := of_decide_eq_true (List.all_eq_true.mp w9_lens t h)
theorem name_plain {t : Str} (h1 : 1 ≤ t.length) (h2 : t.length ≤ 8) (h3 : allIn t LET = true) (h4 : isIn t W9 = false) : nameB t = true := by
  unfold nameB
  rw [decide_eq_true h1, decide_eq_true h2, h3, h4]
  rfl
theorem name_len {t : Str} (h : nameB t = true) : allIn t LET = true ∧ t.length ≤ 8 := by
  unfold nameB at h
  simp only [Bool.and_eq_true, decide_eq_true_eq] at h
  exact ⟨h.1.2, h.1.1.2⟩
theorem us_codes : ("_" : Str).cps.toList = [95] := by decide +kernel
theorem name_add {t : Str} (h : allIn t LET = true) (hl : t.length + 1 ≤ 8) : nameB (t ++ ("_" : Str)) = true := by
  have l1 : (Str.ofString "_").length = 1 := by decide +kernel
  have la : (t ++ Str.ofString "_").length = t.length + 1 := by rw [catlen, l1]
  refine name_plain (by rw [la]; omega) (by rw [la]; exact hl) ?_ ?_
  · rw [allIn_cat, h, Bool.true_and]
    decide +kernel
  · refine not_isIn fun m => ?_
    have := List.all_eq_true.mp w9_ends _ m
    rw [cat_cps, us_codes] at this
    simp at this
def sp_names : Sp := fun vs H Q _ => ∃ (a b : Int), vs = [.int a, .int b] ∧ ∀ (p : Addr) (t0 t1 t2 : Str) (H' : Hp), nameB t0 = true → nameB t1 = true → nameB t2 = true → Same H H' → H p = none → H' p = some (.lst [.str t0, .str t1, .str t2]) → Q (.ref p) H'
theorem nd_law_names_1 : (["_law_k", "_law_one"] : List Str).Nodup := by decide +kernel
theorem sc_law_names : FnScope ["_law_one", "_law_other", "_law_letters", "_law_size", "_law_base", "_law_step", "_law_names_here", "_law_j", "_law_name", "_law_k", "_law_move"] ["_law_one", "_law_other"] (defScope s_law_names) := ⟨rfl, rfl, rfl, by decide +kernel, rfl, by decide +kernel, by decide +kernel⟩
theorem three {α : Type} {xs : List α} (h : xs.length = 3) : ∃ a b c, xs = [a, b, c] := by
  match xs, h with
  | [a, b, c], _ => exact ⟨a, b, c, rfl⟩
def NmJ (H : Hp) (a b : Int) (D p : Addr) (ms : List Int) (j : Nat) (σ' : St) (H' : Hp) : Prop := ∃ (v7 v8 v9 v10 : Option V) (ts : List Str), σ' = [some (.int a), some (.int b), some (.str LET), some (.int (1 + a % 8)), some (.ref D), some (.int (1 + b / 8 % 13)), some (.ref p), v7, v8, v9, v10] ∧ H' D = some (.lst (ms.map V.int)) ∧ H' p = some (.lst (ts.map V.str)) ∧ ts.length = j ∧ (∀ t ∈ ts, nameB t = true) ∧ Same H H'
theorem ok_names {f : Addr} {fd : FuncData} (F : Fun K "_law_names" "_law_names" s_law_names f fd) (T : Txt K mg) : FnOk P w K mg base CX0 1 f fd ["_law_one", "_law_other"] sp_names := by
  refine F.okq sc_law_names (fun vs H Q E h => ?_) (fun cdv A outer s H vs Q E hr h => ?_)
  · obtain ⟨a, b, rfl, _⟩ := h
    rfl
  · obtain ⟨a, b, rfl, q⟩ := h
    refine ⟨_, qss_cons (qs_set (i := 2) sc_law_names.nd rfl (Or.inl rfl) (qe_str))
      (qss_cons (qs_set (i := 3) sc_law_names.nd rfl (Or.inl rfl) (qe_op (k_add K) (qe_int) (qe_op op_mod (qv 0) (qe_int))))
      (qss_cons (qs_setC (i := 4) (N := ["_law_k", "_law_one"]) (σ0 := capSt 1 [0]) rfl (cscope_fn rfl (by decide +kernel) (by decide +kernel) (by decide +kernel)) (qi_range1 rfl T.range (qa_cons (qv 3) qa_nil)) (takes_in rfl (by rfl)) (fun _ _ _ _ => qg_name (i := 0) nd_law_names_1 rfl (Or.inl rfl)) (fun _ _ _ _ => qts_nil) (fun _ _ _ _ => qe_op op_mod (qe_op op_mod (qe_op op_mulA (qv 1) (qe_op (k_add K) (qe_op op_mulA (qe_int) (qv 0)) (qe_int))) (qe_int)) (qe_int)) sc_law_names.nd rfl (Or.inl rfl))
      (qss_cons (qs_set (i := 5) sc_law_names.nd rfl (Or.inl rfl) (qe_op (k_add K) (qe_int) (qe_op op_mod (qe_op op_fdiv (qv 1) (qe_int)) (qe_int))))
      (qss_cons (qs_set (i := 6) sc_law_names.nd rfl (Or.inl rfl) (qe_lst (qa_nil)))
      (qss_cons (qs_for PassesOwn.never rfl (qi_range1 rfl T.range (qa_cons (qe_int) qa_nil)) (qg_name (i := 7) sc_law_names.nd rfl (Or.inl rfl)) (qss_cons (qs_set (i := 8) sc_law_names.nd rfl (Or.inl rfl) (qe_str))
      (qss_cons (qs_for PassesOwn.never rfl (qi_range1 rfl T.range (qa_cons (qv 3) qa_nil)) (qg_name (i := 9) sc_law_names.nd rfl (Or.inl rfl)) (qss_cons (qs_set (i := 10) sc_law_names.nd rfl (Or.inl rfl) (qe_op op_mulA (qe_op op_mulA (qv 7) (qv 5)) (qe_callTy k_int (by rfl) T.int (by decide +kernel) (qa_cons (qe_cmpR (k_eq K hr.u200) (qv 9) (qe_op op_mod (qv 1) (qv 3)) (nomark _)) qa_nil))))
      (qss_one (qs_set (i := 8) sc_law_names.nd rfl (Or.inl rfl) (qe_op (k_add K) (qv 8) (qe_ix (k_ix K) (qv 2) (qe_op op_mod (qe_op (k_add K) (qe_ix (k_ix K) (qv 4) (qv 9) (fun _ _ => rfl)) (qv 10)) (qe_int)) (fun _ _ => rfl)))))))
      (qss_cons (qs_if (qt_cmpR (k_in K) (qv 8) (qe_tup (qa_consts (xs := [.str "let", .str "in", .str "if", .str "then", .str "else", .str "fn", .str "rec", .str "yes", .str "no"]) rfl)) (by rfl)) (qss_one (qs_set (i := 8) sc_law_names.nd rfl (Or.inl rfl) (qe_op (k_add K) (qv 8) (qe_str)))) (qss_nil))
      (qss_one (qs_expr (qe_bmK K PySem.F.plainAttrs_list PySem.F.slot_list_append PySem.F.type_list_append mt_append (qv 6) (qa_cons (qv 8) qa_nil))))))))
      (qss_cons (qs_if (QW.qt (qw_and (qt_cmpR (k_eq K hr.u200) (qe_op op_mod (qe_op op_fdiv (qv 1) (qe_int)) (qe_int)) (qe_int) (nomark _)) (qw_and1 (qt_cmpR op_ltA (qe_callB (k_len K) (by rfl) T.len (by decide +kernel) (qa_cons (qe_ix (k_ix K) (qv 6) (qe_int) (fun _ _ => rfl)) qa_nil)) (qe_int) (nomark _))))) (qss_one (qs_asg (qe_op (k_add K) (qe_ix (k_ix K) (qv 6) (qe_int) (fun _ _ => rfl)) (qe_str)) (qg_sub (qv 6) (qe_int) set_list))) (qss_nil))
      (qss_one (qs_ret (qv 6))))))))), ?_⟩
    have bg := big
    have hs0 : 0 ≤ a % 8 := Int.emod_nonneg a (by decide)
    have hs1 : a % 8 < 8 := Int.emod_lt_of_pos a (by decide)
    have hst0 : 0 ≤ b / 8 % 13 := Int.emod_nonneg _ (by decide)
    have hst1 : b / 8 % 13 < 13 := Int.emod_lt_of_pos _ (by decide)
    walk_at "r"
    refine ⟨by omega, by omega, fun D hD => ?_⟩
    refine comp_range (Pv := fun i ys σ' H' => ∃ kv ms, σ' = [kv, some (.int a)] ∧ ys = ms.map V.int ∧ ms.length = i ∧ Same H H') ⟨none, [], rfl, rfl, rfl, Same.upd hD⟩ ?_ ?_
    · rintro i ys σ' H' hi hys ⟨kv, ms, rfl, rfl, hl, hH⟩
      walk_at "r"
      refine s_mul_r (by omega) (by omega) ?_
      walk_at "r"
      refine ⟨_, hys, by rw [List.length_map]; omega, _, upd_same, ?_⟩
      exact ⟨_, ms ++ [_], rfl, by rw [List.map_append]; rfl, by simp [hl], hH.over hD⟩
    · rintro ys σ' H1 hys ⟨kv, ms, rfl, rfl, hl, hH⟩
      walk_at "r"
      refine ⟨by show 0 ≤ sizeLine; decide, fun p hp => ?_⟩
      have hpD : D ≠ p := fun z => by rw [z, hp] at hys; cases hys
      have hp0 : H p = none := hH.free hp
      have hys' : upd H1 p (.lst []) D = some (.lst (ms.map V.int)) := by rw [upd_ne hpD]; exact hys
      walk_at "r"
      refine ⟨by decide, by decide, ?_⟩
      refine for_range (n := 3) (NmJ H a b D p ms) ⟨_, _, _, _, [], rfl, hys', upd_same, rfl, (fun t h => nomatch h), hH.put hp⟩ ?_ ?_
      · rintro j σ' H2 hj ⟨v7, v8, v9, v10, ts, rfl, hD2, hp2, hl2, hle2, sm2⟩
        walk_at "r"
        refine ⟨by omega, by omega, ?_⟩
        refine for_range (n := (1 + a % 8).toNat) (fun k σ' H' => ∃ v9 v10 t, σ' = [some (.int a), some (.int b), some (.str LET), some (.int (1 + a % 8)), some (.ref D), some (.int (1 + b / 8 % 13)), some (.ref p), some (.int (0 + j)), some (.str t), v9, v10] ∧ t.length = k ∧ allIn t LET = true ∧ H' = H2) ⟨_, _, Str.empty, rfl, rfl, rfl, rfl⟩ ?_ ?_
        · rintro k σ' H3 hk ⟨v9', v10', t, rfl, hl3, ha3, rfl⟩
          walk_at "r"
          refine s_mul_l (by omega) (by omega) ?_
          walk_at "r"
          refine s_rI (by omega) ?_
          walk_at "r"
          refine s_mul_r (by split <;> decide) (by split <;> decide) ?_
          walk_at "r"
          have hk' : (k : Int) < ((ms.map V.int).length : Int) := by rw [List.length_map]; omega
          obtain ⟨v, hv, m⟩ := atI_in (xs := ms.map V.int) (i := 0 + (k : Int)) (by omega) (by omega)
          obtain ⟨z, _, rfl⟩ := List.mem_map.mp m
          refine s_ix_lst (SqL.of hD2) hv ?_
          walk_at "r"
          obtain ⟨c, hc, hcm⟩ := atI_in (xs := LET.cps.toList) (i := (z + (0 + (j : Int)) * (1 + b / 8 % 13) * (if decide (V.int (0 + (k : Int)) = V.int (b % (1 + a % 8))) = true then 1 else 0)) % 27) (Int.emod_nonneg _ (by decide)) (by rw [lets_len]; exact Int.emod_lt_of_pos _ (by decide))
          refine s_ix_str lets_size hc ?_
          refine s_add_str (by rw [one_len]; omega) ?_
          exact ⟨_, _, _, rfl, by rw [catlen, one_len]; omega, by rw [allIn_cat, ha3, allIn_one hcm]; rfl, rfl⟩
        · rintro σ' H3 ⟨v9', v10', t, rfl, hl3, ha3, rfl⟩
          walk_at "r"
          refine ⟨by show 9 ≤ sizeLine; decide, fun p9 h9 => ?_⟩
          refine s_in_seq (.inr (SqT.of upd_same)) rfl rfl ?_
          have nD : D ≠ p9 := fun z => by rw [z, h9] at hD2; cases hD2
          have np : p ≠ p9 := fun z => by rw [z, h9] at hp2; cases hp2
          have hpU : ∀ o, upd H3 p9 o p = some (.lst (ts.map V.str)) := fun o => by rw [upd_ne np]; exact hp2
          have hDU : ∀ o, upd H3 p9 o D = some (.lst (ms.map V.int)) := fun o => by rw [upd_ne nD]; exact hD2
          have smU : ∀ o, Same H (upd H3 p9 o) := fun o => sm2.put h9
          have fin : ∀ (t' : Str) (o : HO), nameB t' = true → NmJ H a b D p ms (j + 1) [some (.int a), some (.int b), some (.str LET), some (.int (1 + a % 8)), some (.ref D), some (.int (1 + b / 8 % 13)), some (.ref p), some (.int (0 + (j : Int))), some (.str t'), v9', v10'] (upd (upd H3 p9 o) p (.lst (ts.map V.str ++ [.str t']))) := fun t' o ht' =>
            ⟨_, _, _, _, ts ++ [t'], rfl, by rw [upd_ne hpD]; exact hDU o, by rw [upd_same, List.map_append]; rfl, by simp [hl2], fun u hu => by
              rcases List.mem_append.mp hu with hu | hu
              · exact hle2 u hu
              · rw [List.mem_singleton.mp hu]; exact ht', (smU o).over hp0⟩
          walk_at "r"
          have e9 : inV (.str t) [.str "let", .str "in", .str "if", .str "then", .str "else", .str "fn", .str "rec", .str "yes", .str "no"] = isIn t W9 := in_strs (ws := W9)
          have hln : t.length = (1 + a % 8).toNat := hl3
          refine ite2 (fun hin => ?_) (fun hin => ?_)
          · have hin : isIn t W9 = true := by rw [← e9]; exact hin
            have l4 := w9_len (isIn_mem hin)
            walk_at "r"
            have l1 : (Str.ofString "_").length = 1 := by decide +kernel
            refine s_add_str (by rw [l1]; omega) ?_
            walk_at "r"
            refine s_tyL (SqL.of (hpU _)) ?_
            walk_at "r"
            refine s_app (hpU _) (by rw [List.length_map]; omega) ?_
            exact fin _ _ (name_add ha3 (by omega))
          · have hin : isIn t W9 = false := by rw [← e9]; simpa using hin
            walk_at "r"
            refine s_tyL (SqL.of (hpU _)) ?_
            walk_at "r"
            refine s_app (hpU _) (by rw [List.length_map]; omega) ?_
            exact fin _ _ (name_plain (by omega) (by omega) ha3 hin)
      · rintro σ' H2 ⟨v7, v8, v9, v10, ts, rfl, hD2, hp2, hl2, hle2, sm2⟩
        obtain ⟨t0, t1, t2, rfl⟩ := three hl2
        have n0 := hle2 t0 (by simp)
        have n1 := hle2 t1 (by simp)
        have n2 := hle2 t2 (by simp)
        have l0 := (name_len n0).2
        walk_at "r"
        refine ite2 (fun _ => ?_) (fun _ => ?_)
        · walk_at "r"
          refine s_ix_lst (SqL.of hp2) (v := .str t0) rfl ?_
          walk_at "r"
          refine s_len_str (by omega) ?_
          walk_at "r"
          refine ite2 (fun h8 => ?_) (fun _ => ?_)
          · have h8 : t0.length < 8 := by have := of_decide_eq_true h8; omega
            walk_at "r"
            refine s_ix_lst (SqL.of hp2) (v := .str t0) rfl ?_
            have l1 : (Str.ofString "_").length = 1 := by decide +kernel
            refine s_add_str (by rw [l1]; omega) ?_
            walk_at "r"
            refine s_setL hp2 (j := 2) rfl ?_
            walk_at "r"
            exact q p _ _ _ _ n0 n1 (name_add (name_len n0).1 (by omega)) (sm2.over hp0) hp0 upd_same
          · walk_at "r"
            exact q p _ _ _ _ n0 n1 n2 sm2 hp0 hp2
        · walk_at "r"
          exact q p _ _ _ _ n0 n1 n2 sm2 hp0 hp2
end
end K12

set_option Elab.async false
set_option linter.all false
set_option maxRecDepth 100000
set_option maxHeartbeats 4000000
namespace K12
open PySem L2 K10
section
variable {P : Program} {w : World} {K : PySem.W.Frag} {mg : Str → Option Value} {base : Heap}
def SIG91 : Str := "!\"#$&'*+,-./0123456789:;<=>?@ABCDEFGHIJKLMNOPQRSTUVWXYZ[\\]^_`abcdefghijklmnopqrstuvwxyz{|}~"
def SIG27 : Str := "!\"#$&'*,./:;=>@AQZ[\\]^`{|}~"
theorem sig91_len : SIG91.cps.toList.length = 91 := by decide +kernel
theorem sig91_size : SIG91.length ≤ sizeLine := by decide +kernel
theorem sig27_len : SIG27.cps.toList.length = 27 := by decide +kernel
theorem sig27_size : SIG27.length ≤ sizeLine := by decide +kernel
theorem sig91_odd : SIG91.cps.toList.all oddC = true := by decide +kernel
theorem sig27_odd : SIG27.cps.toList.all oddC = true := by decide +kernel
theorem sig27_no : SIG27.cps.toList.all (fun d => !decide (d ∈ LET.cps.toList) && !decide (d ∈ DIG.cps.toList) && W10.all fun x => !decide (d ∈ x.cps.toList)) = true := by decide +kernel
theorem empty_eq : ("" : Str) = Str.empty := by decide +kernel
theorem not_allIn {t s : Str} {d : Nat} (h : d ∈ t.cps.toList) (hs : ¬ d ∈ s.cps.toList) : allIn t s = false := by
  cases e : allIn t s with
  | false => rfl
  | true => exact absurd (of_decide_eq_true (List.all_eq_true.mp e d h)) hs
theorem odd_of {t : Str} {d : Nat} (h1 : 1 ≤ t.length) (h2 : t.length ≤ 60) (ho : ∀ c ∈ t.cps.toList, oddC c = true) (hd : d ∈ t.cps.toList) (hs : d ∈ SIG27.cps.toList) : oddB t = true := by
  have hn := List.all_eq_true.mp sig27_no d hs
  simp only [Bool.and_eq_true, Bool.not_eq_true', decide_eq_false_iff_not] at hn
  obtain ⟨⟨n1, n2⟩, n3⟩ := hn
  unfold oddB nameB figB
  rw [not_allIn hd n1, not_allIn hd n2, decide_eq_true h1, decide_eq_true h2, List.all_eq_true.mpr ho, not_isIn (t := t) (ws := W10) (fun m => by
    have := List.all_eq_true.mp n3 t m
    simp only [Bool.not_eq_true', decide_eq_false_iff_not] at this
    exact this hd)]
  simp
theorem slice_ix (x : Str) (l u : Option Int) : (Txt.slice x l u).length ≤ (Builtin.Str.strSliceIndices l u 1 x.length).length := by
  unfold Txt.slice
  split
  · rename_i h
    simp at h
    omega
  · show (List.toArray _).size ≤ _
    rw [List.size_toArray]
    exact List.length_filterMap_le ..
theorem slice_cut (t : Str) (k : Int) (h : 0 ≤ k) : (Txt.slice t none (some k)).length + (Txt.slice t (some k) none).length ≤ t.length := by
  have h1 := slice_ix t none (some k)
  have h2 := slice_ix t (some k) none
  have h3 : (Builtin.Str.strSliceIndices none (some k) 1 t.length).length + (Builtin.Str.strSliceIndices (some k) none 1 t.length).length ≤ t.length := by
    unfold Builtin.Str.strSliceIndices sliceRange
    simp only [show (1 : Int) > 0 by decide, if_true, List.length_map, List.length_range]
    (repeat' split) <;> (try simp only [Int.ediv_one]) <;> omega
  omega
def sp_lodd : Sp := fun vs H Q _ => ∃ c : Int, vs = [.int c] ∧ ∀ (t : Str) (H' : Hp), oddB t = true → t.length ≤ 60 → Same H H' → Q (.str t) H'
theorem sum_ones {ts : List Str} (h : ∀ t ∈ ts, t.length = 1) : (ts.map (·.length)).sum = ts.length := by
  induction ts with
  | nil => rfl
  | cons t r ih =>
    rw [List.map_cons, List.sum_cons, h t List.mem_cons_self, ih fun u hu => h u (List.mem_cons_of_mem _ hu), List.length_cons]
    omega
theorem join_le {ts : List Str} (h : ∀ t ∈ ts, t.length = 1) : (Txt.join "" ts).length ≤ ts.length := by
  have e : ("" : Str) = Str.empty := by decide +kernel
  have := PySem.StrLaws.join_length_le Str.empty ts
  rw [sum_ones h, show Str.empty.length = 0 from rfl] at this
  unfold Txt.join
  rw [PySem.StrLaws.glued_eq_join, e]
  omega
theorem nd_law_odd_1 : (["_law_k", "_law_signs", "_law_cell_here"] : List Str).Nodup := by decide +kernel
theorem sc_law_odd : FnScope ["_law_cell_here", "_law_some", "_law_signs", "_law_size", "_law_text", "_law_at"] ["_law_cell_here"] (defScope s_law_odd) := ⟨rfl, rfl, rfl, by decide +kernel, rfl, by decide +kernel, by decide +kernel⟩
theorem ok_lodd {f : Addr} {fd : FuncData} (F : Fun K "_law_odd" "_law_odd" s_law_odd f fd) (T : Txt K mg) : FnOk P w K mg base CX0 1 f fd ["_law_cell_here"] sp_lodd := by
  refine F.okq sc_law_odd (fun vs H Q E h => ?_) (fun cdv A outer s H vs Q E hr h => ?_)
  · obtain ⟨a, rfl, _⟩ := h
    rfl
  · obtain ⟨c, rfl, q⟩ := h
    refine ⟨_, qss_cons (qs_set (i := 1) sc_law_odd.nd rfl (Or.inl rfl) (qe_lst (qa_consts (xs := [.str "in", .str "then", .str "else", .str "=", .str "=>", .str "007", .str "--", .str "??", .str "ninesigns"]) rfl)))
      (qss_cons (qs_if (qt_cmpR (k_eq K hr.u200) (qe_op op_mod (qv 0) (qe_int)) (qe_int) (nomark _)) (qss_one (qs_ret (qe_ix (k_ix K) (qv 1) (qe_op op_mod (qe_op op_fdiv (qv 0) (qe_int)) (qe_int)) (fun _ _ => rfl)))) (qss_nil))
      (qss_cons (qs_set (i := 2) sc_law_odd.nd rfl (Or.inr rfl) (qe_str))
      (qss_cons (qs_set (i := 3) sc_law_odd.nd rfl (Or.inl rfl) (qe_ix (k_ix K) (qe_lst (qa_consts (xs := [.int 2, .int 1, .int 5, .int 7, .int 60]) rfl)) (qe_op op_mod (qe_op op_fdiv (qv 0) (qe_int)) (qe_int)) (fun _ _ => rfl)))
      (qss_cons (qs_set (i := 4) sc_law_odd.nd rfl (Or.inl rfl) (qe_bmK K PySem.F.plainAttrs_str PySem.F.slot_str_join PySem.F.type_str_join (k_join K) (qe_str) (qa_cons (qe_comp (N := ["_law_k", "_law_signs", "_law_cell_here"]) (σ0 := capSt 1 [2, 0]) rfl (cscope_fn rfl (by decide +kernel) (by decide +kernel) (by decide +kernel)) (qi_range1 rfl T.range (qa_cons (qe_op op_sub (qv 3) (qe_int)) qa_nil)) (takes_in rfl (by rfl)) (fun _ _ _ _ => qg_name (i := 0) nd_law_odd_1 rfl (Or.inl rfl)) (fun _ _ _ _ => qts_nil) (fun _ _ _ _ => qe_ix (k_ix K) (qv 1) (qe_op op_mod (qe_op op_mod (qe_op op_mulA (qv 2) (qe_op (k_add K) (qv 0) (qe_int))) (qe_int)) (qe_int)) (fun _ _ => rfl))) qa_nil)))
      (qss_cons (qs_set (i := 5) sc_law_odd.nd rfl (Or.inl rfl) (qe_op op_mod (qe_op op_fdiv (qv 0) (qe_int)) (qv 3)))
      (qss_one (qs_ret (qe_op (k_add K) (qe_op (k_add K) (qe_slice (k_sl K) (qv 4) (qo_none) (qo_some (qv 5))) (qe_ix (k_ix K) (qe_str) (qe_op op_mod (qe_op op_fdiv (qv 0) (qe_int)) (qe_int)) (fun _ _ => rfl))) (qe_slice (k_sl K) (qv 4) (qo_some (qv 5)) (qo_none)))))))))), ?_⟩
    have bg := big
    walk_at "r"
    refine ⟨by show 9 ≤ sizeLine; decide, fun p hp => ?_⟩
    have sm := Same.upd (o := .lst [.str "in", .str "then", .str "else", .str "=", .str "=>", .str "007", .str "--", .str "??", .str "ninesigns"]) hp
    walk_at "r"
    refine ite2 (fun _ => ?_) (fun _ => ?_)
    · walk_at "r"
      obtain ⟨v, hv, m⟩ := atI_in (xs := ([.str "in", .str "then", .str "else", .str "=", .str "=>", .str "007", .str "--", .str "??", .str "ninesigns"] : List V)) (i := c / 3 % 9) (Int.emod_nonneg _ (by decide)) (Int.emod_lt_of_pos _ (by decide))
      obtain ⟨t, rfl, ho, hl⟩ : ∃ t, v = V.str t ∧ oddB t = true ∧ t.length ≤ 60 := by
        simp only [List.mem_cons, List.not_mem_nil, or_false] at m
        rcases m with h | h | h | h | h | h | h | h | h <;> exact ⟨_, h, by decide +kernel, by decide +kernel⟩
      exact s_ix_lst (SqL.of upd_same) hv (q t _ ho hl sm)
    · walk_at "r"
      refine ⟨by show 5 ≤ sizeLine; decide, fun p2 hp2 => ?_⟩
      have sm2 := sm.put (o := .lst [.int 2, .int 1, .int 5, .int 7, .int 60]) hp2
      walk_at "r"
      obtain ⟨v, hv, m⟩ := atI_in (xs := ([.int 2, .int 1, .int 5, .int 7, .int 60] : List V)) (i := c / 3 % 5) (Int.emod_nonneg _ (by decide)) (Int.emod_lt_of_pos _ (by decide))
      obtain ⟨n, rfl, n1, n2⟩ : ∃ n : Int, v = V.int n ∧ 1 ≤ n ∧ n ≤ 60 := by
        simp only [List.mem_cons, List.not_mem_nil, or_false] at m
        rcases m with h | h | h | h | h <;> exact ⟨_, h, by decide, by decide⟩
      refine s_ix_lst (SqL.of upd_same) hv ?_
      walk_at "r"
      refine ⟨rfl, ?_⟩
      walk_at "r"
      refine ⟨by omega, by omega, fun D hD => ?_⟩
      refine comp_range (Pv := fun i ys σ' H' => ∃ kv ts, σ' = [kv, some (.str SIG91), some (.int c)] ∧ ys = ts.map V.str ∧ ts.length = i ∧ (∀ t ∈ ts, t.length = 1) ∧ (∀ t ∈ ts, ∀ c ∈ t.cps.toList, oddC c = true) ∧ Same H H') ⟨none, [], rfl, rfl, rfl, (fun t h => nomatch h), (fun t h => nomatch h), sm2.put hD⟩ ?_ ?_
      · rintro i ys σ' H' hi hys ⟨kv, ts, rfl, rfl, hl, h1, h1o, hH⟩
        walk_at "r"
        refine s_mul_r (by omega) (by omega) ?_
        walk_at "r"
        obtain ⟨d, hd, hdm⟩ := atI_in (xs := SIG91.cps.toList) (i := c * (0 + (i : Int) + 6007) % 1000003 % 91) (Int.emod_nonneg _ (by decide)) (by rw [sig91_len]; exact Int.emod_lt_of_pos _ (by decide))
        refine s_ix_str sig91_size hd ?_
        refine ⟨_, hys, by rw [List.length_map]; omega, _, upd_same, ?_⟩
        refine ⟨_, ts ++ [⟨#[d]⟩], rfl, by rw [List.map_append]; rfl, by simp [hl], fun t ht => ?_, fun t ht => ?_, hH.over (sm2.free hD)⟩
        · rcases List.mem_append.mp ht with ht | ht
          · exact h1 t ht
          · rw [List.mem_singleton.mp ht]; rfl
        · rcases List.mem_append.mp ht with ht | ht
          · exact h1o t ht
          · rw [List.mem_singleton.mp ht]
            intro c hc
            have : c = d := by simpa using hc
            rw [this]
            exact List.all_eq_true.mp sig91_odd d hdm
      · rintro ys σ' H1 hys ⟨kv, ts, rfl, rfl, hl, h1, h1o, hH⟩
        have e0 : (Str.ofString "").length = 0 := by decide +kernel
        walk_at "r"
        refine s_join (K := K) (SqL.of hys) (by rw [sum_ones h1, e0]; omega) ?_
        have jl := join_le h1
        walk_at "r"
        refine s_rI (by omega) ?_
        walk_at "r"
        refine s_sl_str (by omega) ?_
        walk_at "r"
        obtain ⟨d, hd, hdm⟩ := atI_in (xs := SIG27.cps.toList) (i := c / 7 % 27) (Int.emod_nonneg _ (by decide)) (by rw [sig27_len]; exact Int.emod_lt_of_pos _ (by decide))
        refine s_ix_str sig27_size hd ?_
        have l1 := Txt.slice_le (Txt.join "" ts) none (some (c / 15 % n))
        have l2 := Txt.slice_le (Txt.join "" ts) (some (c / 15 % n)) none
        refine s_add_str (by rw [one_len]; omega) ?_
        walk_at "r"
        refine s_sl_str (by omega) ?_
        refine s_add_str (by rw [catlen, one_len]; omega) ?_
        have jo : ∀ c ∈ (Txt.join "" ts).cps.toList, oddC c = true := fun c hc => by
          rw [empty_eq] at hc
          obtain ⟨t, m, hc⟩ := joinT_mem hc
          exact h1o t m c hc
        have sl := slice_cut (Txt.join "" ts) (c / 15 % n) (Int.emod_nonneg _ (by omega))
        refine q _ _ (odd_of (d := d) (by rw [catlen, catlen, one_len]; omega) (by rw [catlen, catlen, one_len]; omega) ?_ (by rw [cat_cps, cat_cps]; simp) hdm) (by rw [catlen, catlen, one_len]; omega) hH
        intro e he
        rw [cat_cps, cat_cps] at he
        rcases List.mem_append.mp he with he | he
        · rcases List.mem_append.mp he with he | he
          · exact jo e (slice_mem he)
          · have : e = d := by simpa using he
            rw [this]
            exact List.all_eq_true.mp sig27_odd d hdm
        · exact jo e (slice_mem he)
end
end K12

set_option Elab.async false
set_option linter.all false
set_option maxRecDepth 100000
set_option maxHeartbeats 4000000
namespace K12
open PySem L2 K10
section
variable {P : Program} {w : World} {K : PySem.W.Frag} {mg : Str → Option Value} {base : Heap}
def sp_num : Sp := fun vs H Q _ => ∃ c : Int, vs = [.int c] ∧ ∀ z : Int, 0 ≤ z → z < 10 ^ 18 → Q (.int z) H
theorem sc_law_number : FnScope ["_law_cell_here"] ["_law_cell_here"] (defScope s_law_number) := ⟨rfl, rfl, rfl, by decide +kernel, rfl, by decide +kernel, by decide +kernel⟩
theorem ok_num {f : Addr} {fd : FuncData} (F : Fun K "_law_number" "_law_number" s_law_number f fd) (T : Txt K mg) : FnOk P w K mg base CX0 1 f fd ["_law_cell_here"] sp_num := by
  refine F.okq sc_law_number (fun vs H Q E h => ?_) (fun cdv A outer s H vs Q E hr h => ?_)
  · obtain ⟨a, rfl, _⟩ := h
    rfl
  · obtain ⟨c, rfl, q⟩ := h
    refine ⟨_, qss_cons (qs_if (qt_cmpR (k_eq K hr.u200) (qe_op op_mod (qv 0) (qe_int)) (qe_int) (nomark _)) (qss_one (qs_ret (qe_op op_mod (qe_op op_fdiv (qv 0) (qe_int)) (qe_int)))) (qss_nil))
      (qss_cons (qs_if (qt_cmpR (k_eq K hr.u200) (qe_op op_mod (qv 0) (qe_int)) (qe_int) (nomark _)) (qss_one (qs_ret (qe_op op_sub (qe_op op_sub (qe_op op_pow (qe_int) (qe_int)) (qe_int)) (qe_op op_mod (qe_op op_fdiv (qv 0) (qe_int)) (qe_int))))) (qss_nil))
      (qss_one (qs_ret (qe_op op_mod (qe_op op_mulA (qe_op op_fdiv (qv 0) (qe_int)) (qe_int)) (qe_op op_pow (qe_int) (qe_int)))))), ?_⟩
    have h30 : 0 ≤ c / 4 % 3 := Int.emod_nonneg _ (by decide)
    have h31 : c / 4 % 3 < 3 := Int.emod_lt_of_pos _ (by decide)
    walk_at "r"
    refine ite2 (fun _ => ?_) (fun _ => ?_)
    · walk_at "r"
      exact q _ h30 (by omega)
    · walk_at "r"
      refine ite2 (fun _ => ?_) (fun _ => ?_)
      · walk_at "r"
        refine q _ ?_ ?_
        · show 0 ≤ (10 : Int) ^ 18 - 1 - c / 4 % 3
          omega
        · show (10 : Int) ^ 18 - 1 - c / 4 % 3 < 10 ^ 18
          omega
      · walk_at "r"
        exact q _ (Int.emod_nonneg _ (by decide)) (Int.emod_lt_of_pos _ (by decide))
end
end K12

set_option Elab.async false
set_option linter.all false
set_option maxRecDepth 100000
set_option maxHeartbeats 4000000
namespace K12
open PySem L2 K10
section
variable {P : Program} {w : World} {K : PySem.W.Frag} {mg : Str → Option Value} {base : Heap}
def sp_manyp (K : PySem.W.Frag) (NF : Addr) : Sp := fun vs H Q E => ∃ v, vs = [v] ∧ Has K H v ∧ (∀ (s : Str) (n : Nat), v = .str s → partsOf s = some n → Q (.int (n : Nat)) H) ∧ (wordV v = false → E (.ref NF) none H)
theorem sc_many_parts : FnScope ["word"] ["word"] (defScope s_many_parts) := ⟨rfl, rfl, rfl, by decide +kernel, rfl, by decide +kernel, by decide +kernel⟩
theorem ok_manyp {N_NoForm : Addr} {f : Addr} {fd : FuncData} (F : Fun K "many_parts" "many_parts" s_many_parts f fd) (T : Txt K mg) (G : Gs P w K mg) (C_is_word : Callee P w K mg base 1 "is_word" ["thing"] (sp_word K)) (R_NoForm : PySem.W.excIn K N_NoForm VE "ValueError.__new__" = true) (G_NoForm : mg "NoForm" = some (.ref N_NoForm)) : FnOk P w K mg base (CXR P w) 2 f fd ["word"] (sp_manyp K N_NoForm) := by
  refine F.okx sc_many_parts (fun vs H Q E h => ?_) (fun cdv A outer s H vs Q E hr h => ?_)
  · obtain ⟨v, rfl, _⟩ := h
    rfl
  · obtain ⟨v, rfl, hv, q, x⟩ := h
    obtain ⟨ap, G_PARTS_OF_WORDS, hp⟩ := G.pw
    refine ⟨_, qss_cons (qs_if (qt_not (qt_val (qe_fn C_is_word (hr.mono (by decide)) (qa_cons (qv 0) qa_nil)))) (qss_one (qs_raise rfl R_NoForm G_NoForm (qa_cons (qe_str) qa_nil) (fun _ _ _ _ _ _ _ I x h0 hn he => raises_cx I x h0 hn he) rfl)) (qss_nil))
      (qss_one (qs_ret (qe_ix (k_ixD P w K) (qe_gl G_PARTS_OF_WORDS) (qv 0) (fun _ _ => rfl)))), ?_⟩
    walk_at "r"
    refine ⟨v, rfl, hv, ?_⟩
    cases hw : wordV v with
    | false =>
      walk_at "r"
      exact ⟨by show 1 ≤ sizeLine; decide, x hw⟩
    | true =>
      obtain ⟨s, rfl, hs⟩ : ∃ s, v = .str s ∧ (partsOf s).isSome = true := by
        cases v <;> first | (exact ⟨_, rfl, hw⟩) | (cases hw)
      obtain ⟨n, hn⟩ := Option.isSome_iff_exists.mp hs
      walk_at "r"
      refine ⟨ap, PARTS, s, .int (n : Nat), rfl, rfl, hp, by rw [parts_eq, hn]; rfl, ?_⟩
      exact q s n rfl hn
end
end K12

set_option Elab.async false
set_option linter.all false
set_option maxRecDepth 100000
set_option maxHeartbeats 4000000
namespace K12
open PySem L2 K10
section
variable {P : Program} {w : World} {K : PySem.W.Frag} {mg : Str → Option Value} {base : Heap}
def gapD : Dt := .tup [.flat (.str "gap"), .flat .non, .tup []]
def FormAt (K : PySem.W.Frag) (H : Hp) (r : Addr) (s : Str) (nv : V) (n : Nat) : Prop := ∃ (pp : Addr) (gs : List V), SqT K H r [.str s, nv, .ref pp] ∧ SqT K H pp gs ∧ gs.length = n ∧ ∀ g ∈ gs, IsD K H 2 g gapD
theorem FormAt.same {K : PySem.W.Frag} {H H' : Hp} {r : Addr} {s : Str} {nv : V} {n : Nat} (h : FormAt K H r s nv n) (e : Same H H') : FormAt K H' r s nv n := by
  obtain ⟨pp, gs, h1, h2, h3, h4⟩ := h
  exact ⟨pp, gs, e.tup h1, e.tup h2, h3, fun g hg => (h4 g hg).same e⟩
theorem gap_isD {K : PySem.W.Frag} {H : Hp} {a e : Addr} (h1 : SqT K H a [.str "gap", .non, .ref e]) (h2 : SqT K H e []) : IsD K H 2 (.ref a) gapD := by
  refine .tup h1 rfl fun j v d f1 f2 => ?_
  match j, f1, f2 with
  | 0, f1, f2 => cases f1; cases f2; exact .flat rfl
  | 1, f1, f2 => cases f1; cases f2; exact .flat rfl
  | 2, f1, f2 => cases f1; cases f2; exact .tup h2 rfl (fun j v d e _ => by simp at e)
theorem parts_le {s : Str} {n : Nat} (h : partsOf s = some n) : n ≤ 3 := by
  have all : PN.all (fun p => decide (p.2 ≤ 3)) = true := by decide +kernel
  unfold partsOf at h
  have gen : ∀ ps : List (Str × Nat), ps.all (fun p => decide (p.2 ≤ 3)) = true → ps.lookup s = some n → n ≤ 3 := by
    intro ps
    induction ps with
    | nil => intro _ h; cases h
    | cons p r ih =>
      intro ha h
      rw [List.all_cons, Bool.and_eq_true] at ha
      rw [List.lookup_cons] at h
      split at h
      · cases h; exact of_decide_eq_true ha.1
      · exact ih ha.2 h
  exact gen PN all h
def sp_bare (K : PySem.W.Frag) (NF : Addr) : Sp := fun vs H Q E => ∃ v nv nt, vs = [v, nv] ∧ Has K H v ∧ NtAt K H nv nt ∧ (∀ (s : Str) (n : Nat), v = .str s → partsOf s = some n → noteB s nt = true → ∀ (r : Addr) (H' : Hp), Same H H' → FormAt K H' r s nv n → Q (.ref r) H') ∧ ((wordV v = false ∨ ∃ s : Str, v = .str s ∧ noteB s nt = false) → ∀ H', Same H H' → E (.ref NF) none H')
theorem sc_bare : FnScope ["word", "note", "many"] ["word", "note"] (defScope s_bare) := ⟨rfl, rfl, rfl, by decide +kernel, rfl, by decide +kernel, by decide +kernel⟩
theorem ok_bare {N_NoForm : Addr} {f : Addr} {fd : FuncData} (F : Fun K "bare" "bare" s_bare f fd) (T : Txt K mg) (G : Gs P w K mg) (C_many_parts : CalleeX P w K mg base 2 "many_parts" ["word"] (sp_manyp K N_NoForm)) (C_is_note : Callee P w K mg base 3 "is_note" ["word", "note"] (sp_note K)) (R_NoForm : PySem.W.excIn K N_NoForm VE "ValueError.__new__" = true) (G_NoForm : mg "NoForm" = some (.ref N_NoForm)) : FnOk P w K mg base (CXR P w) 4 f fd ["word", "note"] (sp_bare K N_NoForm) := by
  refine F.okx sc_bare (fun vs H Q E h => ?_) (fun cdv A outer s H vs Q E hr h => ?_)
  · obtain ⟨v, nv, nt, rfl, _⟩ := h
    rfl
  · obtain ⟨v, nv, nt, rfl, hv, hn, q, x⟩ := h
    obtain ⟨ag, eg, G_GAP, hg1, hg2⟩ := G.gp
    refine ⟨_, qss_cons (qs_set (i := 2) sc_bare.nd rfl (Or.inl rfl) (qe_fnx C_many_parts (hr.mono (by decide)) (passes_cx (fun _ _ _ h => h)) (qa_cons (qv 0) qa_nil)))
      (qss_cons (qs_if (qt_not (qt_val (qe_fn C_is_note (hr.mono (by decide)) (qa_cons (qv 0) (qa_cons (qv 1) qa_nil))))) (qss_one (qs_raise rfl R_NoForm G_NoForm (qa_cons (qe_str) qa_nil) (fun _ _ _ _ _ _ _ I x h0 hn he => raises_cx I x h0 hn he) rfl)) (qss_nil))
      (qss_one (qs_ret (qe_tup (qa_cons (qv 0) (qa_cons (qv 1) (qa_cons (qe_op (k_mulT K) (qe_tup (qa_cons (qe_gl G_GAP) qa_nil)) (qv 2)) qa_nil))))))), ?_⟩
    walk_at "r"
    refine ⟨v, rfl, hv, fun s n es hp => ?_, fun hw => x (.inl hw) H (Same.refl _)⟩
    subst es
    have n3 := parts_le hp
    walk_at "r"
    refine ⟨s, nv, nt, rfl, hn, fun H1 s1 => ?_⟩
    cases hb : noteB s nt with
    | false =>
      walk_at "r"
      exact ⟨by show 1 ≤ sizeLine; decide, x (.inr ⟨s, rfl, hb⟩) H1 s1⟩
    | true =>
      walk_at "r"
      refine ⟨by show 1 ≤ sizeLine; decide, fun p1 hp1 => ?_⟩
      have s2 := Same.upd (o := .tup [.ref ag]) hp1
      walk_at "r"
      refine s_mulT (xs := [.ref ag]) (SqT.of upd_same) (by simp) (by omega) (by omega) (by show ((1 : Nat) : Int) * (n : Int) ≤ 1000; omega) fun r1 H3 s3 q3 => ?_
      walk_at "r"
      refine ⟨by show 3 ≤ sizeLine; decide, fun r hr3 => ?_⟩
      have s4 := Same.upd (o := .tup [.str s, nv, .ref r1]) hr3
      refine q s n rfl hp hb r _ (s1.trans (s2.trans (s3.trans s4))) ⟨r1, _, SqT.of upd_same, s4.tup q3, ?_, fun g hg => ?_⟩
      · rw [len_rep]
        simp
      · obtain ⟨l, hl, hgl⟩ := List.mem_flatten.mp hg
        rw [List.eq_of_mem_replicate hl, List.mem_singleton] at hgl
        rw [hgl]
        exact gap_isD (hg1 _) (hg2 _)
end
end K12

set_option Elab.async false
set_option linter.all false
set_option maxRecDepth 100000
set_option maxHeartbeats 4000000
namespace K12
open PySem L2 K10
section
variable {P : Program} {w : World} {K : PySem.W.Frag} {mg : Str → Option Value} {base : Heap}
def sp_kinds (K : PySem.W.Frag) (C : Addr) : Sp := fun vs H Q _ => ∃ (a : Addr) (od : Option Addr), vs = [.ref a] ∧ H a = some (exk a (.ref C) od) ∧ (∀ d, od = some d → ∃ fs, H d = some (.xd fs)) ∧ ∀ (p : Addr) (H' : Hp), Same H H' → H' p = some (.tup [.bl true, .bl true, .bl true, .bl false]) → Q (.ref p) H'
theorem sc_law_kinds : FnScope ["_law_e", "_law_others"] ["_law_e"] (defScope s_law_kinds) := ⟨rfl, rfl, rfl, by decide +kernel, rfl, by decide +kernel, by decide +kernel⟩
structure KdC (K : PySem.W.Frag) (mg : Str → Option Value) (C GE ND NN NP NR : Addr) : Prop where
  n : ExN K C
  gC : mg "NoForm" = some (.ref C)
  gG : mg "GapError" = some (.ref GE)
  gD : mg "NoDeed" = some (.ref ND)
  gN : mg "NoName" = some (.ref NN)
  gP : mg "NoPlace" = some (.ref NP)
  gR : mg "NoRow" = some (.ref NR)
  kG : PySem.W.kitOne K (.ref C) (.ref GE) = some true
  kV : PySem.W.kitOne K (.ref C) (.type "ValueError") = some true
  kD : PySem.W.kitOne K (.ref C) (.ref ND) = some false
  kN : PySem.W.kitOne K (.ref C) (.ref NN) = some false
  kP : PySem.W.kitOne K (.ref C) (.ref NP) = some false
  kR : PySem.W.kitOne K (.ref C) (.ref NR) = some false
theorem ok_kinds {N_NoForm N_GapError N_NoDeed N_NoName N_NoPlace N_NoRow : Addr} {f : Addr} {fd : FuncData} (F : Fun K "_law_kinds" "_law_kinds" s_law_kinds f fd) (T : Txt K mg) (D : KdC K mg N_NoForm N_GapError N_NoDeed N_NoName N_NoPlace N_NoRow) : FnOkN P w K mg base 1 f fd ["_law_e"] (sp_kinds K N_NoForm) := by
  have G_NoForm := D.gC
  have G_GapError := D.gG
  have G_NoDeed := D.gD
  have G_NoName := D.gN
  have G_NoPlace := D.gP
  have G_NoRow := D.gR
  have kit : PySem.W.kitOne K (.ref N_NoForm) (.ref N_NoForm) = some true := by unfold PySem.W.kitOne; rw [if_pos (by simp)]
  refine F.okN sc_law_kinds (fun vs H Q E h => ?_) (fun cdv A outer s H vs Q E hr h => ?_)
  · obtain ⟨a, od, rfl, _⟩ := h
    rfl
  · obtain ⟨a, od, rfl, e, hd, q⟩ := h
    refine ⟨_, qss_cons (qs_set (i := 1) sc_law_kinds.nd rfl (Or.inl rfl) (qe_or (qe_callB (k_isY (K := K)) (by rfl) T.isinstance (by decide +kernel) (qa_cons (qv 0) (qa_cons (qe_glob (v := .ref N_NoDeed) (by rfl) G_NoDeed rfl) qa_nil))) (qe_or (qe_callB (k_isY (K := K)) (by rfl) T.isinstance (by decide +kernel) (qa_cons (qv 0) (qa_cons (qe_glob (v := .ref N_NoName) (by rfl) G_NoName rfl) qa_nil))) (qe_or (qe_callB (k_isY (K := K)) (by rfl) T.isinstance (by decide +kernel) (qa_cons (qv 0) (qa_cons (qe_glob (v := .ref N_NoPlace) (by rfl) G_NoPlace rfl) qa_nil))) (qe_one (qe_callB (k_isY (K := K)) (by rfl) T.isinstance (by decide +kernel) (qa_cons (qv 0) (qa_cons (qe_glob (v := .ref N_NoRow) (by rfl) G_NoRow rfl) qa_nil))))))))
      (qss_one (qs_ret (qe_tup (qa_cons (qe_callB (k_isYT (K := K) "ValueError") (by rfl) T.isinstance (by decide +kernel) (qa_cons (qv 0) (qa_cons (qe_bltn (v := .ty "ValueError") (by rfl) T.ValueError (by decide +kernel) rfl) qa_nil))) (qa_cons (qe_callB (k_isY (K := K)) (by rfl) T.isinstance (by decide +kernel) (qa_cons (qv 0) (qa_cons (qe_glob (v := .ref N_GapError) (by rfl) G_GapError rfl) qa_nil))) (qa_cons (qe_callB (k_isY (K := K)) (by rfl) T.isinstance (by decide +kernel) (qa_cons (qv 0) (qa_cons (qe_glob (v := .ref N_NoForm) (by rfl) G_NoForm rfl) qa_nil))) (qa_cons (qv 1) qa_nil))))))), ?_⟩
    walk_at "r"
    refine ⟨a, _, _, od, _, rfl, e, hd, D.n, D.kD, ?_⟩
    walk_at "r"
    refine ⟨a, _, _, od, _, rfl, e, hd, D.n, D.kN, ?_⟩
    walk_at "r"
    refine ⟨a, _, _, od, _, rfl, e, hd, D.n, D.kP, ?_⟩
    walk_at "r"
    refine ⟨a, _, _, od, _, rfl, e, hd, D.n, D.kR, ?_⟩
    walk_at "r"
    refine ⟨a, _, od, _, rfl, e, hd, D.n, D.kV, ?_⟩
    walk_at "r"
    refine ⟨a, _, _, od, _, rfl, e, hd, D.n, D.kG, ?_⟩
    walk_at "r"
    refine ⟨a, _, _, od, _, rfl, e, hd, D.n, kit, ?_⟩
    walk_at "r"
    refine ⟨by show 4 ≤ sizeLine; decide, fun p hp => ?_⟩
    exact q p _ (Same.upd hp) upd_same
end
end K12

set_option Elab.async false
set_option linter.all false
set_option maxRecDepth 100000
set_option maxHeartbeats 4000000
namespace K12
open PySem L2 K10
section
variable {P : Program} {w : World} {K : PySem.W.Frag} {mg : Str → Option Value} {base : Heap}
def sp_counted (K : PySem.W.Frag) : Sp := fun vs H Q _ => ∃ v mv, vs = [v, mv] ∧ Has K H v ∧ ((mv = .non ∧ wordV v = false) ∨ ∃ (s : Str) (n : Nat), v = .str s ∧ partsOf s = some n ∧ mv = .int (n : Nat)) ∧ ∀ H', Same H H' → Q (.bl true) H'
theorem flat_isD {H : Hp} {p : Addr} {xs : List V} (q : SqT K H p xs) (h : ∀ v ∈ xs, flatV v = true) : IsD K H 1 (.ref p) (.tup (xs.map Dt.flat)) := by
  refine .tup q (by simp) fun j v d h1 h2 => ?_
  rw [List.getElem?_map, h1] at h2
  cases h2
  exact .flat (h v (List.mem_of_getElem? h1))
theorem sc_law_counted : FnScope ["_law_word_here", "_law_many", "_law_found", "_law_kinds_here", "_law_e"] ["_law_word_here", "_law_many"] (defScope s_law_counted) := ⟨rfl, rfl, rfl, by decide +kernel, rfl, by decide +kernel, by decide +kernel⟩
theorem ok_counted {N_NoForm N_GapError : Addr} {f : Addr} {fd : FuncData} (F : Fun K "_law_counted" "_law_counted" s_law_counted f fd) (T : Txt K mg) (C_many_parts : CalleeX P w K mg base 2 "many_parts" ["word"] (sp_manyp K N_NoForm)) (C__law_kinds : CalleeN P w K mg base 1 "_law_kinds" ["_law_e"] (sp_kinds K N_NoForm))
    (X_GapError : ExcC K N_GapError) (G_GapError : mg "GapError" = some (.ref N_GapError)) (hsub : PySem.W.subIn K (.ref N_NoForm) (.ref N_GapError) = some true) : FnOk P w K mg base CX0 3 f fd ["_law_word_here", "_law_many"] (sp_counted K) := by
  refine F.okq sc_law_counted (fun vs H Q E h => ?_) (fun cdv A outer s H vs Q E hr h => ?_)
  · obtain ⟨v, mv, rfl, _⟩ := h
    rfl
  · obtain ⟨v, mv, rfl, hv, hc, q⟩ := h
    refine ⟨_, qss_cons (qs_set (i := 2) sc_law_counted.nd rfl (Or.inl rfl) (qe_non))
      (qss_cons (qs_set (i := 3) sc_law_counted.nd rfl (Or.inl rfl) (qe_non))
      (qss_cons (qs_tryM (i := 4) sc_law_counted.nd rfl rfl X_GapError G_GapError rfl rfl (qxs_set (i := 2) sc_law_counted.nd rfl (Or.inl rfl) (qx_fn C_many_parts (hr.mono (by decide)) (fun _ => qa_cons (qv 0) qa_nil))) (fun _ _ => qss_one (qs_set (i := 3) sc_law_counted.nd rfl (Or.inl rfl) (qe_fnN C__law_kinds (RoomN.mark (RoomN.mono (Room.n hr) (by decide)) _) (qa_cons (qv 4) qa_nil)))))
      (qss_cons (qs_if (qt_cmp (qc_isN (qv 1))) (qss_one (qs_ret (qe_cmpR (k_eq K hr.u200) (qv 3) (qe_tup (qa_consts (xs := [.bl true, .bl true, .bl true, .bl false]) rfl)) (nomark _)))) (qss_nil))
      (qss_one (qs_ret (qe_and (qe_cmp (qc_isN (qv 3))) (qe_and (qe_callB (k_isi K "int") (by rfl) T.isinstance (by decide +kernel) (qa_cons (qv 2) (qa_cons (qe_bltn (v := .ty "int") (by rfl) T.int (by decide +kernel) rfl) qa_nil))) (qe_and (qe_not (qe_callB (k_isi K "bool") (by rfl) T.isinstance (by decide +kernel) (qa_cons (qv 2) (qa_cons (qe_bltn (v := .ty "bool") (by rfl) T.bool (by decide +kernel) rfl) qa_nil)))) (qe_one (qe_cmpR (k_eq K hr.u200) (qv 2) (qv 1) (nomark _))))))))))), ?_⟩
    walk_at "r"
    refine ⟨v, rfl, ?_⟩
    rcases hc with ⟨rfl, hw⟩ | ⟨s0, n, rfl, hp, rfl⟩
    · refine ⟨v, rfl, hv, fun s0 n es hp => ?_, fun _ => ⟨⟨N_NoForm, rfl, hsub⟩, fun a1 ha1 => ?_⟩⟩
      · subst es
        have : wordV (.str s0) = true := by show (partsOf s0).isSome = true; rw [hp]; rfl
        rw [this] at hw
        cases hw
      · walk_at "r"
        refine ⟨a1, none, rfl, upd_same, (fun d hd => nomatch hd), fun k1 Y1 y1 f1 => ?_⟩
        walk_at "r"
        dsimp only [Ends.gone]
        walk_at "r"
        rw [decide_eq_true (Eq.refl _)]
        walk_at "r"
        refine ⟨by show 4 ≤ sizeLine; decide, fun p2 hp2 => ?_⟩
        have s2 := Same.upd (o := .tup [.bl true, .bl true, .bl true, .bl false]) hp2
        refine s_eqD (n := 1) (by decide) (flat_isD (SqT.of (s2 _ _ f1)) (by decide)) (flat_isD (SqT.of upd_same) (by decide)) ?_
        exact q _ ((Same.upd ha1).trans (y1.trans s2))
    · refine ⟨_, rfl, hv, fun s1 n1 es hp1 => ?_, fun hw => ?_⟩
      · cases es
        rw [hp] at hp1
        cases hp1
        walk_at "r"
        rw [decide_eq_false (by simp)]
        walk_at "r"
        rw [decide_eq_true (Eq.refl _)]
        walk_at "r"
        refine s_isi (b := true) (.int (n : Nat)) rfl ?_
        walk_at "r"
        refine s_isi (b := false) (.int (n : Nat)) rfl ?_
        walk_at "r"
        rw [decide_eq_true (Eq.refl _)]
        exact q H (Same.refl _)
      · have : wordV (.str s0) = true := by show (partsOf s0).isSome = true; rw [hp]; rfl
        rw [this] at hw
        cases hw
end
end K12

set_option Elab.async false
set_option linter.all false
set_option maxRecDepth 100000
set_option maxHeartbeats 4000000
namespace K12
open PySem L2 K10
section
variable {P : Program} {w : World} {K : PySem.W.Frag} {mg : Str → Option Value} {base : Heap}
theorem note_isD {H : Hp} {nv : V} {nt : Nt} {s : Str} (h : NtAt K H nv nt) (hb : noteB s nt = true) : ∃ d, IsD K H 1 nv d ∧ ∀ H', Same H H' → IsD K H' 1 nv d := by
  have fl : ∀ v, nt = .fl v → flatV v = true → ∃ d, IsD K H 1 nv d ∧ ∀ H', Same H H' → IsD K H' 1 nv d := fun v e hf => by
    subst e
    obtain ⟨rfl, _⟩ := h
    exact ⟨_, .flat hf, fun _ _ => .flat hf⟩
  have two : twoN nt = true → ∃ d, IsD K H 1 nv d ∧ ∀ H', Same H H' → IsD K H' 1 nv d := fun ht => by
    cases nt with
    | fl v => cases ht
    | ot => cases ht
    | tp xs =>
      obtain ⟨a, rfl, h2, _⟩ := h
      match xs, ht with
      | [x, y], ht =>
        have ht : (nameV x && nameV y) = true := ht
        rw [Bool.and_eq_true] at ht
        have fv : ∀ z, nameV z = true → flatV z = true := fun z hz => by cases z <;> first | rfl | (cases hz)
        have all : ∀ v ∈ [x, y], flatV v = true := fun v hv => by
          simp only [List.mem_cons, List.not_mem_nil, or_false] at hv
          rcases hv with rfl | rfl
          · exact fv _ ht.1
          · exact fv _ ht.2
        exact ⟨_, flat_isD h2 all, fun H' e => (flat_isD h2 all).same e⟩
  have nm : nameN nt = true → ∃ d, IsD K H 1 nv d ∧ ∀ H', Same H H' → IsD K H' 1 nv d := fun ht => by
    cases nt with
    | fl v => cases v <;> first | exact fl _ rfl rfl | (cases ht)
    | ot => cases ht
    | tp xs => cases ht
  have od : oddN nt = true → ∃ d, IsD K H 1 nv d ∧ ∀ H', Same H H' → IsD K H' 1 nv d := fun ht => by
    cases nt with
    | fl v => cases v <;> first | exact fl _ rfl rfl | (cases ht)
    | ot => cases ht
    | tp xs => cases ht
  have nu : numN nt = true → ∃ d, IsD K H 1 nv d ∧ ∀ H', Same H H' → IsD K H' 1 nv d := fun ht => by
    cases nt with
    | fl v => cases v <;> first | exact fl _ rfl rfl | (cases ht)
    | ot => cases ht
    | tp xs => cases ht
  have tr : truthN nt = true → ∃ d, IsD K H 1 nv d ∧ ∀ H', Same H H' → IsD K H' 1 nv d := fun ht => by
    cases nt with
    | fl v => cases v <;> first | exact fl _ rfl rfl | (cases ht)
    | ot => cases ht
    | tp xs => cases ht
  have no : nonN nt = true → ∃ d, IsD K H 1 nv d ∧ ∀ H', Same H H' → IsD K H' 1 nv d := fun ht => by
    cases nt with
    | fl v => cases v <;> first | exact fl _ rfl rfl | (cases ht)
    | ot => cases ht
    | tp xs => cases ht
  unfold noteB at hb
  split at hb
  · exact od hb
  split at hb
  · exact nu hb
  split at hb
  · exact tr hb
  split at hb
  · exact nm hb
  split at hb
  · exact two hb
  · exact no hb
theorem form_isD {H : Hp} {r : Addr} {s : Str} {nv : V} {n : Nat} {d : Dt} (h : FormAt K H r s nv n) (hd : IsD K H 1 nv d) : IsD K H 4 (.ref r) (.tup [.flat (.str s), d, .tup (List.replicate n gapD)]) := by
  obtain ⟨pp, gs, h1, h2, h3, h4⟩ := h
  refine .tup h1 rfl fun j v e f1 f2 => ?_
  match j, f1, f2 with
  | 0, f1, f2 => cases f1; cases f2; exact .flat rfl
  | 1, f1, f2 => cases f1; cases f2; exact hd.up (by omega)
  | 2, f1, f2 =>
    cases f1; cases f2
    refine .tup h2 (by simp [h3]) fun j v e f1 f2 => ?_
    have : e = gapD := List.eq_of_mem_replicate (List.mem_of_getElem? f2)
    subst this
    exact h4 v (List.mem_of_getElem? f1)
def sp_made (K : PySem.W.Frag) : Sp := fun vs H Q _ => ∃ v nv nt dv, vs = [v, nv, dv] ∧ Has K H v ∧ NtAt K H nv nt ∧ ((dv = .non ∧ (wordV v = false ∨ ∃ s : Str, v = .str s ∧ noteB s nt = false)) ∨ ∃ (s : Str) (n : Nat) (r : Addr), v = .str s ∧ partsOf s = some n ∧ noteB s nt = true ∧ dv = .ref r ∧ FormAt K H r s nv n) ∧ ∀ H', Same H H' → Q (.bl true) H'
theorem sc_law_made : FnScope ["_law_word_here", "_law_note_here", "_law_due", "_law_found", "_law_kinds_here", "_law_e"] ["_law_word_here", "_law_note_here", "_law_due"] (defScope s_law_made) := ⟨rfl, rfl, rfl, by decide +kernel, rfl, by decide +kernel, by decide +kernel⟩
theorem ok_made {N_NoForm N_GapError : Addr} {f : Addr} {fd : FuncData} (F : Fun K "_law_made" "_law_made" s_law_made f fd) (T : Txt K mg) (C_bare : CalleeX P w K mg base 4 "bare" ["word", "note"] (sp_bare K N_NoForm)) (C__law_kinds : CalleeN P w K mg base 1 "_law_kinds" ["_law_e"] (sp_kinds K N_NoForm))
    (X_GapError : ExcC K N_GapError) (G_GapError : mg "GapError" = some (.ref N_GapError)) (hsub : PySem.W.subIn K (.ref N_NoForm) (.ref N_GapError) = some true) : FnOk P w K mg base CX0 5 f fd ["_law_word_here", "_law_note_here", "_law_due"] (sp_made K) := by
  refine F.okq sc_law_made (fun vs H Q E h => ?_) (fun cdv A outer s H vs Q E hr h => ?_)
  · obtain ⟨v, nv, nt, dv, rfl, _⟩ := h
    rfl
  · obtain ⟨v, nv, nt, dv, rfl, hv, hn, hc, q⟩ := h
    refine ⟨_, qss_cons (qs_set (i := 3) sc_law_made.nd rfl (Or.inl rfl) (qe_non))
      (qss_cons (qs_set (i := 4) sc_law_made.nd rfl (Or.inl rfl) (qe_non))
      (qss_cons (qs_tryM (i := 5) sc_law_made.nd rfl rfl X_GapError G_GapError rfl rfl (qxs_set (i := 3) sc_law_made.nd rfl (Or.inl rfl) (qx_fn C_bare (hr.mono (by decide)) (fun _ => qa_cons (qv 0) (qa_cons (qv 1) qa_nil)))) (fun _ _ => qss_one (qs_set (i := 4) sc_law_made.nd rfl (Or.inl rfl) (qe_fnN C__law_kinds (RoomN.mark (RoomN.mono (Room.n hr) (by decide)) _) (qa_cons (qv 5) qa_nil)))))
      (qss_cons (qs_if (qt_cmp (qc_isN (qv 2))) (qss_one (qs_ret (qe_cmpR (k_eq K hr.u200) (qv 4) (qe_tup (qa_consts (xs := [.bl true, .bl true, .bl true, .bl false]) rfl)) (nomark _)))) (qss_nil))
      (qss_cons (qs_if (QW.qt (qw_or (qt_cmp (qc_notN (qv 4))) (qw_or (qt_not (qt_val (qe_callB (k_isi K "tuple") (by rfl) T.isinstance (by decide +kernel) (qa_cons (qv 3) (qa_cons (qe_bltn (v := .ty "tuple") (by rfl) T.tuple (by decide +kernel) rfl) qa_nil))))) (qw_or (qt_cmpR (k_ne K hr.u200) (qe_callB (k_len K) (by rfl) T.len (by decide +kernel) (qa_cons (qv 3) qa_nil)) (qe_int) (nomark _)) (qw_or1 (qt_not (qt_val (qe_callB (k_isi K "tuple") (by rfl) T.isinstance (by decide +kernel) (qa_cons (qe_ix (k_ix K) (qv 3) (qe_int) (fun _ _ => rfl)) (qa_cons (qe_bltn (v := .ty "tuple") (by rfl) T.tuple (by decide +kernel) rfl) qa_nil)))))))))) (qss_one (qs_ret (qe_bl))) (qss_nil))
      (qss_one (qs_ret (qe_and (qe_cmpR (k_eq K hr.u200) (qv 3) (qv 2) (nomark _)) (qe_one (qe_cmpR (k_eq K hr.u200) (qe_callB (k_isi K "bool") (by rfl) T.isinstance (by decide +kernel) (qa_cons (qe_ix (k_ix K) (qv 3) (qe_int) (fun _ _ => rfl)) (qa_cons (qe_bltn (v := .ty "bool") (by rfl) T.bool (by decide +kernel) rfl) qa_nil))) (qe_callB (k_isi K "bool") (by rfl) T.isinstance (by decide +kernel) (qa_cons (qv 1) (qa_cons (qe_bltn (v := .ty "bool") (by rfl) T.bool (by decide +kernel) rfl) qa_nil))) (nomark _)))))))))), ?_⟩
    walk_at "r"
    refine ⟨v, rfl, nv, rfl, ?_⟩
    rcases hc with ⟨rfl, hw⟩ | ⟨s0, n, r0, rfl, hp, hb, rfl, hf⟩
    · refine ⟨v, nv, nt, rfl, hv, hn, fun s0 n es hp hb => ?_, fun _ H1 s1 => ⟨⟨N_NoForm, rfl, hsub⟩, fun a1 ha1 => ?_⟩⟩
      · subst es
        rcases hw with hw | ⟨s1, es, hb1⟩
        · have : wordV (.str s0) = true := by show (partsOf s0).isSome = true; rw [hp]; rfl
          rw [this] at hw
          cases hw
        · cases es
          rw [hb] at hb1
          cases hb1
      · walk_at "r"
        refine ⟨a1, none, rfl, upd_same, (fun d hd => nomatch hd), fun k1 Y1 y1 f1 => ?_⟩
        walk_at "r"
        dsimp only [Ends.gone]
        walk_at "r"
        rw [decide_eq_true (Eq.refl _)]
        walk_at "r"
        refine ⟨by show 4 ≤ sizeLine; decide, fun p2 hp2 => ?_⟩
        have s2 := Same.upd (o := .tup [.bl true, .bl true, .bl true, .bl false]) hp2
        refine s_eqD (n := 1) (by decide) (flat_isD (SqT.of (s2 _ _ f1)) (by decide)) (flat_isD (SqT.of upd_same) (by decide)) ?_
        exact q _ (s1.trans ((Same.upd ha1).trans (y1.trans s2)))
    · refine ⟨_, nv, nt, rfl, hv, hn, fun s1 n1 es hp1 _ r H1 s1' hf1 => ?_, fun hw => ?_⟩
      · cases es
        rw [hp] at hp1
        cases hp1
        obtain ⟨d, hd, hd'⟩ := note_isD hn hb
        have dF := form_isD hf1 (hd' _ s1')
        have dD := form_isD (hf.same s1') (hd' _ s1')
        obtain ⟨pp, gs, g1, g2, g3, g4⟩ := hf1
        obtain ⟨t, ht⟩ := (hn.same s1').has
        walk_at "r"
        rw [decide_eq_false (by simp)]
        walk_at "r"
        rw [decide_eq_true (Eq.refl _)]
        walk_at "r"
        refine s_isiT (b := true) g1 rfl ?_
        walk_at "r"
        refine s_len_tup g1 ?_
        walk_at "r"
        rw [decide_eq_true (show V.int (([V.str s0, nv, V.ref pp] : List V).length : Nat) = V.int 3 from rfl)]
        walk_at "r"
        refine s_ix_tup g1 rfl ?_
        walk_at "r"
        refine s_isiT (b := true) g2 rfl ?_
        walk_at "r"
        refine s_eqD (n := 4) (by decide) dF dD ?_
        walk_at "r"
        refine s_ix_tup g1 rfl ?_
        walk_at "r"
        refine s_isiN ht (by simp) ?_
        walk_at "r"
        refine s_isiN ht (by simp) ?_
        walk_at "r"
        rw [decide_eq_true (Eq.refl _)]
        exact q H1 s1'
      · rcases hw with hw | ⟨s1, es, hb1⟩
        · have : wordV (.str s0) = true := by show (partsOf s0).isSome = true; rw [hp]; rfl
          rw [this] at hw
          cases hw
        · cases es
          rw [hb] at hb1
          cases hb1
end
end K12

set_option Elab.async false
set_option linter.all false
set_option maxRecDepth 100000
set_option maxHeartbeats 4000000
namespace K12
open PySem L2 K10
section
variable {P : Program} {w : World} {K : PySem.W.Frag} {mg : Str → Option Value} {base : Heap}
def W13 : List Str := ["gap", "odd", "num", "truth", "name", "plus", "minus", "less", "call", "if", "fn", "rec", "let"]
theorem w13_len : W13.all (fun t => decide (t.length ≤ 5)) = true := by decide +kernel
def sp_words : Sp := fun vs H Q _ => vs = [] ∧ ∀ (q : Addr) (H' : Hp), Same H H' → H q = none → H' q = some (.lst (W13.map V.str)) → Q (.ref q) H'
theorem sc_law_words : FnScope ["_law_some"] [] (defScope s_law_words) := ⟨rfl, rfl, rfl, by decide +kernel, rfl, by decide +kernel, by decide +kernel⟩
theorem ok_words {f : Addr} {fd : FuncData} (F : Fun K "_law_words" "_law_words" s_law_words f fd) (T : Txt K mg) : FnOk P w K mg base CX0 1 f fd [] sp_words := by
  refine F.okq sc_law_words (fun vs H Q E h => ?_) (fun cdv A outer s H vs Q E hr h => ?_)
  · obtain ⟨rfl, _⟩ := h
    rfl
  · obtain ⟨rfl, q⟩ := h
    refine ⟨_, qss_cons (qs_set (i := 0) sc_law_words.nd rfl (Or.inl rfl) (qe_lst (qa_consts (xs := [.str "gap", .str "odd", .str "num", .str "truth", .str "name", .str "plus", .str "minus"]) rfl)))
      (qss_one (qs_ret (qe_op (k_add K) (qv 0) (qe_lst (qa_consts (xs := [.str "less", .str "call", .str "if", .str "fn", .str "rec", .str "let"]) rfl))))), ?_⟩
    walk_at "r"
    refine ⟨by show 7 ≤ sizeLine; decide, fun p1 hp1 => ?_⟩
    have s1 := Same.upd (o := .lst [.str "gap", .str "odd", .str "num", .str "truth", .str "name", .str "plus", .str "minus"]) hp1
    walk_at "r"
    refine ⟨by show 6 ≤ sizeLine; decide, fun p2 hp2 => ?_⟩
    have s2 := Same.upd (o := .lst [.str "less", .str "call", .str "if", .str "fn", .str "rec", .str "let"]) hp2
    refine s_add_lst (s2 _ _ upd_same) upd_same (by show 13 ≤ sizeLine; decide) fun p3 hp3 => ?_
    exact q p3 _ ((s1.trans s2).put hp3) ((s1.trans s2).free hp3) upd_same
end
end K12

set_option Elab.async false
set_option linter.all false
set_option maxRecDepth 100000
set_option maxHeartbeats 4000000
namespace K12
open PySem L2 K10
section
variable {P : Program} {w : World} {K : PySem.W.Frag} {mg : Str → Option Value} {base : Heap}
def LOW : Str := "abcdefghijklmnopqrstuvwxyz"
theorem low_len : LOW.cps.toList.length = 26 := by decide +kernel
theorem low_size : LOW.length ≤ sizeLine := by decide +kernel
theorem sum1 {ts : List Str} (h : ∀ t ∈ ts, t.length = 1) : (ts.map (·.length)).sum = ts.length := by
  induction ts with
  | nil => rfl
  | cons a r ih => rw [List.map_cons, List.sum_cons, h a List.mem_cons_self, ih fun t ht => h t (List.mem_cons_of_mem _ ht), List.length_cons]; omega
def sp_lword (K : PySem.W.Frag) : Sp := fun vs H Q _ => ∃ c : Int, vs = [.int c] ∧ ∀ (v : V) (H' : Hp), Same H H' → Has K H' v → Q v H'
theorem pick13 (i : Int) (h0 : 0 ≤ i) (h1 : i < 13) : ∃ t : Str, atI (W13.map V.str) i = some (.str t) ∧ t ∈ W13 ∧ t.length ≤ 5 := by
  obtain ⟨v, hv, m⟩ := atI_in (xs := W13.map V.str) (i := i) h0 h1
  obtain ⟨t, ht, rfl⟩ := List.mem_map.mp m
  exact ⟨t, hv, ht, of_decide_eq_true (List.all_eq_true.mp w13_len t ht)⟩
theorem w13_ascii : W13.all (fun t => t.cps.toList.all fun c => decide (c < 128)) = true := by decide +kernel
theorem nd_law_word_1 : (["_law_k", "_law_letters", "_law_cell_here"] : List Str).Nodup := by decide +kernel
theorem sc_law_word : FnScope ["_law_cell_here", "_law_heads", "_law_more", "_law_letters", "_law_signs", "_law_word_here"] ["_law_cell_here"] (defScope s_law_word) := ⟨rfl, rfl, rfl, by decide +kernel, rfl, by decide +kernel, by decide +kernel⟩
theorem ok_lword {f : Addr} {fd : FuncData} (F : Fun K "_law_word" "_law_word" s_law_word f fd) (T : Txt K mg) (C__law_words : Callee P w K mg base 1 "_law_words" [] sp_words) : FnOk P w K mg base CX0 2 f fd ["_law_cell_here"] (sp_lword K) := by
  refine F.okq sc_law_word (fun vs H Q E h => ?_) (fun cdv A outer s H vs Q E hr h => ?_)
  · obtain ⟨c, rfl, _⟩ := h
    rfl
  · obtain ⟨c, rfl, q⟩ := h
    refine ⟨_, qss_cons (qs_set (i := 1) sc_law_word.nd rfl (Or.inl rfl) (qe_fn0 C__law_words (hr.mono (by decide))))
      (qss_cons (qs_if (qt_cmpR op_gt (qe_op op_mod (qv 0) (qe_int)) (qe_int) (nomark _)) (qss_one (qs_ret (qe_ix (k_ix K) (qv 1) (qe_op op_mod (qe_op op_fdiv (qv 0) (qe_int)) (qe_int)) (fun _ _ => rfl)))) (qss_nil))
      (qss_cons (qs_set (i := 2) sc_law_word.nd rfl (Or.inl rfl) (qe_op op_fdiv (qv 0) (qe_int)))
      (qss_cons (qs_if (qt_cmpR (k_eq K hr.u200) (qe_op op_mod (qv 2) (qe_int)) (qe_int) (nomark _)) (qss_cons (qs_set (i := 3) sc_law_word.nd rfl (Or.inr rfl) (qe_str))
      (qss_cons (qs_setC (i := 4) (N := ["_law_k", "_law_letters", "_law_cell_here"]) (σ0 := capSt 1 [3, 0]) rfl (cscope_fn rfl (by decide +kernel) (by decide +kernel) (by decide +kernel)) (qi_range1 rfl T.range (qa_cons (qe_op (k_add K) (qe_int) (qe_op op_mod (qe_op op_fdiv (qv 2) (qe_int)) (qe_int))) qa_nil)) (takes_in rfl (by rfl)) (fun _ _ _ _ => qg_name (i := 0) nd_law_word_1 rfl (Or.inl rfl)) (fun _ _ _ _ => qts_nil) (fun _ _ _ _ => qe_ix (k_ix K) (qv 1) (qe_op op_mod (qe_op op_mod (qe_op op_mulA (qv 2) (qe_op (k_add K) (qv 0) (qe_int))) (qe_int)) (qe_int)) (fun _ _ => rfl)) sc_law_word.nd rfl (Or.inl rfl))
      (qss_one (qs_ret (qe_bmK K PySem.F.plainAttrs_str PySem.F.slot_str_join PySem.F.type_str_join (k_join K) (qe_str) (qa_cons (qv 4) qa_nil)))))) (qss_nil))
      (qss_cons (qs_set (i := 5) sc_law_word.nd rfl (Or.inl rfl) (qe_ix (k_ix K) (qv 1) (qe_op op_mod (qe_op op_fdiv (qv 2) (qe_int)) (qe_int)) (fun _ _ => rfl)))
      (qss_cons (qs_if (qt_cmpR (k_eq K hr.u200) (qe_op op_mod (qv 2) (qe_int)) (qe_int) (nomark _)) (qss_one (qs_ret (qe_ix (k_ix K) (qe_lst (qa_cons (qe_op (k_add K) (qv 5) (qe_str)) (qa_cons (qe_slice (k_sl K) (qv 5) (qo_none) (qo_some (qe_un un_neg (qe_int)))) (qa_cons (qe_bm0K K PySem.F.plainAttrs_str PySem.F.slot_str_upper PySem.F.type_str_upper mt_upper (qv 5)) (qa_cons (qe_op (k_add K) (qv 5) (qe_str)) (qa_cons (qe_str) (qa_cons (qe_op (k_add K) (qe_str) (qv 5)) qa_nil))))))) (qe_op op_mod (qe_op op_fdiv (qv 2) (qe_int)) (qe_int)) (fun _ _ => rfl)))) (qss_nil))
      (qss_one (qs_ret (qe_ix (k_ix K) (qe_lst (qa_cons (qe_non) (qa_cons (qe_bl) (qa_cons (qe_int) (qa_cons (qe_tup (qa_cons (qv 5) qa_nil)) (qa_cons (qe_lst (qa_cons (qv 5) qa_nil)) (qa_cons (qe_dnew) (qa_cons (qe_tup (qa_cons (qv 5) (qa_cons (qe_non) (qa_cons (qe_tup (qa_nil)) qa_nil)))) qa_nil)))))))) (qe_op op_mod (qe_op op_fdiv (qv 2) (qe_int)) (qe_int)) (fun _ _ => rfl))))))))), ?_⟩
    have bg := big
    walk_at "r"
    refine ⟨rfl, fun p H1 s1 hp ep => ?_⟩
    walk_at "r"
    refine ite2 (fun _ => ?_) (fun _ => ?_)
    · walk_at "r"
      obtain ⟨t, ht, _, hl⟩ := pick13 (c / 5 % 13) (Int.emod_nonneg _ (by decide)) (Int.emod_lt_of_pos _ (by decide))
      exact s_ix_lst (SqL.of ep) ht (q _ H1 s1 ⟨_, .str t (by omega)⟩)
    walk_at "r"
    refine ite2 (fun _ => ?_) (fun _ => ?_)
    · have m0 : 0 ≤ c / 5 / 3 % 6 := Int.emod_nonneg _ (by decide)
      have m1 : c / 5 / 3 % 6 < 6 := Int.emod_lt_of_pos _ (by decide)
      walk_at "r"
      refine ⟨by omega, by omega, fun D hD => ?_⟩
      refine comp_range (Pv := fun i ys σ' H' => ∃ kv ts, σ' = [kv, some (.str LOW), some (.int c)] ∧ ys = ts.map V.str ∧ ts.length = i ∧ (∀ t ∈ ts, t.length = 1) ∧ Same H1 H') ⟨none, [], rfl, rfl, rfl, (fun t h => nomatch h), Same.upd hD⟩ ?_ ?_
      · rintro i ys σ' H' hi hys ⟨kv, ts, rfl, rfl, hl, h1, hH⟩
        walk_at "r"
        refine s_mul_r (by omega) (by omega) ?_
        walk_at "r"
        obtain ⟨d, hd, _⟩ := atI_in (xs := LOW.cps.toList) (i := c * (0 + (i : Int) + 6007) % 1000003 % 26) (Int.emod_nonneg _ (by decide)) (by rw [low_len]; exact Int.emod_lt_of_pos _ (by decide))
        refine s_ix_str low_size hd ?_
        refine ⟨_, hys, by rw [List.length_map]; omega, _, upd_same, ?_⟩
        refine ⟨_, ts ++ [⟨#[d]⟩], rfl, by rw [List.map_append]; rfl, by simp [hl], fun t ht => ?_, hH.over hD⟩
        rcases List.mem_append.mp ht with ht | ht
        · exact h1 t ht
        · rw [List.mem_singleton.mp ht]; rfl
      · rintro ys σ' H2 hys ⟨kv, ts, rfl, rfl, hl, h1, hH⟩
        have e0 : (Str.ofString "").length = 0 := by decide +kernel
        walk_at "r"
        refine ⟨rfl, ?_⟩
        walk_at "r"
        refine s_join (K := K) (SqL.of hys) (by rw [sum1 h1, e0]; omega) ?_
        have jl := join_le h1
        exact q _ H2 (s1.trans hH) ⟨_, .str _ (by omega)⟩
    walk_at "r"
    obtain ⟨t, ht, mt, hl⟩ := pick13 (c / 5 / 3 % 13) (Int.emod_nonneg _ (by decide)) (Int.emod_lt_of_pos _ (by decide))
    refine s_ix_lst (SqL.of ep) ht ?_
    walk_at "r"
    refine ite2 (fun _ => ?_) (fun _ => ?_)
    · have l1 : (Str.ofString " ").length = 1 := by decide +kernel
      have l2 : (Str.ofString "s").length = 1 := by decide +kernel
      have l0 : (Str.ofString "").length = 0 := by decide +kernel
      walk_at "r"
      refine s_add_str (by omega) ?_
      walk_at "r"
      refine s_sl_str (by omega) ?_
      have l3 := Txt.slice_le t none (some (-1))
      walk_at "r"
      have asc : ∀ c ∈ t.cps.toList, c < 128 := fun c hc => of_decide_eq_true (List.all_eq_true.mp (List.all_eq_true.mp w13_ascii t mt) c hc)
      refine ⟨rfl, t, rfl, rfl, asc, by omega, ?_⟩
      have lu : (⟨t.cps.map PyProof.Rows.up1⟩ : Str).length = t.length := by simp [Str.length]
      walk_at "r"
      refine s_add_str (by omega) ?_
      walk_at "r"
      refine s_add_str (by omega) ?_
      walk_at "r"
      refine ⟨by show 6 ≤ sizeLine; decide, fun p6 h6 => ?_⟩
      have s6 := Same.upd (o := .lst [.str (t ++ Str.ofString " "), .str (Txt.slice t none (some (-1))), .str ⟨t.cps.map PyProof.Rows.up1⟩, .str (t ++ Str.ofString "s"), .str (Str.ofString ""), .str (Str.ofString " " ++ t)]) h6
      walk_at "r"
      obtain ⟨v, hv, m⟩ := atI_in (xs := ([.str (t ++ Str.ofString " "), .str (Txt.slice t none (some (-1))), .str ⟨t.cps.map PyProof.Rows.up1⟩, .str (t ++ Str.ofString "s"), .str (Str.ofString ""), .str (Str.ofString " " ++ t)] : List V)) (i := c / 5 / 39 % 6) (Int.emod_nonneg _ (by decide)) (Int.emod_lt_of_pos _ (by decide))
      refine s_ix_lst (SqL.of upd_same) hv (q v _ (s1.trans s6) ?_)
      simp only [List.mem_cons, List.not_mem_nil, or_false] at m
      rcases m with rfl | rfl | rfl | rfl | rfl | rfl
      · exact ⟨_, .str _ (by rw [catlen]; omega)⟩
      · exact ⟨_, .str _ (by omega)⟩
      · exact ⟨_, .str _ (by omega)⟩
      · exact ⟨_, .str _ (by rw [catlen]; omega)⟩
      · exact ⟨_, .str _ (by omega)⟩
      · exact ⟨_, .str _ (by rw [catlen]; omega)⟩
    · walk_at "r"
      refine ⟨by show 1 ≤ sizeLine; decide, fun p1 h1 => ?_⟩
      have s2 := Same.upd (o := .tup [.str t]) h1
      have e2 : upd H1 p1 (.tup [.str t]) p1 = some (.tup [.str t]) := upd_same
      revert s2 e2
      generalize upd H1 p1 (.tup [.str t]) = H2
      intro s2 e2
      walk_at "r"
      refine ⟨by show 1 ≤ sizeLine; decide, fun p2 h2 => ?_⟩
      have s3 := Same.upd (o := .lst [.str t]) h2
      have e3 : upd H2 p2 (.lst [.str t]) p2 = some (.lst [.str t]) := upd_same
      revert s3 e3
      generalize upd H2 p2 (.lst [.str t]) = H3
      intro s3 e3
      walk_at "r"
      refine s_dnew fun p3 h3 => ?_
      have s4 := Same.upd (o := .dK []) h3
      have e4 : upd H3 p3 (.dK []) p3 = some (.dK []) := upd_same
      revert s4 e4
      generalize upd H3 p3 (.dK []) = H4
      intro s4 e4
      walk_at "r"
      refine ⟨by show 0 ≤ sizeLine; decide, fun p4 h4 => ?_⟩
      have s5 := Same.upd (o := .tup []) h4
      revert s5
      generalize upd H4 p4 (.tup []) = H5
      intro s5
      walk_at "r"
      refine ⟨by show 3 ≤ sizeLine; decide, fun p5 h5 => ?_⟩
      have s6 := Same.upd (o := .tup [.str t, .non, .ref p4]) h5
      have e6 : upd H5 p5 (.tup [.str t, .non, .ref p4]) p5 = some (.tup [.str t, .non, .ref p4]) := upd_same
      revert s6 e6
      generalize upd H5 p5 (.tup [.str t, .non, .ref p4]) = H6
      intro s6 e6
      walk_at "r"
      refine ⟨by show 7 ≤ sizeLine; decide, fun p6 h6 => ?_⟩
      have s7 := Same.upd (o := .lst [.non, .bl true, .int 0, .ref p1, .ref p2, .ref p3, .ref p5]) h6
      have e7 : upd H6 p6 (.lst [.non, .bl true, .int 0, .ref p1, .ref p2, .ref p3, .ref p5]) p6 = some (.lst [.non, .bl true, .int 0, .ref p1, .ref p2, .ref p3, .ref p5]) := upd_same
      revert s7 e7
      generalize upd H6 p6 (.lst [.non, .bl true, .int 0, .ref p1, .ref p2, .ref p3, .ref p5]) = H7
      intro s7 e7
      walk_at "r"
      obtain ⟨v, hv, m⟩ := atI_in (xs := ([.non, .bl true, .int 0, .ref p1, .ref p2, .ref p3, .ref p5] : List V)) (i := c / 5 / 39 % 7) (Int.emod_nonneg _ (by decide)) (Int.emod_lt_of_pos _ (by decide))
      have u6 := s7
      have u5 := s6.trans u6
      have u4 := s5.trans u5
      have u3 := s4.trans u4
      have u2 := s3.trans u3
      refine s_ix_lst (SqL.of e7) hv (q v _ (s1.trans (s2.trans u2)) ?_)
      simp only [List.mem_cons, List.not_mem_nil, or_false] at m
      rcases m with rfl | rfl | rfl | rfl | rfl | rfl | rfl
      · exact ⟨_, .non⟩
      · exact ⟨_, .bl _⟩
      · exact ⟨_, .int _⟩
      · exact ⟨_, .tup (SqT.of (u2 _ _ e2))⟩
      · exact ⟨_, .lst (SqL.of (u3 _ _ e3))⟩
      · exact ⟨_, .dK (u4 _ _ e4)⟩
      · exact ⟨_, .tup (SqT.of (u6 _ _ e6))⟩
end
end K12

set_option Elab.async false
set_option linter.all false
set_option maxRecDepth 100000
set_option maxHeartbeats 4000000
namespace K12
open PySem L2 K10
section
variable {P : Program} {w : World} {K : PySem.W.Frag} {mg : Str → Option Value} {base : Heap}
def tbl (s : Str) (o nu tr nm tw no : Bool) : Bool := if s = "odd" then o else if s = "num" then nu else if s = "truth" then tr else if s ∈ (["name", "fn", "let"] : List Str) then nm else if s = "rec" then tw else no
theorem fit_mk {n : Nt} {ws : List Str} (o nu tr nm tw no : Bool) (h1 : oddN n = o) (h2 : numN n = nu) (h3 : truthN n = tr) (h4 : nameN n = nm) (h5 : twoN n = tw) (h6 : nonN n = no) (h : (W13.all fun s => tbl s o nu tr nm tw no == decide (s ∈ ws)) = true) : ∀ s ∈ W13, noteB s n = decide (s ∈ ws) := fun s hs => by
  have := List.all_eq_true.mp h s hs
  have e : noteB s n = tbl s (oddN n) (numN n) (truthN n) (nameN n) (twoN n) (nonN n) := rfl
  rw [e, h1, h2, h3, h4, h5, h6]
  simpa using this
def FitAt (K : PySem.W.Frag) (H : Hp) (q : Addr) (P : Str → Prop) : Prop := ∃ (nv : V) (nt : Nt) (fs : Str) (ws : List Str), H q = some (.lst [nv, .str fs]) ∧ NtAt K H nv nt ∧ SplitC fs " " ws ∧ ∀ s ∈ W13, P s → noteB s nt = decide (s ∈ ws)
def SmallV : V → Prop
  | .non => True
  | .bl _ => True
  | .int _ => True
  | .str s => s.length ≤ 1000
  | _ => False
theorem SmallV.ty {v : V} (h : SmallV v) {K : PySem.W.Frag} {H : Hp} : ∃ t, TyN K H v t ∧ kitT t "tuple" = false := by
  cases v with
  | non => exact ⟨_, .non, by decide⟩
  | bl b => exact ⟨_, .bl b, by decide⟩
  | int i => exact ⟨_, .int i, by decide⟩
  | str s => exact ⟨_, .str s h, by decide⟩
  | _ => exact h.elim
theorem nt_fl {K : PySem.W.Frag} {H : Hp} {v : V} (h : SmallV v) : NtAt K H v (.fl v) := by
  obtain ⟨t, h1, h2⟩ := h.ty (K := K) (H := H)
  exact ⟨rfl, t, h1, h2⟩
theorem nt_tp {K : PySem.W.Frag} {H : Hp} {a : Addr} {xs : List V} (e : H a = some (.tup xs)) (h : ∀ x ∈ xs, SmallV x) : NtAt K H (.ref a) (.tp xs) :=
  ⟨a, rfl, SqT.of e, fun x hx => by obtain ⟨t, h1, _⟩ := (h x hx).ty (K := K) (H := H); exact ⟨t, h1⟩⟩
theorem nt_ls {K : PySem.W.Frag} {H : Hp} {a : Addr} {xs : List V} (e : H a = some (.lst xs)) : NtAt K H (.ref a) .ot := ⟨a, "list", rfl, .lst (SqL.of e), rfl⟩
theorem odd_not_name {t : Str} (h : oddB t = true) : nameB t = false := by
  unfold oddB at h
  simp only [Bool.and_eq_true, Bool.not_eq_true'] at h
  exact h.1.1.2
theorem odd_name {t : Str} (h : nameB t = true) : oddB t = false := by
  unfold oddB
  rw [h]
  simp
theorem pick3 {t0 t1 t2 : Str} (n0 : nameB t0 = true) (n1 : nameB t1 = true) (n2 : nameB t2 = true) (c : Int) : ∃ t : Str, atI ([.str t0, .str t1, .str t2] : List V) (c % 3) = some (.str t) ∧ nameB t = true := by
  obtain ⟨v, hv, m⟩ := atI_in (xs := ([.str t0, .str t1, .str t2] : List V)) (i := c % 3) (Int.emod_nonneg _ (by decide)) (Int.emod_lt_of_pos _ (by decide))
  simp only [List.mem_cons, List.not_mem_nil, or_false] at m
  rcases m with h | h | h <;> exact ⟨_, by rw [hv, h], by assumption⟩
theorem three_in {wd : Str} : inV (.str wd) [.str "name", .str "fn", .str "let"] = decide (wd ∈ (["name", "fn", "let"] : List Str)) := by
  have := in_strs (t := wd) (ws := ["name", "fn", "let"])
  rw [show ([V.str "name", V.str "fn", V.str "let"] : List V) = (["name", "fn", "let"] : List Str).map V.str from rfl, this]
  by_cases hm : wd ∈ (["name", "fn", "let"] : List Str)
  · rw [decide_eq_true hm, mem_isIn hm]
  · rw [decide_eq_false hm, not_isIn hm]
theorem sp_odd1 : SplitC "odd" " " ["odd"] := by unfold SplitC; decide +kernel
theorem sp_num1 : SplitC "num" " " ["num"] := by unfold SplitC; decide +kernel
theorem sp_truth1 : SplitC "truth" " " ["truth"] := by unfold SplitC; decide +kernel
theorem sp_rec1 : SplitC "rec" " " ["rec"] := by unfold SplitC; decide +kernel
theorem sp_name1 : SplitC "name fn let" " " ["name", "fn", "let"] := by unfold SplitC; decide +kernel
theorem sp_non1 : SplitC "gap plus minus less call if" " " ["gap", "plus", "minus", "less", "call", "if"] := by unfold SplitC; decide +kernel
theorem sp_nil1 : SplitC "" " " [""] := by unfold SplitC; decide +kernel
def sp_right (K : PySem.W.Frag) : Sp := fun vs H Q _ => ∃ (wd : Str) (c : Int) (p : Addr) (t0 t1 t2 : Str), vs = [.str wd, .int c, .ref p] ∧ SqL K H p [.str t0, .str t1, .str t2] ∧ nameB t0 = true ∧ nameB t1 = true ∧ nameB t2 = true ∧ ∀ (q : Addr) (H' : Hp), Same H H' → FitAt K H' q (fun _ => True) → Q (.ref q) H'
theorem sc_law_right : FnScope ["_law_word_here", "_law_cell_here", "_law_names_here"] ["_law_word_here", "_law_cell_here", "_law_names_here"] (defScope s_law_right) := ⟨rfl, rfl, rfl, by decide +kernel, rfl, by decide +kernel, by decide +kernel⟩
theorem ok_right {f : Addr} {fd : FuncData} (F : Fun K "_law_right" "_law_right" s_law_right f fd) (T : Txt K mg) (C__law_odd : Callee P w K mg base 1 "_law_odd" ["_law_cell_here"] sp_lodd) (C__law_number : Callee P w K mg base 1 "_law_number" ["_law_cell_here"] sp_num) : FnOk P w K mg base CX0 2 f fd ["_law_word_here", "_law_cell_here", "_law_names_here"] (sp_right K) := by
  refine F.okq sc_law_right (fun vs H Q E h => ?_) (fun cdv A outer s H vs Q E hr h => ?_)
  · obtain ⟨wd, c, p, t0, t1, t2, rfl, _⟩ := h
    rfl
  · obtain ⟨wd, c, p, t0, t1, t2, rfl, hp, n0, n1, n2, q⟩ := h
    refine ⟨_, qss_cons (qs_if (qt_cmpR (k_eq K hr.u200) (qv 0) (qe_str) (nomark _)) (qss_one (qs_ret (qe_lst (qa_cons (qe_fn C__law_odd (hr.mono (by decide)) (qa_cons (qv 1) qa_nil)) (qa_cons (qe_str) qa_nil))))) (qss_nil))
      (qss_cons (qs_if (qt_cmpR (k_eq K hr.u200) (qv 0) (qe_str) (nomark _)) (qss_one (qs_ret (qe_lst (qa_cons (qe_fn C__law_number (hr.mono (by decide)) (qa_cons (qv 1) qa_nil)) (qa_cons (qe_str) qa_nil))))) (qss_nil))
      (qss_cons (qs_if (qt_cmpR (k_eq K hr.u200) (qv 0) (qe_str) (nomark _)) (qss_one (qs_ret (qe_lst (qa_cons (qe_cmpR (k_eq K hr.u200) (qe_op op_mod (qv 1) (qe_int)) (qe_int) (nomark _)) (qa_cons (qe_str) qa_nil))))) (qss_nil))
      (qss_cons (qs_if (qt_cmpR (k_in K) (qv 0) (qe_lst (qa_cons (qe_str) (qa_cons (qe_str) (qa_cons (qe_str) qa_nil)))) (by rfl)) (qss_one (qs_ret (qe_lst (qa_cons (qe_ix (k_ix K) (qv 2) (qe_op op_mod (qv 1) (qe_int)) (fun _ _ => rfl)) (qa_cons (qe_str) qa_nil))))) (qss_nil))
      (qss_cons (qs_if (qt_cmpR (k_eq K hr.u200) (qv 0) (qe_str) (nomark _)) (qss_one (qs_ret (qe_lst (qa_cons (qe_tup (qa_cons (qe_ix (k_ix K) (qv 2) (qe_op op_mod (qv 1) (qe_int)) (fun _ _ => rfl)) (qa_cons (qe_ix (k_ix K) (qv 2) (qe_op op_mod (qe_op op_fdiv (qv 1) (qe_int)) (qe_int)) (fun _ _ => rfl)) qa_nil))) (qa_cons (qe_str) qa_nil))))) (qss_nil))
      (qss_one (qs_ret (qe_lst (qa_cons (qe_non) (qa_cons (qe_str) qa_nil))))))))), ?_⟩
    have bg := big
    have fin : ∀ (H1 : Hp) (nv : V) (nt : Nt) (fs : Str) (ws : List Str) (r : Addr), Same H H1 → H1 r = none → NtAt K H1 nv nt → SplitC fs " " ws → (∀ s ∈ W13, noteB s nt = decide (s ∈ ws)) → Q (.ref r) (upd H1 r (.lst [nv, .str fs])) := fun H1 nv nt fs ws r s1 hr1 hn hs hw =>
      q r _ (s1.put hr1) ⟨nv, nt, fs, ws, upd_same, hn.same (Same.upd hr1), hs, fun s h _ => hw s h⟩
    walk_at "r"
    rw [dec_str]
    refine ite2 (fun _ => ?_) (fun _ => ?_)
    · walk_at "r"
      refine ⟨c, rfl, fun t H1 ho hl s1 => ?_⟩
      walk_at "r"
      refine ⟨by show 2 ≤ sizeLine; decide, fun r hr1 => ?_⟩
      exact fin H1 _ (.fl (.str t)) _ _ r s1 hr1 (nt_fl (show t.length ≤ 1000 by omega)) sp_odd1 (fit_mk true false false false false false ho rfl rfl (odd_not_name ho) rfl rfl (by decide +kernel))
    walk_at "r"
    rw [dec_str]
    refine ite2 (fun _ => ?_) (fun _ => ?_)
    · walk_at "r"
      refine ⟨c, rfl, fun z z0 z1 => ?_⟩
      walk_at "r"
      refine ⟨by show 2 ≤ sizeLine; decide, fun r hr1 => ?_⟩
      exact fin H _ (.fl (.int z)) _ _ r (Same.refl _) hr1 (nt_fl (v := .int z) trivial) sp_num1 (fit_mk false true false false false false rfl (by show (decide (0 ≤ z) && decide (z < 10 ^ 18)) = true; rw [decide_eq_true z0, decide_eq_true z1]; rfl) rfl rfl rfl rfl (by decide +kernel))
    walk_at "r"
    rw [dec_str]
    refine ite2 (fun _ => ?_) (fun _ => ?_)
    · walk_at "r"
      refine ⟨by show 2 ≤ sizeLine; decide, fun r hr1 => ?_⟩
      exact fin H _ (.fl (.bl _)) _ _ r (Same.refl _) hr1 (nt_fl (v := .bl _) trivial) sp_truth1 (fit_mk false false true false false false rfl rfl rfl rfl rfl rfl (by decide +kernel))
    walk_at "r"
    refine ⟨by show 3 ≤ sizeLine; decide, fun p1 h1 => ?_⟩
    have s1 : Same H (upd H p1 (.lst [.str "name", .str "fn", .str "let"])) := Same.upd h1
    have e1 : upd H p1 (.lst [.str "name", .str "fn", .str "let"]) p1 = some (.lst [.str "name", .str "fn", .str "let"]) := upd_same
    revert s1 e1
    generalize upd H p1 (.lst [.str "name", .str "fn", .str "let"]) = H1
    intro s1 e1
    refine s_in_seq (.inl (SqL.of e1)) rfl rfl ?_
    rw [if_neg Bool.false_ne_true, three_in]
    walk_at "r"
    obtain ⟨t, ht, hnt⟩ := pick3 n0 n1 n2 c
    obtain ⟨t', ht', hnt'⟩ := pick3 n0 n1 n2 (c / 3)
    have hl := (name_len hnt).2
    have hl' := (name_len hnt').2
    refine ite2 (fun _ => ?_) (fun _ => ?_)
    · walk_at "r"
      refine s_ix_lst (s1.seq hp) ht ?_
      walk_at "r"
      refine ⟨by show 2 ≤ sizeLine; decide, fun r hr1 => ?_⟩
      exact fin H1 _ (.fl (.str t)) _ _ r s1 hr1 (nt_fl (show t.length ≤ 1000 by omega)) sp_name1 (fit_mk false false false true false false (odd_name hnt) rfl rfl hnt rfl rfl (by decide +kernel))
    walk_at "r"
    rw [dec_str]
    refine ite2 (fun _ => ?_) (fun _ => ?_)
    · walk_at "r"
      refine s_ix_lst (s1.seq hp) ht ?_
      walk_at "r"
      refine s_ix_lst (s1.seq hp) ht' ?_
      walk_at "r"
      refine ⟨by show 2 ≤ sizeLine; decide, fun p2 h2 => ?_⟩
      have s2 := Same.upd (o := .tup [.str t, .str t']) h2
      walk_at "r"
      refine ⟨by show 2 ≤ sizeLine; decide, fun r hr1 => ?_⟩
      refine fin _ _ (.tp [.str t, .str t']) _ _ r (s1.trans s2) hr1 (nt_tp upd_same ?_) sp_rec1 (fit_mk false false false false true false rfl rfl rfl rfl (by show (nameB t && nameB t') = true; rw [hnt, hnt']; rfl) rfl (by decide +kernel))
      intro x hx
      simp only [List.mem_cons, List.not_mem_nil, or_false] at hx
      rcases hx with rfl | rfl
      · show t.length ≤ 1000; omega
      · show t'.length ≤ 1000; omega
    · walk_at "r"
      refine ⟨by show 2 ≤ sizeLine; decide, fun r hr1 => ?_⟩
      exact fin H1 _ (.fl .non) _ _ r s1 hr1 (nt_fl (v := .non) trivial) sp_non1 (fit_mk false false false false false true rfl rfl rfl rfl rfl rfl (by decide +kernel))
end
end K12

set_option Elab.async false
set_option linter.all false
set_option maxRecDepth 100000
set_option maxHeartbeats 4000000
namespace K12
open PySem L2 K10
section
variable {P : Program} {w : World} {K : PySem.W.Frag} {mg : Str → Option Value} {base : Heap}
theorem eqT_any {K : PySem.W.Frag} {H : Hp} {v : V} {t : String} {z : Str} {Q : VK} (h : TyN K H v t) (q : Q (.bl (decide (v = .str z))) H) : rEqT K v (.str z) H Q := by
  cases h with
  | non => exact s_eqt rfl q
  | bl x => exact s_eqt rfl q
  | int x => exact s_eqt rfl q
  | str x h => exact s_eqt rfl q
  | tup h => exact .inr ⟨_, z, rfl, rfl, .inr (.inl ⟨_, h⟩), by rw [decide_eq_false (by simp)] at q; exact q⟩
  | lst h => exact .inr ⟨_, z, rfl, rfl, .inl ⟨_, h⟩, by rw [decide_eq_false (by simp)] at q; exact q⟩
  | dK h => exact .inr ⟨_, z, rfl, rfl, .inr (.inr ⟨_, h⟩), by rw [decide_eq_false (by simp)] at q; exact q⟩
theorem name_bad {t u : Str} {d : Nat} (h : d ∈ u.cps.toList) (hd : ¬ d ∈ LET.cps.toList) : nameB (t ++ u) = false := by
  unfold nameB
  rw [not_allIn (d := d) (by rw [cat_cps]; exact List.mem_append_right _ h) hd]
  simp
theorem eq61 : oddB (PySem.Txt.mul ("=" : Str) 61) = false ∧ (PySem.Txt.mul ("=" : Str) 61).length ≤ 1000 := by decide +kernel
theorem log_small {n : Int} (h0 : 0 ≤ n) (h1 : n < 10 ^ 18) : n.natAbs.log2 < 1920 := by
  by_cases z : n.natAbs = 0
  · rw [z]; decide
  · rw [Nat.log2_lt z]
    have : n.natAbs < 10 ^ 18 := by omega
    exact Nat.lt_trans this (by decide +kernel)
theorem nb_num (nt : Nt) : noteB "num" nt = numN nt := by unfold noteB; rw [if_neg (by decide +kernel), if_pos rfl]
theorem nb_odd (nt : Nt) : noteB "odd" nt = oddN nt := by unfold noteB; rw [if_pos rfl]
theorem nb_truth (nt : Nt) : noteB "truth" nt = truthN nt := by unfold noteB; rw [if_neg (by decide +kernel), if_neg (by decide +kernel), if_pos rfl]
theorem nb_rec (nt : Nt) : noteB "rec" nt = twoN nt := by unfold noteB; rw [if_neg (by decide +kernel), if_neg (by decide +kernel), if_neg (by decide +kernel), if_neg (by decide +kernel), if_pos rfl]
theorem nb_oth {s : Str} {nt : Nt} (h1 : ¬ s = "odd") (h2 : ¬ s = "num") (h3 : ¬ s = "truth") (h4 : ¬ s = "rec") (a : nameN nt = false) (b : nonN nt = false) : noteB s nt = false := by
  unfold noteB
  rw [if_neg h1, if_neg h2, if_neg h3]
  split
  · exact a
  · first | exact b | (rw [if_neg h4]; exact b)
theorem w13_nil : W13.all (fun s => !decide (s ∈ ([""] : List Str))) = true := by decide +kernel
theorem v_dec (a b : Str) : decide (V.str a = V.str b) = decide (a = b) := by rw [Bool.eq_iff_iff]; simp
def sp_wrong (K : PySem.W.Frag) : Sp := fun vs H Q _ => ∃ (v : V) (c : Int) (p : Addr) (t0 t1 t2 : Str), vs = [v, .int c, .ref p] ∧ Has K H v ∧ SqL K H p [.str t0, .str t1, .str t2] ∧ nameB t0 = true ∧ nameB t1 = true ∧ nameB t2 = true ∧ ∀ (q : Addr) (H' : Hp), Same H H' → FitAt K H' q (fun s => v = .str s) → Q (.ref q) H'
theorem sc_law_wrong : FnScope ["_law_word_here", "_law_cell_here", "_law_names_here", "_law_name", "_law_kept", "_law_far", "_law_some"] ["_law_word_here", "_law_cell_here", "_law_names_here"] (defScope s_law_wrong) := ⟨rfl, rfl, rfl, by decide +kernel, rfl, by decide +kernel, by decide +kernel⟩
theorem ok_wrong {f : Addr} {fd : FuncData} (F : Fun K "_law_wrong" "_law_wrong" s_law_wrong f fd) (T : Txt K mg) : FnOk P w K mg base CX0 1 f fd ["_law_word_here", "_law_cell_here", "_law_names_here"] (sp_wrong K) := by
  refine F.okq sc_law_wrong (fun vs H Q E h => ?_) (fun cdv A outer s H vs Q E hr h => ?_)
  · obtain ⟨v, c, p, t0, t1, t2, rfl, _⟩ := h
    rfl
  · obtain ⟨v, c, p, t0, t1, t2, rfl, hv, hp, n0, n1, n2, q⟩ := h
    refine ⟨_, qss_cons (qs_set (i := 3) sc_law_wrong.nd rfl (Or.inl rfl) (qe_ix (k_ix K) (qv 2) (qe_op op_mod (qv 1) (qe_int)) (fun _ _ => rfl)))
      (qss_cons (qs_set (i := 4) sc_law_wrong.nd rfl (Or.inl rfl) (qe_ix (k_ix K) (qe_lst (qa_consts (xs := [.str "let", .str "if", .str "fn", .str "rec", .str "yes", .str "no"]) rfl)) (qe_op op_mod (qe_op op_fdiv (qv 1) (qe_int)) (qe_int)) (fun _ _ => rfl)))
      (qss_cons (qs_set (i := 5) sc_law_wrong.nd rfl (Or.inl rfl) (qe_op op_mod (qe_op op_fdiv (qv 1) (qe_int)) (qe_op op_pow (qe_int) (qe_int))))
      (qss_cons (qs_set (i := 6) sc_law_wrong.nd rfl (Or.inl rfl) (qe_lst (qa_cons (qe_str) (qa_cons (qv 4) (qa_cons (qe_op (k_add K) (qv 3) (qe_str)) (qa_cons (qe_str) (qa_cons (qe_tup (qa_cons (qv 3) qa_nil)) (qa_cons (qe_tup (qa_cons (qv 3) (qa_cons (qv 3) (qa_cons (qv 3) qa_nil)))) (qa_cons (qe_lst (qa_cons (qv 3) qa_nil)) (qa_cons (qe_tup (qa_nil)) qa_nil))))))))))
      (qss_cons (qs_if (qt_cmpR (k_eqT K hr.u200) (qv 0) (qe_str) (nomark _)) (qss_one (qs_set (i := 6) sc_law_wrong.nd rfl (Or.inl rfl) (qe_lst (qa_cons (qe_op op_sub (qe_un un_neg (qe_int)) (qv 5)) (qa_cons (qe_op (k_add K) (qe_op op_pow (qe_int) (qe_int)) (qv 5)) (qa_cons (qe_bl) (qa_cons (qe_bl) (qa_cons (qe_callTy k_strI (by rfl) T.str (by decide +kernel) (qa_cons (qe_op op_mod (qv 5) (qe_op op_pow (qe_int) (qe_int))) qa_nil)) (qa_cons (qe_non) (qa_cons (qe_un un_neg (qe_int)) (qa_cons (qe_op op_pow (qe_int) (qe_int)) qa_nil))))))))))) (qss_nil))
      (qss_cons (qs_if (qt_cmpR (k_eqT K hr.u200) (qv 0) (qe_str) (nomark _)) (qss_one (qs_set (i := 6) sc_law_wrong.nd rfl (Or.inl rfl) (qe_lst (qa_cons (qv 3) (qa_cons (qe_str) (qa_cons (qe_callTy k_strI (by rfl) T.str (by decide +kernel) (qa_cons (qe_op op_mod (qv 5) (qe_op op_pow (qe_int) (qe_int))) qa_nil)) (qa_cons (qe_str) (qa_cons (qe_str) (qa_cons (qe_str) (qa_cons (qe_str) (qa_cons (qe_op op_mulS (qe_str) (qe_int)) qa_nil))))))))))) (qss_nil))
      (qss_cons (qs_if (qt_cmpR (k_eqT K hr.u200) (qv 0) (qe_str) (nomark _)) (qss_one (qs_set (i := 6) sc_law_wrong.nd rfl (Or.inl rfl) (qe_lst (qa_cons (qe_int) (qa_cons (qe_int) (qa_cons (qe_non) (qa_cons (qe_str) (qa_cons (qe_str) (qa_cons (qe_str) (qa_cons (qv 5) (qa_cons (qv 3) qa_nil))))))))))) (qss_nil))
      (qss_cons (qs_if (qt_cmpR (k_eqT K hr.u200) (qv 0) (qe_str) (nomark _)) (qss_cons (qs_set (i := 6) sc_law_wrong.nd rfl (Or.inl rfl) (qe_lst (qa_cons (qe_tup (qa_cons (qv 3) (qa_cons (qv 4) qa_nil))) (qa_cons (qe_tup (qa_cons (qv 4) (qa_cons (qv 3) qa_nil))) (qa_cons (qe_tup (qa_cons (qe_str) (qa_cons (qv 3) qa_nil))) (qa_cons (qe_tup (qa_cons (qv 3) (qa_cons (qe_str) qa_nil))) (qa_cons (qe_lst (qa_cons (qv 3) (qa_cons (qv 3) qa_nil))) (qa_cons (qe_tup (qa_cons (qv 3) (qa_cons (qe_int) qa_nil))) (qa_cons (qe_tup (qa_cons (qe_non) (qa_cons (qv 3) qa_nil))) (qa_cons (qe_tup (qa_cons (qv 3) qa_nil)) qa_nil))))))))))
      (qss_one (qs_set (i := 6) sc_law_wrong.nd rfl (Or.inl rfl) (qe_op (k_add K) (qv 6) (qe_lst (qa_cons (qe_tup (qa_cons (qv 3) (qa_cons (qe_str) qa_nil))) (qa_cons (qe_tup (qa_cons (qv 3) (qa_cons (qv 3) (qa_cons (qv 3) qa_nil)))) (qa_cons (qv 3) (qa_cons (qe_tup (qa_cons (qe_op (k_add K) (qv 3) (qe_str)) (qa_cons (qv 3) qa_nil))) (qa_cons (qe_tup (qa_cons (qv 3) (qa_cons (qe_str) qa_nil))) (qa_cons (qe_tup (qa_nil)) qa_nil))))))))))) (qss_nil))
      (qss_one (qs_ret (qe_lst (qa_cons (qe_ix (k_ix K) (qv 6) (qe_op op_mod (qe_op op_fdiv (qv 1) (qe_int)) (qe_callB (k_len K) (by rfl) T.len (by decide +kernel) (qa_cons (qv 6) qa_nil))) (fun _ _ => rfl)) (qa_cons (qe_str) qa_nil)))))))))))), ?_⟩
    have bg := big
    obtain ⟨t, ht, hnt⟩ := pick3 n0 n1 n2 c
    have hl := (name_len hnt).2
    have sml : SmallV (.str t) := show t.length ≤ 1000 by omega
    have sx : ∀ z : Str, z.length ≤ 1000 → SmallV (.str z) := fun z h => h
    have two : ∀ {a b : V}, SmallV a → SmallV b → ∀ x ∈ [a, b], SmallV x := fun ha hb x hx => by
      simp only [List.mem_cons, List.not_mem_nil, or_false] at hx
      rcases hx with rfl | rfl <;> assumption
    have fin : ∀ (H2 : Hp) (x : V) (nt : Nt) (r : Addr), Same H H2 → H2 r = none → NtAt K H2 x nt → (∀ s ∈ W13, v = .str s → noteB s nt = false) → Q (.ref r) (upd H2 r (.lst [x, .str ""])) := fun H2 x nt r s2 hr2 hn h =>
      q r _ (s2.put hr2) ⟨x, nt, "", [""], upd_same, hn.same (Same.upd hr2), sp_nil1, fun s hs hvs => by
        rw [h s hs hvs]
        have := List.all_eq_true.mp w13_nil s hs
        simpa using this⟩
    walk_at "r"
    refine s_ix_lst hp ht ?_
    walk_at "r"
    refine ⟨by show 6 ≤ sizeLine; decide, fun d1 hd1 => ?_⟩
    have s1 := Same.upd (o := .lst [.str "let", .str "if", .str "fn", .str "rec", .str "yes", .str "no"]) hd1
    walk_at "r"
    obtain ⟨vk, hvk, mvk⟩ := atI_in (xs := ([.str "let", .str "if", .str "fn", .str "rec", .str "yes", .str "no"] : List V)) (i := c / 3 % 6) (Int.emod_nonneg _ (by decide)) (Int.emod_lt_of_pos _ (by decide))
    obtain ⟨kk, rfl, hkk, hkl⟩ : ∃ kk : Str, vk = .str kk ∧ nameB kk = false ∧ kk.length ≤ 5 := by
      simp only [List.mem_cons, List.not_mem_nil, or_false] at mvk
      rcases mvk with h | h | h | h | h | h <;> exact ⟨_, h, by decide +kernel, by decide +kernel⟩
    have smk : SmallV (.str kk) := show kk.length ≤ 1000 by omega
    refine s_ix_lst (SqL.of upd_same) hvk ?_
    revert s1
    generalize upd H d1 (.lst [.str "let", .str "if", .str "fn", .str "rec", .str "yes", .str "no"]) = H1
    intro s1
    walk_at "r"
    have hfar : (0 : Int) ≤ c / 18 % 10 ^ Int.toNat 20 := Int.emod_nonneg _ (by decide)
    generalize c / 18 % 10 ^ Int.toNat 20 = far at hfar ⊢
    have l1 : (Str.ofString " ").length = 1 := by decide +kernel
    have l2 : (Str.ofString "(").length = 1 := by decide +kernel
    refine s_add_str (by omega) ?_
    have hd0 : (0 : Int) ≤ far % 10 ^ Int.toNat 18 := Int.emod_nonneg _ (by decide)
    have hd1' : far % 10 ^ Int.toNat 18 < 10 ^ 18 := Int.emod_lt_of_pos _ (by decide)
    have ftx := fig_text hd0 hd1'
    have flg := log_small hd0 hd1'
    walk_at "r"
    refine ⟨by show 1 ≤ sizeLine; decide, fun a1 ha1 => ?_⟩
    have sa1 : Same H1 (upd H1 a1 (.tup [.str t])) := Same.upd ha1
    have ea1 : upd H1 a1 (.tup [.str t]) a1 = some (.tup [.str t]) := upd_same
    revert sa1 ea1
    generalize upd H1 a1 (.tup [.str t]) = H2
    intro sa1 ea1
    walk_at "r"
    refine ⟨by show 3 ≤ sizeLine; decide, fun a2 ha2 => ?_⟩
    have sa2 : Same H2 (upd H2 a2 (.tup [.str t, .str t, .str t])) := Same.upd ha2
    have ea2 : upd H2 a2 (.tup [.str t, .str t, .str t]) a2 = some (.tup [.str t, .str t, .str t]) := upd_same
    revert sa2 ea2
    generalize upd H2 a2 (.tup [.str t, .str t, .str t]) = H3
    intro sa2 ea2
    walk_at "r"
    refine ⟨by show 1 ≤ sizeLine; decide, fun a3 ha3 => ?_⟩
    have sa3 : Same H3 (upd H3 a3 (.lst [.str t])) := Same.upd ha3
    have ea3 : upd H3 a3 (.lst [.str t]) a3 = some (.lst [.str t]) := upd_same
    revert sa3 ea3
    generalize upd H3 a3 (.lst [.str t]) = H4
    intro sa3 ea3
    walk_at "r"
    refine ⟨by show 0 ≤ sizeLine; decide, fun a4 ha4 => ?_⟩
    have sa4 : Same H4 (upd H4 a4 (.tup [])) := Same.upd ha4
    have ea4 : upd H4 a4 (.tup []) a4 = some (.tup []) := upd_same
    revert sa4 ea4
    generalize upd H4 a4 (.tup []) = H5
    intro sa4 ea4
    walk_at "r"
    refine ⟨by show 8 ≤ sizeLine; decide, fun a5 ha5 => ?_⟩
    have sa5 : Same H5 (upd H5 a5 (.lst [.str "", .str kk, .str (t ++ Str.ofString " "), .str "a b", .ref a1, .ref a2, .ref a3, .ref a4])) := Same.upd ha5
    have ea5 : upd H5 a5 (.lst [.str "", .str kk, .str (t ++ Str.ofString " "), .str "a b", .ref a1, .ref a2, .ref a3, .ref a4]) a5 = some (.lst [.str "", .str kk, .str (t ++ Str.ofString " "), .str "a b", .ref a1, .ref a2, .ref a3, .ref a4]) := upd_same
    revert sa5 ea5
    generalize upd H5 a5 (.lst [.str "", .str kk, .str (t ++ Str.ofString " "), .str "a b", .ref a1, .ref a2, .ref a3, .ref a4]) = H6
    intro sa5 ea5
    have sB := s1.trans (sa1.trans (sa2.trans (sa3.trans (sa4.trans sa5))))
    obtain ⟨tt, htt⟩ := hv.same sB
    by_cases c1 : v = .str "num"
    · subst c1
      walk_at "r"
      refine eqT_any htt ?_
      rw [decide_eq_true (Eq.refl _)]
      walk_at "r"
      refine ⟨_, rfl, flg, ?_⟩
      walk_at "r"
      refine ⟨by show 8 ≤ sizeLine; decide, fun b1 hb1 => ?_⟩
      have sb1 : Same H6 (upd H6 b1 (.lst [.int (-1 - far), .int (10 ^ Int.toNat 18 + far), .bl true, .bl false, .str (toString (far % 10 ^ Int.toNat 18)), .non, .int (-1), .int (10 ^ Int.toNat 18)])) := Same.upd hb1
      have eb1 : upd H6 b1 (.lst [.int (-1 - far), .int (10 ^ Int.toNat 18 + far), .bl true, .bl false, .str (toString (far % 10 ^ Int.toNat 18)), .non, .int (-1), .int (10 ^ Int.toNat 18)]) b1 = some (.lst [.int (-1 - far), .int (10 ^ Int.toNat 18 + far), .bl true, .bl false, .str (toString (far % 10 ^ Int.toNat 18)), .non, .int (-1), .int (10 ^ Int.toNat 18)]) := upd_same
      revert sb1 eb1
      generalize upd H6 b1 (.lst [.int (-1 - far), .int (10 ^ Int.toNat 18 + far), .bl true, .bl false, .str (toString (far % 10 ^ Int.toNat 18)), .non, .int (-1), .int (10 ^ Int.toNat 18)]) = H7
      intro sb1 eb1
      have sC := sB.trans sb1
      have htt7 := htt.same sb1
      walk_at "r"
      refine eqT_any htt7 ?_
      rw [v_dec, decide_eq_false (by decide +kernel)]
      walk_at "r"
      refine eqT_any htt7 ?_
      rw [v_dec, decide_eq_false (by decide +kernel)]
      walk_at "r"
      refine eqT_any htt7 ?_
      rw [v_dec, decide_eq_false (by decide +kernel)]
      walk_at "r"
      refine s_len_lst (SqL.of eb1) ?_
      refine s_rI (by show (0 : Int) < ((8 : Nat) : Int); decide) ?_
      obtain ⟨x, hx, m⟩ := atI_in (xs := ([.int (-1 - far), .int (10 ^ Int.toNat 18 + far), .bl true, .bl false, .str (toString (far % 10 ^ Int.toNat 18)), .non, .int (-1), .int (10 ^ Int.toNat 18)] : List V)) (i := c / 7 % ((8 : Nat) : Int)) (Int.emod_nonneg _ (by decide)) (Int.emod_lt_of_pos _ (by decide))
      refine s_ix_lst (SqL.of eb1) hx ?_
      walk_at "r"
      refine ⟨by show 2 ≤ sizeLine; decide, fun r hr2 => ?_⟩
      simp only [List.cons_append, List.nil_append, List.mem_cons, List.not_mem_nil, or_false] at m
      rcases m with rfl | rfl | rfl | rfl | rfl | rfl | rfl | rfl
      all_goals (refine fin H7 _ (.fl _) r sC hr2 (nt_fl ?_) ?_)
      all_goals (try (intro s hs hvs; cases hvs; rw [nb_num]))
      all_goals (first | exact ftx.2 | trivial | rfl | skip)
      · show (decide (0 ≤ -1 - far) && _) = false; rw [decide_eq_false (by omega)]; rfl
      · show (_ && decide ((10 : Int) ^ 18 + far < 10 ^ 18)) = false; rw [show decide ((10 : Int) ^ 18 + far < 10 ^ 18) = false from decide_eq_false (by omega), Bool.and_false]
    walk_at "r"
    refine eqT_any htt ?_
    rw [decide_eq_false c1]
    by_cases c2 : v = .str "odd"
    · subst c2
      walk_at "r"
      refine eqT_any htt ?_
      rw [decide_eq_true (Eq.refl _)]
      walk_at "r"
      refine ⟨_, rfl, flg, ?_⟩
      walk_at "r"
      refine ⟨_, _, rfl, rfl, ⟨by decide +kernel, fun _ _ => by decide +kernel, fun _ _ => by decide +kernel⟩, ?_⟩
      walk_at "r"
      refine ⟨by show 8 ≤ sizeLine; decide, fun b1 hb1 => ?_⟩
      have sb1 : Same H6 (upd H6 b1 (.lst [.str t, .str "", .str (toString (far % 10 ^ Int.toNat 18)), .str "?", .str "+", .str "-", .str "<", .str (PySem.Txt.mul "=" 61)])) := Same.upd hb1
      have eb1 : upd H6 b1 (.lst [.str t, .str "", .str (toString (far % 10 ^ Int.toNat 18)), .str "?", .str "+", .str "-", .str "<", .str (PySem.Txt.mul "=" 61)]) b1 = some (.lst [.str t, .str "", .str (toString (far % 10 ^ Int.toNat 18)), .str "?", .str "+", .str "-", .str "<", .str (PySem.Txt.mul "=" 61)]) := upd_same
      revert sb1 eb1
      generalize upd H6 b1 (.lst [.str t, .str "", .str (toString (far % 10 ^ Int.toNat 18)), .str "?", .str "+", .str "-", .str "<", .str (PySem.Txt.mul "=" 61)]) = H7
      intro sb1 eb1
      have sC := sB.trans sb1
      have htt7 := htt.same sb1
      walk_at "r"
      refine eqT_any htt7 ?_
      rw [v_dec, decide_eq_false (by decide +kernel)]
      walk_at "r"
      refine eqT_any htt7 ?_
      rw [v_dec, decide_eq_false (by decide +kernel)]
      walk_at "r"
      refine s_len_lst (SqL.of eb1) ?_
      refine s_rI (by show (0 : Int) < ((8 : Nat) : Int); decide) ?_
      obtain ⟨x, hx, m⟩ := atI_in (xs := ([.str t, .str "", .str (toString (far % 10 ^ Int.toNat 18)), .str "?", .str "+", .str "-", .str "<", .str (PySem.Txt.mul "=" 61)] : List V)) (i := c / 7 % ((8 : Nat) : Int)) (Int.emod_nonneg _ (by decide)) (Int.emod_lt_of_pos _ (by decide))
      refine s_ix_lst (SqL.of eb1) hx ?_
      walk_at "r"
      refine ⟨by show 2 ≤ sizeLine; decide, fun r hr2 => ?_⟩
      simp only [List.cons_append, List.nil_append, List.mem_cons, List.not_mem_nil, or_false] at m
      rcases m with rfl | rfl | rfl | rfl | rfl | rfl | rfl | rfl
      all_goals (refine fin H7 _ (.fl _) r sC hr2 (nt_fl ?_) ?_)
      all_goals (try (intro s hs hvs; cases hvs; rw [nb_odd]))
      all_goals (first | exact sml | exact ftx.2 | exact ftx.1 | exact eq61.2 | exact eq61.1 | exact odd_name hnt | (show _ ≤ 1000; decide +kernel) | decide +kernel)
    walk_at "r"
    refine eqT_any htt ?_
    rw [decide_eq_false c2]
    by_cases c3 : v = .str "truth"
    · subst c3
      walk_at "r"
      refine eqT_any htt ?_
      rw [decide_eq_true (Eq.refl _)]
      walk_at "r"
      refine ⟨by show 8 ≤ sizeLine; decide, fun b1 hb1 => ?_⟩
      have sb1 : Same H6 (upd H6 b1 (.lst [.int 0, .int 1, .non, .str "yes", .str "no", .str "True", .int far, .str t])) := Same.upd hb1
      have eb1 : upd H6 b1 (.lst [.int 0, .int 1, .non, .str "yes", .str "no", .str "True", .int far, .str t]) b1 = some (.lst [.int 0, .int 1, .non, .str "yes", .str "no", .str "True", .int far, .str t]) := upd_same
      revert sb1 eb1
      generalize upd H6 b1 (.lst [.int 0, .int 1, .non, .str "yes", .str "no", .str "True", .int far, .str t]) = H7
      intro sb1 eb1
      have sC := sB.trans sb1
      have htt7 := htt.same sb1
      walk_at "r"
      refine eqT_any htt7 ?_
      rw [v_dec, decide_eq_false (by decide +kernel)]
      walk_at "r"
      refine s_len_lst (SqL.of eb1) ?_
      refine s_rI (by show (0 : Int) < ((8 : Nat) : Int); decide) ?_
      obtain ⟨x, hx, m⟩ := atI_in (xs := ([.int 0, .int 1, .non, .str "yes", .str "no", .str "True", .int far, .str t] : List V)) (i := c / 7 % ((8 : Nat) : Int)) (Int.emod_nonneg _ (by decide)) (Int.emod_lt_of_pos _ (by decide))
      refine s_ix_lst (SqL.of eb1) hx ?_
      walk_at "r"
      refine ⟨by show 2 ≤ sizeLine; decide, fun r hr2 => ?_⟩
      simp only [List.cons_append, List.nil_append, List.mem_cons, List.not_mem_nil, or_false] at m
      rcases m with rfl | rfl | rfl | rfl | rfl | rfl | rfl | rfl
      all_goals (refine fin H7 _ (.fl _) r sC hr2 (nt_fl ?_) ?_)
      all_goals (try (intro s hs hvs; cases hvs; rw [nb_truth]))
      all_goals (first | exact sml | trivial | rfl | (show _ ≤ 1000; decide +kernel))
    walk_at "r"
    refine eqT_any htt ?_
    rw [decide_eq_false c3]
    by_cases c4 : v = .str "rec"
    · subst c4
      walk_at "r"
      refine eqT_any htt ?_
      rw [decide_eq_true (Eq.refl _)]
      walk_at "r"
      refine ⟨by show 2 ≤ sizeLine; decide, fun b1 hb1 => ?_⟩
      have sb1 : Same H6 (upd H6 b1 (.tup [.str t, .str kk])) := Same.upd hb1
      have eb1 : upd H6 b1 (.tup [.str t, .str kk]) b1 = some (.tup [.str t, .str kk]) := upd_same
      revert sb1 eb1
      generalize upd H6 b1 (.tup [.str t, .str kk]) = H7
      intro sb1 eb1
      walk_at "r"
      refine ⟨by show 2 ≤ sizeLine; decide, fun b2 hb2 => ?_⟩
      have sb2 : Same H7 (upd H7 b2 (.tup [.str kk, .str t])) := Same.upd hb2
      have eb2 : upd H7 b2 (.tup [.str kk, .str t]) b2 = some (.tup [.str kk, .str t]) := upd_same
      revert sb2 eb2
      generalize upd H7 b2 (.tup [.str kk, .str t]) = H8
      intro sb2 eb2
      walk_at "r"
      refine ⟨by show 2 ≤ sizeLine; decide, fun b3 hb3 => ?_⟩
      have sb3 : Same H8 (upd H8 b3 (.tup [.str "", .str t])) := Same.upd hb3
      have eb3 : upd H8 b3 (.tup [.str "", .str t]) b3 = some (.tup [.str "", .str t]) := upd_same
      revert sb3 eb3
      generalize upd H8 b3 (.tup [.str "", .str t]) = H9
      intro sb3 eb3
      walk_at "r"
      refine ⟨by show 2 ≤ sizeLine; decide, fun b4 hb4 => ?_⟩
      have sb4 : Same H9 (upd H9 b4 (.tup [.str t, .str ""])) := Same.upd hb4
      have eb4 : upd H9 b4 (.tup [.str t, .str ""]) b4 = some (.tup [.str t, .str ""]) := upd_same
      revert sb4 eb4
      generalize upd H9 b4 (.tup [.str t, .str ""]) = H10
      intro sb4 eb4
      walk_at "r"
      refine ⟨by show 2 ≤ sizeLine; decide, fun b5 hb5 => ?_⟩
      have sb5 : Same H10 (upd H10 b5 (.lst [.str t, .str t])) := Same.upd hb5
      have eb5 : upd H10 b5 (.lst [.str t, .str t]) b5 = some (.lst [.str t, .str t]) := upd_same
      revert sb5 eb5
      generalize upd H10 b5 (.lst [.str t, .str t]) = H11
      intro sb5 eb5
      walk_at "r"
      refine ⟨by show 2 ≤ sizeLine; decide, fun b6 hb6 => ?_⟩
      have sb6 : Same H11 (upd H11 b6 (.tup [.str t, .int 1])) := Same.upd hb6
      have eb6 : upd H11 b6 (.tup [.str t, .int 1]) b6 = some (.tup [.str t, .int 1]) := upd_same
      revert sb6 eb6
      generalize upd H11 b6 (.tup [.str t, .int 1]) = H12
      intro sb6 eb6
      walk_at "r"
      refine ⟨by show 2 ≤ sizeLine; decide, fun b7 hb7 => ?_⟩
      have sb7 : Same H12 (upd H12 b7 (.tup [.non, .str t])) := Same.upd hb7
      have eb7 : upd H12 b7 (.tup [.non, .str t]) b7 = some (.tup [.non, .str t]) := upd_same
      revert sb7 eb7
      generalize upd H12 b7 (.tup [.non, .str t]) = H13
      intro sb7 eb7
      walk_at "r"
      refine ⟨by show 1 ≤ sizeLine; decide, fun b8 hb8 => ?_⟩
      have sb8 : Same H13 (upd H13 b8 (.tup [.str t])) := Same.upd hb8
      have eb8 : upd H13 b8 (.tup [.str t]) b8 = some (.tup [.str t]) := upd_same
      revert sb8 eb8
      generalize upd H13 b8 (.tup [.str t]) = H14
      intro sb8 eb8
      walk_at "r"
      refine ⟨by show 8 ≤ sizeLine; decide, fun b9 hb9 => ?_⟩
      have sb9 : Same H14 (upd H14 b9 (.lst [.ref b1, .ref b2, .ref b3, .ref b4, .ref b5, .ref b6, .ref b7, .ref b8])) := Same.upd hb9
      have eb9 : upd H14 b9 (.lst [.ref b1, .ref b2, .ref b3, .ref b4, .ref b5, .ref b6, .ref b7, .ref b8]) b9 = some (.lst [.ref b1, .ref b2, .ref b3, .ref b4, .ref b5, .ref b6, .ref b7, .ref b8]) := upd_same
      revert sb9 eb9
      generalize upd H14 b9 (.lst [.ref b1, .ref b2, .ref b3, .ref b4, .ref b5, .ref b6, .ref b7, .ref b8]) = H15
      intro sb9 eb9
      walk_at "r"
      refine ⟨by show 2 ≤ sizeLine; decide, fun b10 hb10 => ?_⟩
      have sb10 : Same H15 (upd H15 b10 (.tup [.str t, .str "ninesigns"])) := Same.upd hb10
      have eb10 : upd H15 b10 (.tup [.str t, .str "ninesigns"]) b10 = some (.tup [.str t, .str "ninesigns"]) := upd_same
      revert sb10 eb10
      generalize upd H15 b10 (.tup [.str t, .str "ninesigns"]) = H16
      intro sb10 eb10
      walk_at "r"
      refine ⟨by show 3 ≤ sizeLine; decide, fun b11 hb11 => ?_⟩
      have sb11 : Same H16 (upd H16 b11 (.tup [.str t, .str t, .str t])) := Same.upd hb11
      have eb11 : upd H16 b11 (.tup [.str t, .str t, .str t]) b11 = some (.tup [.str t, .str t, .str t]) := upd_same
      revert sb11 eb11
      generalize upd H16 b11 (.tup [.str t, .str t, .str t]) = H17
      intro sb11 eb11
      walk_at "r"
      refine s_add_str (by omega) ?_
      walk_at "r"
      refine ⟨by show 2 ≤ sizeLine; decide, fun b12 hb12 => ?_⟩
      have sb12 : Same H17 (upd H17 b12 (.tup [.str (t ++ Str.ofString "("), .str t])) := Same.upd hb12
      have eb12 : upd H17 b12 (.tup [.str (t ++ Str.ofString "("), .str t]) b12 = some (.tup [.str (t ++ Str.ofString "("), .str t]) := upd_same
      revert sb12 eb12
      generalize upd H17 b12 (.tup [.str (t ++ Str.ofString "("), .str t]) = H18
      intro sb12 eb12
      walk_at "r"
      refine ⟨by show 2 ≤ sizeLine; decide, fun b13 hb13 => ?_⟩
      have sb13 : Same H18 (upd H18 b13 (.tup [.str t, .str "="])) := Same.upd hb13
      have eb13 : upd H18 b13 (.tup [.str t, .str "="]) b13 = some (.tup [.str t, .str "="]) := upd_same
      revert sb13 eb13
      generalize upd H18 b13 (.tup [.str t, .str "="]) = H19
      intro sb13 eb13
      walk_at "r"
      refine ⟨by show 0 ≤ sizeLine; decide, fun b14 hb14 => ?_⟩
      have sb14 : Same H19 (upd H19 b14 (.tup [])) := Same.upd hb14
      have eb14 : upd H19 b14 (.tup []) b14 = some (.tup []) := upd_same
      revert sb14 eb14
      generalize upd H19 b14 (.tup []) = H20
      intro sb14 eb14
      walk_at "r"
      refine ⟨by show 6 ≤ sizeLine; decide, fun b15 hb15 => ?_⟩
      have sb15 : Same H20 (upd H20 b15 (.lst [.ref b10, .ref b11, .str t, .ref b12, .ref b13, .ref b14])) := Same.upd hb15
      have eb15 : upd H20 b15 (.lst [.ref b10, .ref b11, .str t, .ref b12, .ref b13, .ref b14]) b15 = some (.lst [.ref b10, .ref b11, .str t, .ref b12, .ref b13, .ref b14]) := upd_same
      revert sb15 eb15
      generalize upd H20 b15 (.lst [.ref b10, .ref b11, .str t, .ref b12, .ref b13, .ref b14]) = H21
      intro sb15 eb15
      refine s_add_lst ((sb10.trans (sb11.trans (sb12.trans (sb13.trans (sb14.trans (sb15.trans (Same.refl H21))))))) _ _ eb9) eb15 (by show 14 ≤ sizeLine; decide) fun b16 hb16 => ?_
      have sb16 : Same H21 (upd H21 b16 (.lst ([.ref b1, .ref b2, .ref b3, .ref b4, .ref b5, .ref b6, .ref b7, .ref b8] ++ [.ref b10, .ref b11, .str t, .ref b12, .ref b13, .ref b14]))) := Same.upd hb16
      have eb16 : upd H21 b16 (.lst ([.ref b1, .ref b2, .ref b3, .ref b4, .ref b5, .ref b6, .ref b7, .ref b8] ++ [.ref b10, .ref b11, .str t, .ref b12, .ref b13, .ref b14])) b16 = some (.lst ([.ref b1, .ref b2, .ref b3, .ref b4, .ref b5, .ref b6, .ref b7, .ref b8] ++ [.ref b10, .ref b11, .str t, .ref b12, .ref b13, .ref b14])) := upd_same
      revert sb16 eb16
      generalize upd H21 b16 (.lst ([.ref b1, .ref b2, .ref b3, .ref b4, .ref b5, .ref b6, .ref b7, .ref b8] ++ [.ref b10, .ref b11, .str t, .ref b12, .ref b13, .ref b14])) = HZ
      intro sb16 eb16
      have gb1 := ((sb2.trans (sb3.trans (sb4.trans (sb5.trans (sb6.trans (sb7.trans (sb8.trans (sb9.trans (sb10.trans (sb11.trans (sb12.trans (sb13.trans (sb14.trans (sb15.trans (Same.refl H21))))))))))))))).trans sb16) _ _ eb1
      have gb2 := ((sb3.trans (sb4.trans (sb5.trans (sb6.trans (sb7.trans (sb8.trans (sb9.trans (sb10.trans (sb11.trans (sb12.trans (sb13.trans (sb14.trans (sb15.trans (Same.refl H21)))))))))))))).trans sb16) _ _ eb2
      have gb3 := ((sb4.trans (sb5.trans (sb6.trans (sb7.trans (sb8.trans (sb9.trans (sb10.trans (sb11.trans (sb12.trans (sb13.trans (sb14.trans (sb15.trans (Same.refl H21))))))))))))).trans sb16) _ _ eb3
      have gb4 := ((sb5.trans (sb6.trans (sb7.trans (sb8.trans (sb9.trans (sb10.trans (sb11.trans (sb12.trans (sb13.trans (sb14.trans (sb15.trans (Same.refl H21)))))))))))).trans sb16) _ _ eb4
      have gb5 := ((sb6.trans (sb7.trans (sb8.trans (sb9.trans (sb10.trans (sb11.trans (sb12.trans (sb13.trans (sb14.trans (sb15.trans (Same.refl H21))))))))))).trans sb16) _ _ eb5
      have gb6 := ((sb7.trans (sb8.trans (sb9.trans (sb10.trans (sb11.trans (sb12.trans (sb13.trans (sb14.trans (sb15.trans (Same.refl H21)))))))))).trans sb16) _ _ eb6
      have gb7 := ((sb8.trans (sb9.trans (sb10.trans (sb11.trans (sb12.trans (sb13.trans (sb14.trans (sb15.trans (Same.refl H21))))))))).trans sb16) _ _ eb7
      have gb8 := ((sb9.trans (sb10.trans (sb11.trans (sb12.trans (sb13.trans (sb14.trans (sb15.trans (Same.refl H21)))))))).trans sb16) _ _ eb8
      have gb10 := ((sb11.trans (sb12.trans (sb13.trans (sb14.trans (sb15.trans (Same.refl H21)))))).trans sb16) _ _ eb10
      have gb11 := ((sb12.trans (sb13.trans (sb14.trans (sb15.trans (Same.refl H21))))).trans sb16) _ _ eb11
      have gb12 := ((sb13.trans (sb14.trans (sb15.trans (Same.refl H21)))).trans sb16) _ _ eb12
      have gb13 := ((sb14.trans (sb15.trans (Same.refl H21))).trans sb16) _ _ eb13
      have gb14 := ((sb15.trans (Same.refl H21)).trans sb16) _ _ eb14
      have sC := sB.trans (sb1.trans ((sb2.trans (sb3.trans (sb4.trans (sb5.trans (sb6.trans (sb7.trans (sb8.trans (sb9.trans (sb10.trans (sb11.trans (sb12.trans (sb13.trans (sb14.trans (sb15.trans (Same.refl H21))))))))))))))).trans sb16))
      walk_at "r"
      refine s_len_lst (SqL.of eb16) ?_
      refine s_rI (by show (0 : Int) < ((14 : Nat) : Int); decide) ?_
      obtain ⟨x, hx, m⟩ := atI_in (xs := ([.ref b1, .ref b2, .ref b3, .ref b4, .ref b5, .ref b6, .ref b7, .ref b8] ++ [.ref b10, .ref b11, .str t, .ref b12, .ref b13, .ref b14] : List V)) (i := c / 7 % ((14 : Nat) : Int)) (Int.emod_nonneg _ (by decide)) (Int.emod_lt_of_pos _ (by decide))
      refine s_ix_lst (SqL.of eb16) hx ?_
      walk_at "r"
      refine ⟨by show 2 ≤ sizeLine; decide, fun r hr2 => ?_⟩
      simp only [List.cons_append, List.nil_append, List.mem_cons, List.not_mem_nil, or_false] at m
      rcases m with rfl | rfl | rfl | rfl | rfl | rfl | rfl | rfl | rfl | rfl | rfl | rfl | rfl | rfl
      · exact fin HZ _ _ r sC hr2 (nt_tp gb1 (two sml smk)) (fun s hs hvs => by cases hvs; rw [nb_rec]; show (nameB t && nameB kk) = false; rw [hkk, Bool.and_false])
      · exact fin HZ _ _ r sC hr2 (nt_tp gb2 (two smk sml)) (fun s hs hvs => by cases hvs; rw [nb_rec]; show (nameB kk && nameB t) = false; rw [hkk, Bool.false_and])
      · exact fin HZ _ _ r sC hr2 (nt_tp gb3 (two (sx "" (by decide +kernel)) sml)) (fun s hs hvs => by cases hvs; rw [nb_rec]; show (nameB "" && nameB t) = false; rw [show nameB "" = false by decide +kernel, Bool.false_and])
      · exact fin HZ _ _ r sC hr2 (nt_tp gb4 (two sml (sx "" (by decide +kernel)))) (fun s hs hvs => by cases hvs; rw [nb_rec]; show (nameB t && nameB "") = false; rw [show nameB "" = false by decide +kernel, Bool.and_false])
      · exact fin HZ _ _ r sC hr2 (nt_ls gb5) (fun s hs hvs => by cases hvs; rw [nb_rec]; rfl)
      · exact fin HZ _ _ r sC hr2 (nt_tp gb6 (two sml (show SmallV (.int 1) from trivial))) (fun s hs hvs => by cases hvs; rw [nb_rec]; show (nameB t && false) = false; rw [Bool.and_false])
      · exact fin HZ _ _ r sC hr2 (nt_tp gb7 (two (show SmallV .non from trivial) sml)) (fun s hs hvs => by cases hvs; rw [nb_rec]; rfl)
      · exact fin HZ _ _ r sC hr2 (nt_tp gb8 (fun x hx => by rw [List.mem_singleton.mp hx]; exact sml)) (fun s hs hvs => by cases hvs; rw [nb_rec]; rfl)
      · exact fin HZ _ _ r sC hr2 (nt_tp gb10 (two sml (sx "ninesigns" (by decide +kernel)))) (fun s hs hvs => by cases hvs; rw [nb_rec]; show (nameB t && nameB "ninesigns") = false; rw [show nameB "ninesigns" = false by decide +kernel, Bool.and_false])
      · exact fin HZ _ _ r sC hr2 (nt_tp gb11 (fun x hx => by simp only [List.mem_cons, List.not_mem_nil, or_false] at hx; rcases hx with rfl | rfl | rfl <;> exact sml)) (fun s hs hvs => by cases hvs; rw [nb_rec]; rfl)
      · exact fin HZ _ _ r sC hr2 (nt_fl sml) (fun s hs hvs => by cases hvs; rw [nb_rec]; rfl)
      · exact fin HZ _ _ r sC hr2 (nt_tp gb12 (two (show (t ++ Str.ofString "(").length ≤ 1000 by rw [catlen, l2]; omega) sml)) (fun s hs hvs => by cases hvs; rw [nb_rec]; show (nameB (t ++ Str.ofString "(") && nameB t) = false; rw [name_bad (d := 40) (by decide +kernel) (by decide +kernel), Bool.false_and])
      · exact fin HZ _ _ r sC hr2 (nt_tp gb13 (two sml (sx "=" (by decide +kernel)))) (fun s hs hvs => by cases hvs; rw [nb_rec]; show (nameB t && nameB "=") = false; rw [show nameB "=" = false by decide +kernel, Bool.and_false])
      · exact fin HZ _ _ r sC hr2 (nt_tp gb14 (fun x hx => nomatch hx)) (fun s hs hvs => by cases hvs; rw [nb_rec]; rfl)
    walk_at "r"
    refine eqT_any htt ?_
    rw [decide_eq_false c4]
    have oth : ∀ nt, nameN nt = false → nonN nt = false → ∀ s ∈ W13, v = .str s → noteB s nt = false := fun nt a b s _ hvs => by
      subst hvs
      exact nb_oth (fun z => c2 (by rw [z])) (fun z => c1 (by rw [z])) (fun z => c3 (by rw [z])) (fun z => c4 (by rw [z])) a b
    walk_at "r"
    refine s_len_lst (SqL.of ea5) ?_
    refine s_rI (by show (0 : Int) < ((8 : Nat) : Int); decide) ?_
    obtain ⟨x, hx, m⟩ := atI_in (xs := ([.str "", .str kk, .str (t ++ Str.ofString " "), .str "a b", .ref a1, .ref a2, .ref a3, .ref a4] : List V)) (i := c / 7 % ((8 : Nat) : Int)) (Int.emod_nonneg _ (by decide)) (Int.emod_lt_of_pos _ (by decide))
    refine s_ix_lst (SqL.of ea5) hx ?_
    walk_at "r"
    refine ⟨by show 2 ≤ sizeLine; decide, fun r hr2 => ?_⟩
    simp only [List.cons_append, List.nil_append, List.mem_cons, List.not_mem_nil, or_false] at m
    rcases m with rfl | rfl | rfl | rfl | rfl | rfl | rfl | rfl
    · exact fin H6 _ _ r sB hr2 (nt_fl (sx _ (by decide +kernel))) (oth _ (by decide +kernel) rfl)
    · exact fin H6 _ _ r sB hr2 (nt_fl smk) (oth _ hkk rfl)
    · exact fin H6 _ _ r sB hr2 (nt_fl (show (t ++ Str.ofString " ").length ≤ 1000 by rw [catlen, l1]; omega)) (oth _ (name_bad (d := 32) (by decide +kernel) (by decide +kernel)) rfl)
    · exact fin H6 _ _ r sB hr2 (nt_fl (sx _ (by decide +kernel))) (oth _ (by decide +kernel) rfl)
    · exact fin H6 _ _ r sB hr2 (nt_tp ((sa2.trans (sa3.trans (sa4.trans sa5))) _ _ ea1) (fun x hx => by rw [List.mem_singleton.mp hx]; exact sml)) (oth _ rfl rfl)
    · exact fin H6 _ _ r sB hr2 (nt_tp ((sa3.trans (sa4.trans sa5)) _ _ ea2) (fun x hx => by simp only [List.mem_cons, List.not_mem_nil, or_false] at hx; rcases hx with rfl | rfl | rfl <;> exact sml)) (oth _ rfl rfl)
    · exact fin H6 _ _ r sB hr2 (nt_ls ((sa4.trans sa5) _ _ ea3)) (oth _ rfl rfl)
    · exact fin H6 _ _ r sB hr2 (nt_tp (sa5 _ _ ea4) (fun x hx => nomatch hx)) (oth _ rfl rfl)
end
end K12

set_option Elab.async false
set_option linter.all false
set_option maxRecDepth 100000
set_option maxHeartbeats 4000000
namespace K12
open PySem L2 K10
section
variable {P : Program} {w : World} {K : PySem.W.Frag} {mg : Str → Option Value} {base : Heap}
theorem FitAt.mono {H : Hp} {q : Addr} {P P' : Str → Prop} (h : FitAt K H q P) (f : ∀ s, P' s → P s) : FitAt K H q P' := by
  obtain ⟨nv, nt, fs, ws, h1, h2, h3, h4⟩ := h
  exact ⟨nv, nt, fs, ws, h1, h2, h3, fun s hs hp => h4 s hs (f s hp)⟩
def sp_lnote (K : PySem.W.Frag) : Sp := fun vs H Q _ => ∃ (v : V) (c : Int) (p : Addr) (t0 t1 t2 : Str), vs = [v, .int c, .ref p] ∧ Has K H v ∧ SqL K H p [.str t0, .str t1, .str t2] ∧ nameB t0 = true ∧ nameB t1 = true ∧ nameB t2 = true ∧ ∀ (q : Addr) (H' : Hp), Same H H' → FitAt K H' q (fun s => v = .str s) → Q (.ref q) H'
theorem viaV {t : TE} {σ : St} {H : Hp} {Q : VK} (R : V → Hp → Prop) (h2 : ∀ x H', R x H' → Q x H') (h1 : ∀ Q' : VK, (∀ x H', R x H' → Q' x H') → t σ H Q') : t σ H Q := h1 Q h2
theorem w13_in (z : Str) (h : inV (.str z) (W13.map V.str) = true) : z ∈ W13 := by
  rw [in_strs] at h
  exact isIn_mem h
theorem sc_law_note : FnScope ["_law_word_here", "_law_cell_here", "_law_names_here", "_law_heads", "_law_known"] ["_law_word_here", "_law_cell_here", "_law_names_here"] (defScope s_law_note) := ⟨rfl, rfl, rfl, by decide +kernel, rfl, by decide +kernel, by decide +kernel⟩
theorem ok_lnote {f : Addr} {fd : FuncData} (F : Fun K "_law_note" "_law_note" s_law_note f fd) (T : Txt K mg) (C__law_words : Callee P w K mg base 1 "_law_words" [] sp_words) (C__law_right : Callee P w K mg base 2 "_law_right" ["_law_word_here", "_law_cell_here", "_law_names_here"] (sp_right K)) (C__law_wrong : Callee P w K mg base 1 "_law_wrong" ["_law_word_here", "_law_cell_here", "_law_names_here"] (sp_wrong K)) : FnOk P w K mg base CX0 3 f fd ["_law_word_here", "_law_cell_here", "_law_names_here"] (sp_lnote K) := by
  refine F.okq sc_law_note (fun vs H Q E h => ?_) (fun cdv A outer s H vs Q E hr h => ?_)
  · obtain ⟨v, c, p, t0, t1, t2, rfl, _⟩ := h
    rfl
  · obtain ⟨v, c, p, t0, t1, t2, rfl, hv, hp, n0, n1, n2, q⟩ := h
    refine ⟨_, qss_cons (qs_set (i := 3) sc_law_note.nd rfl (Or.inl rfl) (qe_fn0 C__law_words (hr.mono (by decide))))
      (qss_cons (qs_set (i := 4) sc_law_note.nd rfl (Or.inl rfl) (qe_and (qe_callB (k_isi K "str") (by rfl) T.isinstance (by decide +kernel) (qa_cons (qv 0) (qa_cons (qe_bltn (v := .ty "str") (by rfl) T.str (by decide +kernel) rfl) qa_nil))) (qe_one (qe_cmpR (k_in K) (qv 0) (qv 3) (by rfl)))))
      (qss_cons (qs_if (QW.qt (qw_and (qt_cmpR (k_eq K hr.u200) (qe_op op_mod (qv 1) (qe_int)) (qe_int) (nomark _)) (qw_and1 (qt_truthK K (qv 4) (by intro _; rfl))))) (qss_one (qs_ret (qe_fn C__law_right (hr.mono (by decide)) (qa_cons (qv 0) (qa_cons (qe_op op_fdiv (qv 1) (qe_int)) (qa_cons (qv 2) qa_nil)))))) (qss_nil))
      (qss_cons (qs_if (qt_cmpR (k_eq K hr.u200) (qe_op op_mod (qv 1) (qe_int)) (qe_int) (nomark _)) (qss_one (qs_ret (qe_fn C__law_right (hr.mono (by decide)) (qa_cons (qe_ix (k_ix K) (qv 3) (qe_op op_mod (qe_op op_fdiv (qv 1) (qe_int)) (qe_int)) (fun _ _ => rfl)) (qa_cons (qe_op op_fdiv (qv 1) (qe_int)) (qa_cons (qv 2) qa_nil)))))) (qss_nil))
      (qss_cons (qs_if (qt_cmpR (k_eq K hr.u200) (qe_op op_mod (qv 1) (qe_int)) (qe_int) (nomark _)) (qss_one (qs_ret (qe_ix (k_ix K) (qe_lst (qa_cons (qe_lst (qa_cons (qe_str) (qa_cons (qe_str) qa_nil))) (qa_cons (qe_lst (qa_cons (qe_op op_mod (qe_op op_fdiv (qv 1) (qe_int)) (qe_int)) (qa_cons (qe_str) qa_nil))) qa_nil))) (qe_op op_mod (qe_op op_fdiv (qv 1) (qe_int)) (qe_int)) (fun _ _ => rfl)))) (qss_nil))
      (qss_one (qs_ret (qe_fn C__law_wrong (hr.mono (by decide)) (qa_cons (qv 0) (qa_cons (qe_op op_fdiv (qv 1) (qe_int)) (qa_cons (qv 2) qa_nil)))))))))), ?_⟩
    have bg := big
    walk_at "r"
    refine ⟨rfl, fun ph H1 s1 hph eph => ?_⟩
    obtain ⟨t, ht⟩ := id hv
    refine s_gname ?_
    with_reducible refine s_seq ?_
    with_reducible refine s_asg ?_
    refine viaV (t := tAndV _ _) (R := fun x H' => ∃ b : Bool, x = .bl b ∧ H' = H1 ∧ (b = true → ∃ s : Str, v = .str s ∧ s ∈ W13)) ?_ (fun Q' hQ => ?_)
    rotate_left
    · walk_at "r"
      refine s_isiN (ht.same s1) (by simp) ?_
      walk_at "r"
      cases h1 : kitT t "str" with
      | false =>
        walk_at "r"
        exact hQ _ _ ⟨false, rfl, rfl, fun h => nomatch h⟩
      | true =>
        obtain ⟨z, rfl, hz⟩ : ∃ z, v = .str z ∧ z.length ≤ 1000 := by
          cases ht <;> first | exact ⟨_, rfl, by assumption⟩ | (cases h1)
        walk_at "r"
        refine s_in_seq (.inl (SqL.of eph)) rfl flat_strs ?_
        exact hQ _ _ ⟨inV (.str z) (W13.map V.str), rfl, rfl, fun h => ⟨z, rfl, w13_in z h⟩⟩
    rintro x H' ⟨b, rfl, rfl, hb⟩
    have hp1 := s1.seq hp
    refine s_gname ?_
    with_reducible refine s_seq ?_
    show tIfS _ _ _ _ _ _
    refine via (t := tIfS _ _ _) (R := fun H2 => H2 = H') ?_ (fun Y hY => ?_)
    rotate_left
    · walk_at "r"
      refine ite2 (fun _ => ?_) (fun _ => ?_)
      · walk_at "r"
        refine ⟨b, rfl, ?_⟩
        cases b with
        | true =>
          obtain ⟨s0, rfl, hs0⟩ := hb rfl
          walk_at "r"
          exact ⟨s0, _, p, t0, t1, t2, rfl, hp1, n0, n1, n2, fun qa H2 s2 hf => q qa H2 (s1.trans s2) (hf.mono fun _ _ => trivial)⟩
        | false =>
          walk_at "r"
          exact hY _ rfl
      · walk_at "r"
        exact hY _ rfl
    rintro _ rfl
    walk_at "r"
    refine ite2 (fun _ => ?_) (fun _ => ?_)
    · walk_at "r"
      obtain ⟨s0, hs0, _, _⟩ := pick13 (c / 8 % 13) (Int.emod_nonneg _ (by decide)) (Int.emod_lt_of_pos _ (by decide))
      refine s_ix_lst (SqL.of eph) hs0 ?_
      walk_at "r"
      exact ⟨s0, _, p, t0, t1, t2, rfl, hp1, n0, n1, n2, fun qa H2 s2 hf => q qa H2 (s1.trans s2) (hf.mono fun _ _ => trivial)⟩
    walk_at "r"
    refine ite2 (fun _ => ?_) (fun _ => ?_)
    · walk_at "r"
      refine ⟨by show 2 ≤ sizeLine; decide, fun p1 h1 => ?_⟩
      have u1 := Same.upd (o := .lst [.str "ninesigns", .str "odd"]) h1
      walk_at "r"
      refine ⟨by show 2 ≤ sizeLine; decide, fun p2 h2 => ?_⟩
      have u2 := Same.upd (o := .lst [.int (c / 16 % 2), .str "num"]) h2
      walk_at "r"
      refine ⟨by show 2 ≤ sizeLine; decide, fun p3 h3 => ?_⟩
      have u3 := Same.upd (o := .lst [.ref p1, .ref p2]) h3
      walk_at "r"
      obtain ⟨x, hx, m⟩ := atI_in (xs := ([.ref p1, .ref p2] : List V)) (i := c / 8 % 2) (Int.emod_nonneg _ (by decide)) (Int.emod_lt_of_pos _ (by decide))
      refine s_ix_lst (SqL.of upd_same) hx ?_
      have sm := s1.trans (u1.trans (u2.trans u3))
      have z0 : (0 : Int) ≤ c / 16 % 2 := Int.emod_nonneg _ (by decide)
      have z1 : c / 16 % 2 < 2 := Int.emod_lt_of_pos _ (by decide)
      simp only [List.mem_cons, List.not_mem_nil, or_false] at m
      rcases m with rfl | rfl
      · exact q p1 _ sm ⟨_, .fl (.str "ninesigns"), "odd", ["odd"], (u2.trans u3) _ _ upd_same, nt_fl (show ("ninesigns" : Str).length ≤ 1000 by decide +kernel), sp_odd1, fun s hs _ => fit_mk true false false false false false (by decide +kernel) rfl rfl (by decide +kernel) rfl rfl (by decide +kernel) s hs⟩
      · exact q p2 _ sm ⟨_, .fl (.int (c / 16 % 2)), "num", ["num"], u3 _ _ upd_same, nt_fl (v := .int _) trivial, sp_num1, fun s hs _ => fit_mk false true false false false false rfl (by show (decide (0 ≤ c / 16 % 2) && decide (c / 16 % 2 < 10 ^ 18)) = true; rw [decide_eq_true z0, decide_eq_true (by omega)]; rfl) rfl rfl rfl rfl (by decide +kernel) s hs⟩
    walk_at "r"
    exact ⟨v, _, p, t0, t1, t2, rfl, hv.same s1, hp1, n0, n1, n2, fun qa H2 s2 hf => q qa H2 (s1.trans s2) hf⟩
end
end K12

set_option Elab.async false
set_option linter.all false
set_option maxRecDepth 100000
set_option maxHeartbeats 4000000
namespace K12
open PySem L2 K10
section
variable {P : Program} {w : World} {K : PySem.W.Frag} {mg : Str → Option Value} {base : Heap}
def M13 : List V := [.int 0, .int 0, .int 0, .int 0, .int 0, .int 2, .int 2, .int 2, .int 2, .int 3, .int 1, .int 1, .int 2]
theorem idx13 {s : Str} (h : s ∈ W13) : ∃ j n : Nat, W13[j]? = some s ∧ (∀ m < j, W13[m]? ≠ some s) ∧ M13[j]? = some (.int (n : Nat)) ∧ partsOf s = some n := by
  unfold W13 at h
  simp only [List.mem_cons, List.not_mem_nil, or_false] at h
  rcases h with rfl | rfl | rfl | rfl | rfl | rfl | rfl | rfl | rfl | rfl | rfl | rfl | rfl
  · exact ⟨0, 0, rfl, by decide +kernel, rfl, by decide +kernel⟩
  · exact ⟨1, 0, rfl, by decide +kernel, rfl, by decide +kernel⟩
  · exact ⟨2, 0, rfl, by decide +kernel, rfl, by decide +kernel⟩
  · exact ⟨3, 0, rfl, by decide +kernel, rfl, by decide +kernel⟩
  · exact ⟨4, 0, rfl, by decide +kernel, rfl, by decide +kernel⟩
  · exact ⟨5, 2, rfl, by decide +kernel, rfl, by decide +kernel⟩
  · exact ⟨6, 2, rfl, by decide +kernel, rfl, by decide +kernel⟩
  · exact ⟨7, 2, rfl, by decide +kernel, rfl, by decide +kernel⟩
  · exact ⟨8, 2, rfl, by decide +kernel, rfl, by decide +kernel⟩
  · exact ⟨9, 3, rfl, by decide +kernel, rfl, by decide +kernel⟩
  · exact ⟨10, 1, rfl, by decide +kernel, rfl, by decide +kernel⟩
  · exact ⟨11, 1, rfl, by decide +kernel, rfl, by decide +kernel⟩
  · exact ⟨12, 2, rfl, by decide +kernel, rfl, by decide +kernel⟩
theorem parts_none {s : Str} (h : ¬ s ∈ W13) : partsOf s = none := by
  unfold partsOf
  have gen : ∀ ps : List (Str × Nat), ¬ s ∈ ps.map (·.1) → ps.lookup s = none := by
    intro ps
    induction ps with
    | nil => intro _; rfl
    | cons p r ih =>
      intro hn
      rw [List.map_cons, List.mem_cons, not_or] at hn
      rw [List.lookup_cons]
      have : (s == p.1) = false := by simpa using hn.1
      rw [this]
      exact ih hn.2
  exact gen PN h
def sp_round (K : PySem.W.Frag) : Sp := fun vs H Q _ => ∃ (c d : Int) (p : Addr) (t0 t1 t2 : Str), vs = [.int c, .int d, .ref p] ∧ SqL K H p [.str t0, .str t1, .str t2] ∧ nameB t0 = true ∧ nameB t1 = true ∧ nameB t2 = true ∧ ∀ H', Same H H' → Q (.bl true) H'
def GpAt (K : PySem.W.Frag) (H : Hp) (g : V) : Prop := ∃ a e, g = .ref a ∧ SqT K H a [.str "gap", .non, .ref e] ∧ SqT K H e []
theorem GpAt.same {H H' : Hp} {g : V} (h : GpAt K H g) (e : SameT H H') : GpAt K H' g := by
  obtain ⟨a, b, h1, h2, h3⟩ := h
  exact ⟨a, b, h1, e.tup h2, e.tup h3⟩
theorem nd_law_round_1 : (["_law_k"] : List Str).Nodup := by decide +kernel
theorem sc_law_round : FnScope ["_law_one", "_law_other", "_law_names_here", "_law_word_here", "_law_note_here", "_law_fits", "_law_many", "_law_due"] ["_law_one", "_law_other", "_law_names_here"] (defScope s_law_round) := ⟨rfl, rfl, rfl, by decide +kernel, rfl, by decide +kernel, by decide +kernel⟩
theorem ok_round {f : Addr} {fd : FuncData} (F : Fun K "_law_round" "_law_round" s_law_round f fd) (T : Txt K mg) (C__law_word : Callee P w K mg base 2 "_law_word" ["_law_cell_here"] (sp_lword K)) (C__law_note : Callee P w K mg base 3 "_law_note" ["_law_word_here", "_law_cell_here", "_law_names_here"] (sp_lnote K)) (C__law_words : Callee P w K mg base 1 "_law_words" [] sp_words) (C__law_counted : Callee P w K mg base 3 "_law_counted" ["_law_word_here", "_law_many"] (sp_counted K)) (C__law_made : Callee P w K mg base 5 "_law_made" ["_law_word_here", "_law_note_here", "_law_due"] (sp_made K)) : FnOk P w K mg base CX0 6 f fd ["_law_one", "_law_other", "_law_names_here"] (sp_round K) := by
  refine F.okq sc_law_round (fun vs H Q E h => ?_) (fun cdv A outer s H vs Q E hr h => ?_)
  · obtain ⟨c, d, p, t0, t1, t2, rfl, _⟩ := h
    rfl
  · obtain ⟨c, d, p, t0, t1, t2, rfl, hp, n0, n1, n2, q⟩ := h
    refine ⟨_, qss_cons (qs_set (i := 3) sc_law_round.nd rfl (Or.inl rfl) (qe_fn C__law_word (hr.mono (by decide)) (qa_cons (qv 0) qa_nil)))
      (qss_cons (qs_asg (qe_fn C__law_note (hr.mono (by decide)) (qa_cons (qv 3) (qa_cons (qv 1) (qa_cons (qv 2) qa_nil)))) (qg_tupLK K (n := 2) rfl (qgs_cons (qg_name (i := 4) sc_law_round.nd rfl (Or.inl rfl)) (qgs_cons (qg_name (i := 5) sc_law_round.nd rfl (Or.inl rfl)) (qgs_nil)))))
      (qss_cons (qs_set (i := 6) sc_law_round.nd rfl (Or.inl rfl) (qe_non))
      (qss_cons (qs_set (i := 7) sc_law_round.nd rfl (Or.inl rfl) (qe_non))
      (qss_cons (qs_if (QW.qt (qw_and (qt_val (qe_callB (k_isi K "str") (by rfl) T.isinstance (by decide +kernel) (qa_cons (qv 3) (qa_cons (qe_bltn (v := .ty "str") (by rfl) T.str (by decide +kernel) rfl) qa_nil)))) (qw_and1 (qt_cmpR (k_in K) (qv 3) (qe_fn0 C__law_words (hr.mono (by decide))) (by rfl))))) (qss_cons (qs_set (i := 6) sc_law_round.nd rfl (Or.inl rfl) (qe_ix (k_ix K) (qe_lst (qa_consts (xs := [.int 0, .int 0, .int 0, .int 0, .int 0, .int 2, .int 2, .int 2, .int 2, .int 3, .int 1, .int 1, .int 2]) rfl)) (qe_bmK K PySem.F.plainAttrs_list PySem.F.slot_list_index PySem.F.type_list_index (mt_indexK K) (qe_fn0 C__law_words (hr.mono (by decide))) (qa_cons (qv 3) qa_nil)) (fun _ _ => rfl)))
      (qss_one (qs_if (qt_cmpR (k_in K) (qv 3) (qe_bmK K PySem.F.plainAttrs_str PySem.F.slot_str_split PySem.F.type_str_split mt_split (qv 5) (qa_cons (qe_str) qa_nil)) (by rfl)) (qss_one (qs_set (i := 7) sc_law_round.nd rfl (Or.inl rfl) (qe_tup (qa_cons (qv 3) (qa_cons (qv 4) (qa_cons (qe_callTy (k_tuple K) (by rfl) T.tuple (by decide +kernel) (qa_cons (qe_comp (N := ["_law_k"]) (σ0 := capSt 1 []) rfl (cscope_fn rfl (by decide +kernel) (by decide +kernel) (by decide +kernel)) (qi_range1 rfl T.range (qa_cons (qv 6) qa_nil)) (takes_in rfl (by rfl)) (fun _ _ _ _ => qg_name (i := 0) nd_law_round_1 rfl (Or.inl rfl)) (fun _ _ _ _ => qts_nil) (fun _ _ _ _ => qe_tup (qa_cons (qe_str) (qa_cons (qe_non) (qa_cons (qe_tup (qa_nil)) qa_nil))))) qa_nil)) qa_nil)))))) (qss_nil)))) (qss_nil))
      (qss_one (qs_ret (qe_and (qe_fn C__law_counted (hr.mono (by decide)) (qa_cons (qv 3) (qa_cons (qv 6) qa_nil))) (qe_one (qe_fn C__law_made (hr.mono (by decide)) (qa_cons (qv 3) (qa_cons (qv 4) (qa_cons (qv 7) qa_nil)))))))))))), ?_⟩
    have bg := big
    walk_at "r"
    refine ⟨c, rfl, fun v H1 s1 hv => ?_⟩
    walk_at "r"
    refine ⟨v, d, p, t0, t1, t2, rfl, hv, s1.seq hp, n0, n1, n2, fun qn H2 s2 hfit => ?_⟩
    obtain ⟨nv, nt, fs, ws, eq, hnt, hsp, hw⟩ := hfit
    have s12 := s1.trans s2
    have hv2 := hv.same s2
    obtain ⟨t, ht⟩ := id hv2
    walk_at "r"
    refine s_gtupL (SqL.of eq) rfl ?_
    walk_at "r"
    refine s_isiN ht (by simp) ?_
    walk_at "r"
    cases h1 : kitT t "str" with
    | false =>
      have hwv : wordV v = false := by cases ht <;> first | rfl | (cases h1)
      walk_at "r"
      refine ⟨v, .non, rfl, hv2, .inl ⟨rfl, hwv⟩, fun H3 s3 => ?_⟩
      walk_at "r"
      exact ⟨v, nv, nt, .non, rfl, hv2.same s3, hnt.same s3, .inl ⟨rfl, .inl hwv⟩, fun H4 s4 => q H4 (s12.trans (s3.trans s4))⟩
    | true =>
      obtain ⟨z, rfl, hz⟩ : ∃ z, v = .str z ∧ z.length ≤ 1000 := by
        cases ht <;> first | exact ⟨_, rfl, by assumption⟩ | (cases h1)
      walk_at "r"
      refine ⟨rfl, fun ph H3 s3 hph eph => ?_⟩
      refine s_in_seq (.inl (SqL.of eph)) rfl flat_strs ?_
      have s13 := s12.trans s3
      by_cases hzw : z ∈ W13
      · have ein : inV (.str z) (W13.map V.str) = true := by rw [in_strs]; exact mem_isIn hzw
        obtain ⟨j, n, hj, hno, hm, hpn⟩ := idx13 hzw
        have hn3 := parts_le hpn
        rw [if_neg Bool.false_ne_true, ein]
        walk_at "r"
        refine ⟨by show 13 ≤ sizeLine; decide, fun p1 h1' => ?_⟩
        have s4 : Same H3 (upd H3 p1 (.lst M13)) := Same.upd h1'
        have e4 : upd H3 p1 (.lst M13) p1 = some (.lst M13) := upd_same
        revert s4 e4
        generalize hH4 : upd H3 p1 (.lst M13) = H4
        intro s4 e4
        have hH4' : upd H3 p1 (.lst [.int 0, .int 0, .int 0, .int 0, .int 0, .int 2, .int 2, .int 2, .int 2, .int 3, .int 1, .int 1, .int 2]) = H4 := hH4
        rw [hH4']
        walk_at "r"
        refine ⟨rfl, fun pw H5 s5 hpw epw => ?_⟩
        refine s_tyL (SqL.of epw) ?_
        walk_at "r"
        refine ⟨pw, z, W13, j, rfl, rfl, SqL.of epw, hj, hno, by decide, ?_⟩
        refine s_ix_lst (SqL.of (s5 _ _ e4)) (atI_nat hm) ?_
        have s15 := s13.trans (s4.trans s5)
        have s25 := s3.trans (s4.trans s5)
        walk_at "r"
        refine ⟨rfl, ?_⟩
        walk_at "r"
        refine ⟨fs, _, ws, rfl, rfl, hsp, fun qs hqs => ?_⟩
        have s6 := Same.upd (o := .lst (ws.map V.str)) hqs
        refine s_in_seq (.inl (SqL.of upd_same)) rfl flat_strs ?_
        revert s6
        generalize upd H5 qs (.lst (ws.map V.str)) = H6
        intro s6
        have s16 := s15.trans s6
        have s26 := s25.trans s6
        have hw' := hw z hzw rfl
        by_cases hzs : z ∈ ws
        · have ein2 : inV (.str z) (ws.map V.str) = true := by rw [in_strs]; exact mem_isIn hzs
          rw [decide_eq_true hzs] at hw'
          rw [if_neg Bool.false_ne_true, ein2]
          walk_at "r"
          refine ⟨by omega, by omega, fun D hD => ?_⟩
          refine comp_range (n := ((n : Nat) : Int).toNat) (Pv := fun i ys σ' H' => ∃ v0, σ' = [v0] ∧ ys.length = i ∧ (∀ g ∈ ys, GpAt K H' g) ∧ Same H6 H') ⟨none, rfl, rfl, (fun g h => nomatch h), Same.upd hD⟩ ?_ ?_
          · rintro i ys σ' H' hi hys ⟨v0, rfl, hyl, hgs, hH⟩
            walk_at "r"
            refine ⟨by show 0 ≤ sizeLine; decide, fun g1 hg1 => ?_⟩
            walk_at "r"
            refine ⟨by show 3 ≤ sizeLine; decide, fun g2 hg2 => ?_⟩
            have u1 := Same.upd (o := .tup []) hg1
            have u2 := Same.upd (o := .tup [.str "gap", .non, .ref g1]) hg2
            have hys2 := (u1.trans u2) _ _ hys
            have tS := SameT.set (o := .lst (ys ++ [.ref g2])) hys2
            walk_at "r"
            refine ⟨_, hys2, by omega, _, upd_same, ?_⟩
            refine ⟨_, rfl, by simp [hyl], fun g hg => ?_, (hH.trans (u1.trans u2)).over hD⟩
            rcases List.mem_append.mp hg with hg | hg
            · exact (hgs g hg).same ((u1.trans u2).t.trans tS)
            · rw [List.mem_singleton.mp hg]
              exact ⟨g2, g1, rfl, tS.tup (SqT.of upd_same), tS.tup (u2.tup (SqT.of upd_same))⟩
          · rintro ys σ' H7 hys ⟨v0, rfl, hyl, hgs, hH⟩
            have hyn : ys.length = n := by omega
            walk_at "r"
            refine s_tupL (SqL.of hys) fun pt hpt => ?_
            have u1 := Same.upd (o := .tup ys) hpt
            walk_at "r"
            refine ⟨by show 3 ≤ sizeLine; decide, fun r hr1 => ?_⟩
            have u2 := Same.upd (o := .tup [.str z, nv, .ref pt]) hr1
            have fa : FormAt K (upd (upd H7 pt (.tup ys)) r (.tup [.str z, nv, .ref pt])) r z nv n := ⟨pt, ys, SqT.of upd_same, u2.tup (SqT.of upd_same), hyn, fun g hg => by
              obtain ⟨a, e, rfl, g1, g2⟩ := (hgs g hg).same (u1.trans u2).t
              exact gap_isD g1 g2⟩
            have s27 := s26.trans (hH.trans (u1.trans u2))
            have s17 := s16.trans (hH.trans (u1.trans u2))
            walk_at "r"
            refine ⟨.str z, _, rfl, hv2.same s27, .inr ⟨z, n, rfl, hpn, rfl⟩, fun H8 s8 => ?_⟩
            walk_at "r"
            exact ⟨.str z, nv, nt, .ref r, rfl, hv2.same (s27.trans s8), hnt.same (s27.trans s8), .inr ⟨z, n, r, rfl, hpn, hw', rfl, fa.same s8⟩, fun H9 s9 => q H9 (s17.trans (s8.trans s9))⟩
        · have ein2 : inV (.str z) (ws.map V.str) = false := by rw [in_strs]; exact not_isIn hzs
          rw [decide_eq_false hzs] at hw'
          rw [if_neg Bool.false_ne_true, ein2]
          walk_at "r"
          refine ⟨.str z, _, rfl, hv2.same s26, .inr ⟨z, n, rfl, hpn, rfl⟩, fun H8 s8 => ?_⟩
          walk_at "r"
          exact ⟨.str z, nv, nt, .non, rfl, hv2.same (s26.trans s8), hnt.same (s26.trans s8), .inl ⟨rfl, .inr ⟨z, rfl, hw'⟩⟩, fun H9 s9 => q H9 (s16.trans (s8.trans s9))⟩
      · have ein : inV (.str z) (W13.map V.str) = false := by rw [in_strs]; exact not_isIn hzw
        have hwv : wordV (.str z) = false := by show (partsOf z).isSome = false; rw [parts_none hzw]; rfl
        rw [if_neg Bool.false_ne_true, ein]
        walk_at "r"
        refine ⟨.str z, .non, rfl, hv2.same s3, .inl ⟨rfl, hwv⟩, fun H4 s4 => ?_⟩
        walk_at "r"
        exact ⟨.str z, nv, nt, .non, rfl, hv2.same (s3.trans s4), hnt.same (s3.trans s4), .inl ⟨rfl, .inl hwv⟩, fun H5 s5 => q H5 (s13.trans (s4.trans s5))⟩
end
end K12

set_option Elab.async false
set_option linter.all false
set_option maxRecDepth 100000
set_option maxHeartbeats 4000000
namespace K12
open PySem L2 K10
section
variable {P : Program} {w : World} {K : PySem.W.Frag} {mg : Str → Option Value} {base : Heap}
def sp_law (K : PySem.W.Frag) : Sp := fun vs H Q _ => ∃ (a : Addr) (ns : List Int), vs = [.ref a] ∧ SqL K H a (ns.map V.int) ∧ ns.length ≤ 63 ∧ ∀ H', Q (.bl true) H'
theorem sc_law : FnScope ["_law_script", "_law_names_here", "_law_k"] ["_law_script"] (defScope s_law) := ⟨rfl, rfl, rfl, by decide +kernel, rfl, by decide +kernel, by decide +kernel⟩
theorem ok_law {f : Addr} {fd : FuncData} (F : Fun K "law" "law" s_law f fd) (T : Txt K mg) (G : Gs P w K mg) (C__law_names : Callee P w K mg base 1 "_law_names" ["_law_one", "_law_other"] sp_names) (C__law_cell : Callee P w K mg base 1 "_law_cell" ["_law_script", "_law_k"] (sp_cell K)) (C__law_round : Callee P w K mg base 6 "_law_round" ["_law_one", "_law_other", "_law_names_here"] (sp_round K)) (C__law_made : Callee P w K mg base 5 "_law_made" ["_law_word_here", "_law_note_here", "_law_due"] (sp_made K)) : FnOk P w K mg base CX0 7 f fd ["_law_script"] (sp_law K) := by
  refine F.okq sc_law (fun vs H Q E h => ?_) (fun cdv A outer s H vs Q E hr h => ?_)
  · obtain ⟨a, ns, rfl, _⟩ := h
    rfl
  · obtain ⟨a, ns, rfl, hS, hn, q⟩ := h
    have S : Script K H a := ⟨ns, hS, hn⟩
    obtain ⟨ag, eg, G_GAP, hg1, hg2⟩ := G.gp
    refine ⟨_, qss_cons (qs_set (i := 1) sc_law.nd rfl (Or.inl rfl) (qe_fn C__law_names (hr.mono (by decide)) (qa_cons (qe_fn C__law_cell (hr.mono (by decide)) (qa_cons (qv 0) (qa_cons (qe_int) qa_nil))) (qa_cons (qe_fn C__law_cell (hr.mono (by decide)) (qa_cons (qv 0) (qa_cons (qe_int) qa_nil))) qa_nil))))
      (qss_cons (qs_for PassesOwn.never rfl (qi_range1 rfl T.range (qa_cons (qe_int) qa_nil)) (qg_name (i := 2) sc_law.nd rfl (Or.inl rfl)) (qss_cons (qs_if (qt_not (qt_val (qe_fn C__law_round (hr.mono (by decide)) (qa_cons (qe_fn C__law_cell (hr.mono (by decide)) (qa_cons (qv 0) (qa_cons (qe_op (k_add K) (qe_int) (qe_op op_mulA (qe_int) (qv 2))) qa_nil))) (qa_cons (qe_fn C__law_cell (hr.mono (by decide)) (qa_cons (qv 0) (qa_cons (qe_op (k_add K) (qe_int) (qe_op op_mulA (qe_int) (qv 2))) qa_nil))) (qa_cons (qv 1) qa_nil)))))) (qss_one (qs_ret (qe_bl))) (qss_nil))
      (qss_one (qs_if (QW.qt (qw_or (qt_not (qt_val (qe_fn C__law_made (hr.mono (by decide)) (qa_cons (qe_str) (qa_cons (qe_ix (k_ix K) (qv 1) (qe_int) (fun _ _ => rfl)) (qa_cons (qe_tup (qa_cons (qe_str) (qa_cons (qe_ix (k_ix K) (qv 1) (qe_int) (fun _ _ => rfl)) (qa_cons (qe_tup (qa_cons (qe_gl G_GAP) (qa_cons (qe_gl G_GAP) qa_nil))) qa_nil)))) qa_nil)))))) (qw_or1 (qt_not (qt_val (qe_fn C__law_made (hr.mono (by decide)) (qa_cons (qe_str) (qa_cons (qe_non) (qa_cons (qe_non) qa_nil))))))))) (qss_one (qs_ret (qe_bl))) (qss_nil)))))
      (qss_one (qs_ret (qe_and (qe_fn C__law_round (hr.mono (by decide)) (qa_cons (qe_fn C__law_cell (hr.mono (by decide)) (qa_cons (qv 0) (qa_cons (qe_int) qa_nil))) (qa_cons (qe_fn C__law_cell (hr.mono (by decide)) (qa_cons (qv 0) (qa_cons (qe_int) qa_nil))) (qa_cons (qv 1) qa_nil)))) (qe_one (qe_cmpR (k_eq K hr.u200) (qe_gl G_GAP) (qe_tup (qa_cons (qe_str) (qa_cons (qe_non) (qa_cons (qe_tup (qa_nil)) qa_nil)))) (nomark _))))))), ?_⟩
    have bg := big
    walk_at "r"
    refine ⟨a, 0, rfl, S, by decide, fun z0 => ?_⟩
    walk_at "r"
    refine ⟨a, 1, rfl, S, by decide, fun z1 => ?_⟩
    walk_at "r"
    refine ⟨z0, z1, rfl, fun p t0 t1 t2 H1 n0 n1 n2 s1 hp0 hp => ?_⟩
    have l0 := (name_len n0).2
    walk_at "r"
    refine ⟨by decide, by decide, ?_⟩
    refine for_range (n := 4) (fun i σ' H' => ∃ w2, σ' = [some (.ref a), some (.ref p), w2] ∧ Same H1 H') ⟨none, rfl, Same.refl _⟩ ?_ ?_
    · rintro i σ' H' hi ⟨w2, rfl, sm⟩
      have hp' := sm _ _ hp
      walk_at "r"
      refine ⟨a, _, rfl, S.same (s1.trans sm), by omega, fun z2 => ?_⟩
      walk_at "r"
      refine ⟨a, _, rfl, S.same (s1.trans sm), by omega, fun z3 => ?_⟩
      walk_at "r"
      refine ⟨z2, z3, p, t0, t1, t2, rfl, SqL.of hp', n0, n1, n2, fun H2 s2 => ?_⟩
      have hp2 := s2 _ _ hp'
      walk_at "r"
      refine s_ix_lst (v := .str t0) (SqL.of hp2) rfl ?_
      walk_at "r"
      refine s_ix_lst (v := .str t0) (SqL.of hp2) rfl ?_
      walk_at "r"
      refine ⟨by show 2 ≤ sizeLine; decide, fun pg hpg => ?_⟩
      have u1 := Same.upd (o := .tup [.ref ag, .ref ag]) hpg
      walk_at "r"
      refine ⟨by show 3 ≤ sizeLine; decide, fun pr hpr => ?_⟩
      have u2 := Same.upd (o := .tup [.str "let", .str t0, .ref pg]) hpr
      walk_at "r"
      have hb : noteB "let" (.fl (.str t0)) = true := by
        unfold noteB
        rw [if_neg (by decide +kernel), if_neg (by decide +kernel), if_neg (by decide +kernel), if_pos (by decide +kernel)]
        exact n0
      refine ⟨.str "let", .str t0, .fl (.str t0), .ref pr, rfl, ⟨_, .str _ (by decide +kernel)⟩, ⟨rfl, _, .str t0 (by omega), by decide⟩, .inr ⟨"let", 2, pr, rfl, by decide +kernel, hb, rfl, ⟨pg, [.ref ag, .ref ag], SqT.of upd_same, u2.tup (SqT.of upd_same), rfl, fun g hg => ?_⟩⟩, fun H3 s3 => ?_⟩
      · simp only [List.mem_cons, List.not_mem_nil, or_false, or_self] at hg
        rw [hg]
        exact gap_isD (hg1 _) (hg2 _)
      walk_at "r"
      have hb2 : noteB "let" (.fl .non) = false := by
        unfold noteB
        rw [if_neg (by decide +kernel), if_neg (by decide +kernel), if_neg (by decide +kernel), if_pos (by decide +kernel)]
        rfl
      refine ⟨.str "let", .non, .fl .non, .non, rfl, ⟨_, .str _ (by decide +kernel)⟩, ⟨rfl, _, .non, by decide⟩, .inl ⟨rfl, .inr ⟨"let", rfl, hb2⟩⟩, fun H4 s4 => ?_⟩
      walk_at "r"
      exact ⟨_, rfl, sm.trans (s2.trans (u1.trans (u2.trans (s3.trans s4))))⟩
    · rintro σ' H' ⟨w2, rfl, sm⟩
      walk_at "r"
      refine ⟨a, 2, rfl, S.same (s1.trans sm), by decide, fun z2 => ?_⟩
      walk_at "r"
      refine ⟨a, 3, rfl, S.same (s1.trans sm), by decide, fun z3 => ?_⟩
      walk_at "r"
      refine ⟨z2, z3, p, t0, t1, t2, rfl, SqL.of (sm _ _ hp), n0, n1, n2, fun H2 s2 => ?_⟩
      walk_at "r"
      refine ⟨by show 0 ≤ sizeLine; decide, fun g1 h1 => ?_⟩
      walk_at "r"
      refine ⟨by show 3 ≤ sizeLine; decide, fun g2 h2 => ?_⟩
      have u2 := Same.upd (o := .tup [.str "gap", .non, .ref g1]) h2
      refine s_eqD (n := 2) (by decide) (gap_isD (hg1 _) (hg2 _)) (gap_isD (SqT.of upd_same) (u2.tup (SqT.of upd_same))) ?_
      exact q _
end
end K12

set_option Elab.async false
set_option linter.all false
set_option maxRecDepth 100000
set_option maxHeartbeats 8000000
namespace K12
open PySem L2 K10
abbrev spLaw := sp_law
theorem tail_GE {K : PySem.W.Frag} {GE : Addr} {ddG : Option Addr} {cdG : ClassData} {slG : Array (Option Value)} {cG : Value} (ho : K.lookup GE = some ⟨cG, ddG, .cls cdG, slG⟩) (hok : PySem.W.nsOkIn K cdG.ns = true) (hni : PySem.W.nsIn K cdG.ns "__init__" = some none) : PySem.W.tailIn K VE (.ref GE :: VE) = true ∧ (PySem.W.clsIn K GE).isSome = true := by
  have e : PySem.W.tailIn K VE VE = true := by unfold PySem.W.tailIn; rfl
  refine ⟨?_, by unfold PySem.W.clsIn; rw [ho]; rfl⟩
  unfold PySem.W.tailIn
  dsimp only
  rw [ho]
  dsimp only
  rw [hok, hni, e]
  simp
theorem excI_mk {K : PySem.W.Frag} {C GE : Addr} {ddC : Option Addr} {cdC : ClassData} {slC : Array (Option Value)} {k0 k1 k2 k3 k5 : Option Value} (hC : K.lookup C = some ⟨.type "type", ddC, .cls cdC, slC⟩) (hm : cdC.mro = .ref C :: .ref GE :: VE) (hs : slC.toList = [k0, k1, k2, k3, some (.builtin "ValueError.__new__"), k5]) (hd : cdC.hasDel = false) (h : PySem.W.tailIn K VE (.ref GE :: VE) = true) : excI K C = true ∧ ((PySem.W.clsIn K C).any fun cd => overVE cd.mro) = true := by
  refine ⟨?_, ?_⟩
  · unfold excI
    rw [hC]
    simp only [hm, hs]
    rw [hd, h]
    simp
  · unfold PySem.W.clsIn
    rw [hC]
    dsimp only
    show overVE cdC.mro = true
    rw [hm]
    show overVE VE = true
    decide
theorem kit_ref {K : PySem.W.Frag} {C X : Addr} {b : Bool} {c : Value} {dd : Option Addr} {cd : ClassData} {sl : Array (Option Value)} (hX : K.lookup X = some ⟨c, dd, .cls cd, sl⟩) (ht : PySem.W.typeIn K (.ref X) = some (.type "type")) (hs : PySem.W.subIn K (.ref C) (.ref X) = some b) (hn : b = false → (C == X) = false) : PySem.W.kitOne K (.ref C) (.ref X) = some b := by
  unfold PySem.W.kitOne
  by_cases h : ((Value.ref C) == (Value.ref X)) = true
  · rw [if_pos h]
    have e := beq_iff_eq.mp h
    injection e with e
    subst e
    cases b with
    | true => rfl
    | false => have := hn rfl; simp at this
  · rw [if_neg h]
    unfold PySem.W.kitCls
    dsimp only
    rw [if_pos]
    · exact hs
    · rw [ht]
      unfold PySem.W.clsIn
      rw [hX]
      simp
theorem kit_ty {K : PySem.W.Frag} {C : Addr} (hs : PySem.W.subIn K (.ref C) (.type "ValueError") = some true) : PySem.W.kitOne K (.ref C) (.type "ValueError") = some true := by
  unfold PySem.W.kitOne
  rw [if_neg (by intro h; have := beq_iff_eq.mp h; cases this)]
  unfold PySem.W.kitCls
  dsimp only
  rw [if_pos (by rfl)]
  exact hs
theorem excIn_mk {K : PySem.W.Frag} {C GE : Addr} {ddC : Option Addr} {cdC : ClassData} {slC : Array (Option Value)} {k0 k1 k2 k3 k5 : Option Value} (hC : K.lookup C = some ⟨.type "type", ddC, .cls cdC, slC⟩) (hm : cdC.mro = .ref C :: .ref GE :: VE) (hs : slC.toList = [k0, k1, k2, k3, some (.builtin "ValueError.__new__"), k5]) (hd : cdC.hasDel = false) (h : PySem.W.tailIn K VE (.ref GE :: VE) = true) (hok : PySem.W.nsOkIn K cdC.ns = true) (hni : PySem.W.nsIn K cdC.ns "__init__" = some none) : PySem.W.excIn K C VE "ValueError.__new__" = true := by
  unfold PySem.W.excIn
  rw [hC]
  simp only [hm, hs]
  rw [hd, h, hok, hni]
  simp
theorem gap_top {K : PySem.W.Frag} {a e : Addr} {od : Option Addr} {its : Array Value} {n : Nat} {sl : Array (Option Value)} {tk : Tok} (l : K.lookup a = some ⟨.type "tuple", od, .seq its n, sl⟩) (h : its.toList = [.str "gap" tk, .none, .ref e]) : ∀ H, SqT K H a [.str "gap", .non, .ref e] := fun H => by
  have v : Vals [.str "gap", .non, .ref e] its.toList := by rw [h]; exact .cons ⟨tk, rfl⟩ (.cons rfl (.cons rfl .nil))
  refine .inr ⟨_, its, n, l, rfl, rfl, ?_, v⟩
  have b : 1000 ≤ sizeLine := by decide
  have e2 : its.toList.length = its.size := Array.length_toList
  have e3 : its.toList.length = 3 := by rw [h]; rfl
  omega
theorem all_mk {l : PySem.W.OpenLaw} {w : World} {K : PySem.W.Frag} {h : Heap} {mg : Str → Option Value} {fa f1 f2 f3 f4 f5 f6 f7 f8 f9 f10 f11 f12 f13 f14 f15 f16 f17 f18 f19 f20 f21 f22 f23 f24 : Addr} (X : K.In h) (G : h.Ns mainGlobals mg) (hfa : mg "law" = some (.ref fa))
    {od1 an1 od2 an2 od3 an3 od4 an4 od5 an5 od6 an6 od7 an7 od8 an8 od9 an9 od10 an10 od11 an11 od12 an12 od13 an13 od14 an14 od15 an15 od16 an16 od17 an17 od18 an18 od19 an19 od20 an20 od21 an21 od22 an22 od23 an23 od24 an24 : Option Addr}
    {sl1 sl2 sl3 sl4 sl5 sl6 sl7 sl8 sl9 sl10 sl11 sl12 sl13 sl14 sl15 sl16 sl17 sl18 sl19 sl20 sl21 sl22 sl23 sl24 : Array (Option Value)}
    {oc1 kV1 dc1 pm1 cd1 ct1 oc2 kV2 dc2 pm2 cd2 ct2 oc3 kV3 dc3 pm3 cd3 ct3 oc4 kV4 dc4 pm4 cd4 ct4 oc5 kV5 dc5 pm5 cd5 ct5 oc6 kV6 dc6 pm6 cd6 ct6 oc7 kV7 dc7 pm7 cd7 ct7 oc8 kV8 dc8 pm8 cd8 ct8 oc9 kV9 dc9 pm9 cd9 ct9 oc10 kV10 dc10 pm10 cd10 ct10 oc11 kV11 dc11 pm11 cd11 ct11 oc12 kV12 dc12 pm12 cd12 ct12 oc13 kV13 dc13 pm13 cd13 ct13 oc14 kV14 dc14 pm14 cd14 ct14 oc15 kV15 dc15 pm15 cd15 ct15 oc16 kV16 dc16 pm16 cd16 ct16 oc17 kV17 dc17 pm17 cd17 ct17 oc18 kV18 dc18 pm18 cd18 ct18 oc19 kV19 dc19 pm19 cd19 ct19 oc20 kV20 dc20 pm20 cd20 ct20 oc21 kV21 dc21 pm21 cd21 ct21 oc22 kV22 dc22 pm22 cd22 ct22 oc23 kV23 dc23 pm23 cd23 ct23 oc24 kV24 dc24 pm24 cd24 ct24 : Value}
    (a1 : PySem.W.nsIn K mainGlobals "is_whole" = some (some (.ref f1))) (l1 : K.lookup f1 = some ⟨oc1, od1, .func (PySem.W.fnOf "is_whole" "is_whole" (defArgs s_is_whole) (defBody s_is_whole) (defScope s_is_whole) .none kV1 dc1 pm1 an1 cd1 ct1), sl1⟩) (c1 : PySem.W.codeIn K cd1 "is_whole" = true) (k1 : PySem.W.keepIn K (.ref f1) = true)
    (a2 : PySem.W.nsIn K mainGlobals "is_name" = some (some (.ref f2))) (l2 : K.lookup f2 = some ⟨oc2, od2, .func (PySem.W.fnOf "is_name" "is_name" (defArgs s_is_name) (defBody s_is_name) (defScope s_is_name) .none kV2 dc2 pm2 an2 cd2 ct2), sl2⟩) (c2 : PySem.W.codeIn K cd2 "is_name" = true) (k2 : PySem.W.keepIn K (.ref f2) = true)
    (a3 : PySem.W.nsIn K mainGlobals "is_figures" = some (some (.ref f3))) (l3 : K.lookup f3 = some ⟨oc3, od3, .func (PySem.W.fnOf "is_figures" "is_figures" (defArgs s_is_figures) (defBody s_is_figures) (defScope s_is_figures) .none kV3 dc3 pm3 an3 cd3 ct3), sl3⟩) (c3 : PySem.W.codeIn K cd3 "is_figures" = true) (k3 : PySem.W.keepIn K (.ref f3) = true)
    (a4 : PySem.W.nsIn K mainGlobals "is_odd_sign" = some (some (.ref f4))) (l4 : K.lookup f4 = some ⟨oc4, od4, .func (PySem.W.fnOf "is_odd_sign" "is_odd_sign" (defArgs s_is_odd_sign) (defBody s_is_odd_sign) (defScope s_is_odd_sign) .none kV4 dc4 pm4 an4 cd4 ct4), sl4⟩) (c4 : PySem.W.codeIn K cd4 "is_odd_sign" = true) (k4 : PySem.W.keepIn K (.ref f4) = true)
    (a5 : PySem.W.nsIn K mainGlobals "is_odd" = some (some (.ref f5))) (l5 : K.lookup f5 = some ⟨oc5, od5, .func (PySem.W.fnOf "is_odd" "is_odd" (defArgs s_is_odd) (defBody s_is_odd) (defScope s_is_odd) .none kV5 dc5 pm5 an5 cd5 ct5), sl5⟩) (c5 : PySem.W.codeIn K cd5 "is_odd" = true) (k5 : PySem.W.keepIn K (.ref f5) = true)
    (a6 : PySem.W.nsIn K mainGlobals "is_word" = some (some (.ref f6))) (l6 : K.lookup f6 = some ⟨oc6, od6, .func (PySem.W.fnOf "is_word" "is_word" (defArgs s_is_word) (defBody s_is_word) (defScope s_is_word) .none kV6 dc6 pm6 an6 cd6 ct6), sl6⟩) (c6 : PySem.W.codeIn K cd6 "is_word" = true) (k6 : PySem.W.keepIn K (.ref f6) = true)
    (a7 : PySem.W.nsIn K mainGlobals "is_two_names" = some (some (.ref f7))) (l7 : K.lookup f7 = some ⟨oc7, od7, .func (PySem.W.fnOf "is_two_names" "is_two_names" (defArgs s_is_two_names) (defBody s_is_two_names) (defScope s_is_two_names) .none kV7 dc7 pm7 an7 cd7 ct7), sl7⟩) (c7 : PySem.W.codeIn K cd7 "is_two_names" = true) (k7 : PySem.W.keepIn K (.ref f7) = true)
    (a8 : PySem.W.nsIn K mainGlobals "is_note" = some (some (.ref f8))) (l8 : K.lookup f8 = some ⟨oc8, od8, .func (PySem.W.fnOf "is_note" "is_note" (defArgs s_is_note) (defBody s_is_note) (defScope s_is_note) .none kV8 dc8 pm8 an8 cd8 ct8), sl8⟩) (c8 : PySem.W.codeIn K cd8 "is_note" = true) (k8 : PySem.W.keepIn K (.ref f8) = true)
    (a9 : PySem.W.nsIn K mainGlobals "many_parts" = some (some (.ref f9))) (l9 : K.lookup f9 = some ⟨oc9, od9, .func (PySem.W.fnOf "many_parts" "many_parts" (defArgs s_many_parts) (defBody s_many_parts) (defScope s_many_parts) .none kV9 dc9 pm9 an9 cd9 ct9), sl9⟩) (c9 : PySem.W.codeIn K cd9 "many_parts" = true) (k9 : PySem.W.keepIn K (.ref f9) = true)
    (a10 : PySem.W.nsIn K mainGlobals "bare" = some (some (.ref f10))) (l10 : K.lookup f10 = some ⟨oc10, od10, .func (PySem.W.fnOf "bare" "bare" (defArgs s_bare) (defBody s_bare) (defScope s_bare) .none kV10 dc10 pm10 an10 cd10 ct10), sl10⟩) (c10 : PySem.W.codeIn K cd10 "bare" = true) (k10 : PySem.W.keepIn K (.ref f10) = true)
    (a11 : PySem.W.nsIn K mainGlobals "_law_cell" = some (some (.ref f11))) (l11 : K.lookup f11 = some ⟨oc11, od11, .func (PySem.W.fnOf "_law_cell" "_law_cell" (defArgs s_law_cell) (defBody s_law_cell) (defScope s_law_cell) .none kV11 dc11 pm11 an11 cd11 ct11), sl11⟩) (c11 : PySem.W.codeIn K cd11 "_law_cell" = true) (k11 : PySem.W.keepIn K (.ref f11) = true)
    (a12 : PySem.W.nsIn K mainGlobals "_law_names" = some (some (.ref f12))) (l12 : K.lookup f12 = some ⟨oc12, od12, .func (PySem.W.fnOf "_law_names" "_law_names" (defArgs s_law_names) (defBody s_law_names) (defScope s_law_names) .none kV12 dc12 pm12 an12 cd12 ct12), sl12⟩) (c12 : PySem.W.codeIn K cd12 "_law_names" = true) (k12 : PySem.W.keepIn K (.ref f12) = true)
    (a13 : PySem.W.nsIn K mainGlobals "_law_odd" = some (some (.ref f13))) (l13 : K.lookup f13 = some ⟨oc13, od13, .func (PySem.W.fnOf "_law_odd" "_law_odd" (defArgs s_law_odd) (defBody s_law_odd) (defScope s_law_odd) .none kV13 dc13 pm13 an13 cd13 ct13), sl13⟩) (c13 : PySem.W.codeIn K cd13 "_law_odd" = true) (k13 : PySem.W.keepIn K (.ref f13) = true)
    (a14 : PySem.W.nsIn K mainGlobals "_law_number" = some (some (.ref f14))) (l14 : K.lookup f14 = some ⟨oc14, od14, .func (PySem.W.fnOf "_law_number" "_law_number" (defArgs s_law_number) (defBody s_law_number) (defScope s_law_number) .none kV14 dc14 pm14 an14 cd14 ct14), sl14⟩) (c14 : PySem.W.codeIn K cd14 "_law_number" = true) (k14 : PySem.W.keepIn K (.ref f14) = true)
    (a15 : PySem.W.nsIn K mainGlobals "_law_words" = some (some (.ref f15))) (l15 : K.lookup f15 = some ⟨oc15, od15, .func (PySem.W.fnOf "_law_words" "_law_words" (defArgs s_law_words) (defBody s_law_words) (defScope s_law_words) .none kV15 dc15 pm15 an15 cd15 ct15), sl15⟩) (c15 : PySem.W.codeIn K cd15 "_law_words" = true) (k15 : PySem.W.keepIn K (.ref f15) = true)
    (a16 : PySem.W.nsIn K mainGlobals "_law_word" = some (some (.ref f16))) (l16 : K.lookup f16 = some ⟨oc16, od16, .func (PySem.W.fnOf "_law_word" "_law_word" (defArgs s_law_word) (defBody s_law_word) (defScope s_law_word) .none kV16 dc16 pm16 an16 cd16 ct16), sl16⟩) (c16 : PySem.W.codeIn K cd16 "_law_word" = true) (k16 : PySem.W.keepIn K (.ref f16) = true)
    (a17 : PySem.W.nsIn K mainGlobals "_law_right" = some (some (.ref f17))) (l17 : K.lookup f17 = some ⟨oc17, od17, .func (PySem.W.fnOf "_law_right" "_law_right" (defArgs s_law_right) (defBody s_law_right) (defScope s_law_right) .none kV17 dc17 pm17 an17 cd17 ct17), sl17⟩) (c17 : PySem.W.codeIn K cd17 "_law_right" = true) (k17 : PySem.W.keepIn K (.ref f17) = true)
    (a18 : PySem.W.nsIn K mainGlobals "_law_wrong" = some (some (.ref f18))) (l18 : K.lookup f18 = some ⟨oc18, od18, .func (PySem.W.fnOf "_law_wrong" "_law_wrong" (defArgs s_law_wrong) (defBody s_law_wrong) (defScope s_law_wrong) .none kV18 dc18 pm18 an18 cd18 ct18), sl18⟩) (c18 : PySem.W.codeIn K cd18 "_law_wrong" = true) (k18 : PySem.W.keepIn K (.ref f18) = true)
    (a19 : PySem.W.nsIn K mainGlobals "_law_note" = some (some (.ref f19))) (l19 : K.lookup f19 = some ⟨oc19, od19, .func (PySem.W.fnOf "_law_note" "_law_note" (defArgs s_law_note) (defBody s_law_note) (defScope s_law_note) .none kV19 dc19 pm19 an19 cd19 ct19), sl19⟩) (c19 : PySem.W.codeIn K cd19 "_law_note" = true) (k19 : PySem.W.keepIn K (.ref f19) = true)
    (a20 : PySem.W.nsIn K mainGlobals "_law_kinds" = some (some (.ref f20))) (l20 : K.lookup f20 = some ⟨oc20, od20, .func (PySem.W.fnOf "_law_kinds" "_law_kinds" (defArgs s_law_kinds) (defBody s_law_kinds) (defScope s_law_kinds) .none kV20 dc20 pm20 an20 cd20 ct20), sl20⟩) (c20 : PySem.W.codeIn K cd20 "_law_kinds" = true) (k20 : PySem.W.keepIn K (.ref f20) = true)
    (a21 : PySem.W.nsIn K mainGlobals "_law_counted" = some (some (.ref f21))) (l21 : K.lookup f21 = some ⟨oc21, od21, .func (PySem.W.fnOf "_law_counted" "_law_counted" (defArgs s_law_counted) (defBody s_law_counted) (defScope s_law_counted) .none kV21 dc21 pm21 an21 cd21 ct21), sl21⟩) (c21 : PySem.W.codeIn K cd21 "_law_counted" = true) (k21 : PySem.W.keepIn K (.ref f21) = true)
    (a22 : PySem.W.nsIn K mainGlobals "_law_made" = some (some (.ref f22))) (l22 : K.lookup f22 = some ⟨oc22, od22, .func (PySem.W.fnOf "_law_made" "_law_made" (defArgs s_law_made) (defBody s_law_made) (defScope s_law_made) .none kV22 dc22 pm22 an22 cd22 ct22), sl22⟩) (c22 : PySem.W.codeIn K cd22 "_law_made" = true) (k22 : PySem.W.keepIn K (.ref f22) = true)
    (a23 : PySem.W.nsIn K mainGlobals "_law_round" = some (some (.ref f23))) (l23 : K.lookup f23 = some ⟨oc23, od23, .func (PySem.W.fnOf "_law_round" "_law_round" (defArgs s_law_round) (defBody s_law_round) (defScope s_law_round) .none kV23 dc23 pm23 an23 cd23 ct23), sl23⟩) (c23 : PySem.W.codeIn K cd23 "_law_round" = true) (k23 : PySem.W.keepIn K (.ref f23) = true)
    (a24 : PySem.W.nsIn K mainGlobals "law" = some (some (.ref f24))) (l24 : K.lookup f24 = some ⟨oc24, od24, .func (PySem.W.fnOf "law" "law" (defArgs s_law) (defBody s_law) (defScope s_law) .none kV24 dc24 pm24 an24 cd24 ct24), sl24⟩) (c24 : PySem.W.codeIn K cd24 "law" = true) (k24 : PySem.W.keepIn K (.ref f24) = true)
    (z1 : PySem.W.nsIn K mainGlobals "isinstance" = some none)
    (z2 : PySem.W.nsIn K mainGlobals "int" = some none)
    (z3 : PySem.W.nsIn K mainGlobals "bool" = some none)
    (z4 : PySem.W.nsIn K mainGlobals "str" = some none)
    (z5 : PySem.W.nsIn K mainGlobals "len" = some none)
    (z6 : PySem.W.nsIn K mainGlobals "all" = some none)
    (z7 : PySem.W.nsIn K mainGlobals "tuple" = some none)
    (z8 : PySem.W.nsIn K mainGlobals "range" = some none)
    (z9 : PySem.W.nsIn K mainGlobals "ValueError" = some none)
    {zt100 : Tok} (z100 : PySem.W.nsIn K mainGlobals "NAME_SIGNS" = some (some (.str LET zt100)))
    {zt101 : Tok} (z101 : PySem.W.nsIn K mainGlobals "FIGURES" = some (some (.str DIG zt101)))
    {za102 : Addr} {zo102 : Option Addr} {zi102 : Array Value} {zn102 : Nat} {zs102 : Array (Option Value)} (z102 : PySem.W.nsIn K mainGlobals "WORDS_NO_NAMES" = some (some (.ref za102))) (y102 : K.lookup za102 = some ⟨.type "tuple", zo102, .seq zi102 zn102, zs102⟩) (x102 : absAll zi102.toList = some (W9.map V.str))
    {za103 : Addr} {zo103 : Option Addr} {zi103 : Array Value} {zn103 : Nat} {zs103 : Array (Option Value)} (z103 : PySem.W.nsIn K mainGlobals "WORDS_NOT_ODD" = some (some (.ref za103))) (y103 : K.lookup za103 = some ⟨.type "tuple", zo103, .seq zi103 zn103, zs103⟩) (x103 : absAll zi103.toList = some (W10.map V.str))
    {za104 : Addr} {zi104 : Array DictEntry} {zn104 : Nat} (z104 : PySem.W.nsIn K mainGlobals "PARTS_OF_WORDS" = some (some (.ref za104))) (y104 : K.lookup za104 = some ⟨.type "dict", none, .dict zi104 zn104, #[]⟩) (x104 : (za104 == sysModules) = false) (e104 : Ents w.params zi104.toList PARTS)
    {C GE : Addr} {ddC : Option Addr} {slC : Array (Option Value)} {cdC : ClassData} {j0 j1 j2 j3 j5 : Option Value}
    (x1 : PySem.W.nsIn K mainGlobals "NoForm" = some (some (.ref C))) (x2 : PySem.W.nsIn K mainGlobals "GapError" = some (some (.ref GE)))
    (x7 : K.lookup C = some ⟨.type "type", ddC, .cls cdC, slC⟩) (x8 : cdC.mro = .ref C :: .ref GE :: VE) (x9 : slC.toList = [j0, j1, j2, j3, some (.builtin "ValueError.__new__"), j5]) (x10 : cdC.hasDel = false)
    {cG : Value} {ddG : Option Addr} {cdG : ClassData} {slG : Array (Option Value)} (x11 : K.lookup GE = some ⟨cG, ddG, .cls cdG, slG⟩) {cN : Value} {ddN : Option Addr} {esN : Array DictEntry} {nN : Nat} {slN : Array (Option Value)} (x24 : K.lookup cdG.ns = some ⟨cN, ddN, .dict esN nN, slN⟩) (x26 : (esN.toList.all fun e => match e.key with | .str _ _ => true | _ => false) = true) (x25 : PySem.W.nsIn K cdG.ns "__init__" = some none)
    {cM : Value} {ddM : Option Addr} {esM : Array DictEntry} {nM : Nat} {slM : Array (Option Value)} (x30 : K.lookup cdC.ns = some ⟨cM, ddM, .dict esM nM, slM⟩) (x31 : (esM.toList.all fun e => match e.key with | .str _ _ => true | _ => false) = true) (x32 : PySem.W.nsIn K cdC.ns "__init__" = some none)
    (x14 : PySem.W.subIn K (.ref C) (.type "BaseException") = some true) (x15 : PySem.W.typeIn K (.ref C) = some (.type "type"))
    (x16 : PySem.W.hasDictIn K C = true) (x17 : PySem.W.findIn K (.ref C) "__getattribute__" = some (some (.builtin "BaseException.__getattribute__"))) (x18 : PySem.W.findIn K (.ref C) "__getattr__" = some none) (x19 : PySem.W.findIn K (.ref C) "__setattr__" = some (some (.builtin "object.__setattr__")))
    (x21 : PySem.W.typeIn K (.ref GE) = some (.type "type")) (x22 : PySem.W.subIn K (.ref GE) (.type "BaseException") = some true) (x23 : PySem.W.subIn K (.ref C) (.ref GE) = some true)
    {ND : Addr} {cND : Value} {ddND : Option Addr} {cdND : ClassData} {slND : Array (Option Value)} (x40 : PySem.W.nsIn K mainGlobals "NoDeed" = some (some (.ref ND))) (x41 : K.lookup ND = some ⟨cND, ddND, .cls cdND, slND⟩) (x42 : PySem.W.typeIn K (.ref ND) = some (.type "type")) (x43 : PySem.W.subIn K (.ref C) (.ref ND) = some false) (x44 : (C == ND) = false)
    {NN : Addr} {cNN : Value} {ddNN : Option Addr} {cdNN : ClassData} {slNN : Array (Option Value)} (x50 : PySem.W.nsIn K mainGlobals "NoName" = some (some (.ref NN))) (x51 : K.lookup NN = some ⟨cNN, ddNN, .cls cdNN, slNN⟩) (x52 : PySem.W.typeIn K (.ref NN) = some (.type "type")) (x53 : PySem.W.subIn K (.ref C) (.ref NN) = some false) (x54 : (C == NN) = false)
    {NP : Addr} {cNP : Value} {ddNP : Option Addr} {cdNP : ClassData} {slNP : Array (Option Value)} (x60 : PySem.W.nsIn K mainGlobals "NoPlace" = some (some (.ref NP))) (x61 : K.lookup NP = some ⟨cNP, ddNP, .cls cdNP, slNP⟩) (x62 : PySem.W.typeIn K (.ref NP) = some (.type "type")) (x63 : PySem.W.subIn K (.ref C) (.ref NP) = some false) (x64 : (C == NP) = false)
    {NR : Addr} {cNR : Value} {ddNR : Option Addr} {cdNR : ClassData} {slNR : Array (Option Value)} (x70 : PySem.W.nsIn K mainGlobals "NoRow" = some (some (.ref NR))) (x71 : K.lookup NR = some ⟨cNR, ddNR, .cls cdNR, slNR⟩) (x72 : PySem.W.typeIn K (.ref NR) = some (.type "type")) (x73 : PySem.W.subIn K (.ref C) (.ref NR) = some false) (x74 : (C == NR) = false)
    (x80 : PySem.W.findIn K (.ref C) "__class__" = some (some (.builtin "object.__class__"))) (x81 : PySem.W.specialIn K (.builtin "object.__class__") "__get__" = some (some (.builtin "getset_descriptor.__get__"))) (x82 : PySem.W.takesIn K (.builtin "object.__class__") = some true)
    (x83 : PySem.W.subIn K (.ref C) (.type "ValueError") = some true)
    {ga ge : Addr} {go ho : Option Addr} {gi hi : Array Value} {gn hn : Nat} {gs hs : Array (Option Value)} {gt : Tok} (x90 : PySem.W.nsIn K mainGlobals "GAP" = some (some (.ref ga))) (x91 : K.lookup ga = some ⟨.type "tuple", go, .seq gi gn, gs⟩) (x92 : gi.toList = [.str "gap" gt, .none, .ref ge]) (x93 : K.lookup ge = some ⟨.type "tuple", ho, .seq hi hn, hs⟩) (x94 : absAll hi.toList = some []) :
    ∃ fd : FuncData, (∀ (s : Shared) (v : Value), BindsTo s fd ⟨[v], []⟩ [("_law_script", v)]) ∧ ∀ base : Heap, K.In base → base.Ns mainGlobals mg → FnOk l.prog w K mg base CX0 7 fa fd ["_law_script"] (spLaw K) := by
  have e := hfa.symm.trans (PySem.W.mg_of X G a24)
  cases e
  have T : Txt K mg := { isinstance := PySem.W.mg_none_of X G z1, int := PySem.W.mg_none_of X G z2, bool := PySem.W.mg_none_of X G z3, str := PySem.W.mg_none_of X G z4, len := PySem.W.mg_none_of X G z5, all := PySem.W.mg_none_of X G z6, tuple := PySem.W.mg_none_of X G z7, range := PySem.W.mg_none_of X G z8, ValueError := PySem.W.mg_none_of X G z9 }
  have GS : Gs l.prog w K mg := { gp := ⟨_, _, ⟨_, PySem.W.mg_of X G x90, rfl⟩, gap_top x91 x92, top_tuple x93 x94 (by decide)⟩, ns := ⟨_, PySem.W.mg_of X G z100, ⟨_, rfl⟩⟩, fg := ⟨_, PySem.W.mg_of X G z101, ⟨_, rfl⟩⟩, w9 := ⟨_, ⟨_, PySem.W.mg_of X G z102, rfl⟩, top_tuple y102 x102 (by decide)⟩, w10 := ⟨_, ⟨_, PySem.W.mg_of X G z103, rfl⟩, top_tuple y103 x103 (by decide)⟩, pw := ⟨_, ⟨_, PySem.W.mg_of X G z104, rfl⟩, dk_mk y104 x104 e104 (by decide +kernel)⟩ }
  have F1 := fun_mk (st := s_is_whole) l1 c1 k1
  have b1 := F1.binds (ps := ["thing"]) fun _ _ _ _ _ _ us hl => match us, hl with | [_], _ => rfl
  have F2 := fun_mk (st := s_is_name) l2 c2 k2
  have b2 := F2.binds (ps := ["thing"]) fun _ _ _ _ _ _ us hl => match us, hl with | [_], _ => rfl
  have F3 := fun_mk (st := s_is_figures) l3 c3 k3
  have b3 := F3.binds (ps := ["text"]) fun _ _ _ _ _ _ us hl => match us, hl with | [_], _ => rfl
  have F4 := fun_mk (st := s_is_odd_sign) l4 c4 k4
  have b4 := F4.binds (ps := ["sign"]) fun _ _ _ _ _ _ us hl => match us, hl with | [_], _ => rfl
  have F5 := fun_mk (st := s_is_odd) l5 c5 k5
  have b5 := F5.binds (ps := ["thing"]) fun _ _ _ _ _ _ us hl => match us, hl with | [_], _ => rfl
  have F6 := fun_mk (st := s_is_word) l6 c6 k6
  have b6 := F6.binds (ps := ["thing"]) fun _ _ _ _ _ _ us hl => match us, hl with | [_], _ => rfl
  have F7 := fun_mk (st := s_is_two_names) l7 c7 k7
  have b7 := F7.binds (ps := ["thing"]) fun _ _ _ _ _ _ us hl => match us, hl with | [_], _ => rfl
  have F8 := fun_mk (st := s_is_note) l8 c8 k8
  have b8 := F8.binds (ps := ["word", "note"]) fun _ _ _ _ _ _ us hl => match us, hl with | [_, _], _ => rfl
  have F9 := fun_mk (st := s_many_parts) l9 c9 k9
  have b9 := F9.binds (ps := ["word"]) fun _ _ _ _ _ _ us hl => match us, hl with | [_], _ => rfl
  have F10 := fun_mk (st := s_bare) l10 c10 k10
  have b10 := F10.binds (ps := ["word", "note"]) fun _ _ _ _ _ _ us hl => match us, hl with | [_, _], _ => rfl
  have F11 := fun_mk (st := s_law_cell) l11 c11 k11
  have b11 := F11.binds (ps := ["_law_script", "_law_k"]) fun _ _ _ _ _ _ us hl => match us, hl with | [_, _], _ => rfl
  have F12 := fun_mk (st := s_law_names) l12 c12 k12
  have b12 := F12.binds (ps := ["_law_one", "_law_other"]) fun _ _ _ _ _ _ us hl => match us, hl with | [_, _], _ => rfl
  have F13 := fun_mk (st := s_law_odd) l13 c13 k13
  have b13 := F13.binds (ps := ["_law_cell_here"]) fun _ _ _ _ _ _ us hl => match us, hl with | [_], _ => rfl
  have F14 := fun_mk (st := s_law_number) l14 c14 k14
  have b14 := F14.binds (ps := ["_law_cell_here"]) fun _ _ _ _ _ _ us hl => match us, hl with | [_], _ => rfl
  have F15 := fun_mk (st := s_law_words) l15 c15 k15
  have b15 := F15.binds (ps := []) fun _ _ _ _ _ _ us hl => match us, hl with | [], _ => rfl
  have F16 := fun_mk (st := s_law_word) l16 c16 k16
  have b16 := F16.binds (ps := ["_law_cell_here"]) fun _ _ _ _ _ _ us hl => match us, hl with | [_], _ => rfl
  have F17 := fun_mk (st := s_law_right) l17 c17 k17
  have b17 := F17.binds (ps := ["_law_word_here", "_law_cell_here", "_law_names_here"]) fun _ _ _ _ _ _ us hl => match us, hl with | [_, _, _], _ => rfl
  have F18 := fun_mk (st := s_law_wrong) l18 c18 k18
  have b18 := F18.binds (ps := ["_law_word_here", "_law_cell_here", "_law_names_here"]) fun _ _ _ _ _ _ us hl => match us, hl with | [_, _, _], _ => rfl
  have F19 := fun_mk (st := s_law_note) l19 c19 k19
  have b19 := F19.binds (ps := ["_law_word_here", "_law_cell_here", "_law_names_here"]) fun _ _ _ _ _ _ us hl => match us, hl with | [_, _, _], _ => rfl
  have F20 := fun_mk (st := s_law_kinds) l20 c20 k20
  have b20 := F20.binds (ps := ["_law_e"]) fun _ _ _ _ _ _ us hl => match us, hl with | [_], _ => rfl
  have F21 := fun_mk (st := s_law_counted) l21 c21 k21
  have b21 := F21.binds (ps := ["_law_word_here", "_law_many"]) fun _ _ _ _ _ _ us hl => match us, hl with | [_, _], _ => rfl
  have F22 := fun_mk (st := s_law_made) l22 c22 k22
  have b22 := F22.binds (ps := ["_law_word_here", "_law_note_here", "_law_due"]) fun _ _ _ _ _ _ us hl => match us, hl with | [_, _, _], _ => rfl
  have F23 := fun_mk (st := s_law_round) l23 c23 k23
  have b23 := F23.binds (ps := ["_law_one", "_law_other", "_law_names_here"]) fun _ _ _ _ _ _ us hl => match us, hl with | [_, _, _], _ => rfl
  have F24 := fun_mk (st := s_law) l24 c24 k24
  have b24 := F24.binds (ps := ["_law_script"]) fun _ _ _ _ _ _ us hl => match us, hl with | [_], _ => rfl
  refine ⟨PySem.W.fnOf "law" "law" (defArgs s_law) (defBody s_law) (defScope s_law) .none kV24 dc24 pm24 an24 cd24 ct24, fun s v => .of_eq rfl, fun base _ _ => ?_⟩
  have x27 : PySem.W.nsOkIn K cdG.ns = true := by unfold PySem.W.nsOkIn; rw [x24]; show (esN.all fun e => match e.key with | .str _ _ => true | _ => false) = true; rw [← Array.all_toList]; exact x26
  have x33 : PySem.W.nsOkIn K cdC.ns = true := by unfold PySem.W.nsOkIn; rw [x30]; show (esM.all fun e => match e.key with | .str _ _ => true | _ => false) = true; rw [← Array.all_toList]; exact x31
  obtain ⟨tG, iG⟩ := tail_GE x11 x27 x25
  obtain ⟨xI, xO⟩ := excI_mk x7 x8 x9 x10 tG
  have xN := excIn_mk x7 x8 x9 x10 tG x33 x32
  have gC := PySem.W.mg_of X G x1
  have gG := PySem.W.mg_of X G x2
  have xC : ExC K C := ⟨xO, x16, x17, x18, x19, x15⟩
  have XG : ExcC K GE := ⟨x21, iG, x22⟩
  have sCG := x23
  have D : KdC K mg C GE ND NN NP NR := { n := { toExC := xC, ca := x80, cg := x81, ct := x82 }, gC := gC, gG := gG, gD := PySem.W.mg_of X G x40, gN := PySem.W.mg_of X G x50, gP := PySem.W.mg_of X G x60, gR := PySem.W.mg_of X G x70, kG := kit_ref x11 x21 x23 (fun h => nomatch h), kV := kit_ty x83, kD := kit_ref x41 x42 x43 fun _ => x44, kN := kit_ref x51 x52 x53 fun _ => x54, kP := kit_ref x61 x62 x63 fun _ => x64, kR := kit_ref x71 x72 x73 fun _ => x74 }
  have C_is_whole := callee_of (P := l.prog) (w := w) (base := base) (ok_whole F1 T) (PySem.W.mg_of X G a1) k1 b1
  have C_is_name := callee_of (P := l.prog) (w := w) (base := base) (ok_name F2 T GS) (PySem.W.mg_of X G a2) k2 b2
  have C_is_figures := callee_of (P := l.prog) (w := w) (base := base) (ok_fig F3 T GS) (PySem.W.mg_of X G a3) k3 b3
  have C_is_odd_sign := callee_of (P := l.prog) (w := w) (base := base) (ok_osign F4 T) (PySem.W.mg_of X G a4) k4 b4
  have C_is_odd := callee_of (P := l.prog) (w := w) (base := base) (ok_odd F5 T GS C_is_odd_sign C_is_name C_is_figures) (PySem.W.mg_of X G a5) k5 b5
  have C_is_word := callee_of (P := l.prog) (w := w) (base := base) (ok_word F6 T GS) (PySem.W.mg_of X G a6) k6 b6
  have C_is_two_names := callee_of (P := l.prog) (w := w) (base := base) (ok_two F7 T C_is_name) (PySem.W.mg_of X G a7) k7 b7
  have C_is_note := callee_of (P := l.prog) (w := w) (base := base) (ok_note F8 T C_is_whole C_is_name C_is_odd C_is_two_names) (PySem.W.mg_of X G a8) k8 b8
  have C_many_parts := calleex_of (P := l.prog) (w := w) (base := base) (ok_manyp F9 T GS C_is_word xN gC) (PySem.W.mg_of X G a9) k9 b9
  have C_bare := calleex_of (P := l.prog) (w := w) (base := base) (ok_bare F10 T GS C_many_parts C_is_note xN gC) (PySem.W.mg_of X G a10) k10 b10
  have C__law_cell := callee_of (P := l.prog) (w := w) (base := base) (ok_cell F11 T) (PySem.W.mg_of X G a11) k11 b11
  have C__law_names := callee_of (P := l.prog) (w := w) (base := base) (ok_names F12 T) (PySem.W.mg_of X G a12) k12 b12
  have C__law_odd := callee_of (P := l.prog) (w := w) (base := base) (ok_lodd F13 T) (PySem.W.mg_of X G a13) k13 b13
  have C__law_number := callee_of (P := l.prog) (w := w) (base := base) (ok_num F14 T) (PySem.W.mg_of X G a14) k14 b14
  have C__law_words := callee_of (P := l.prog) (w := w) (base := base) (ok_words F15 T) (PySem.W.mg_of X G a15) k15 b15
  have C__law_word := callee_of (P := l.prog) (w := w) (base := base) (ok_lword F16 T C__law_words) (PySem.W.mg_of X G a16) k16 b16
  have C__law_right := callee_of (P := l.prog) (w := w) (base := base) (ok_right F17 T C__law_odd C__law_number) (PySem.W.mg_of X G a17) k17 b17
  have C__law_wrong := callee_of (P := l.prog) (w := w) (base := base) (ok_wrong F18 T) (PySem.W.mg_of X G a18) k18 b18
  have C__law_note := callee_of (P := l.prog) (w := w) (base := base) (ok_lnote F19 T C__law_words C__law_right C__law_wrong) (PySem.W.mg_of X G a19) k19 b19
  have C__law_kinds := calleen_of (P := l.prog) (w := w) (base := base) (ok_kinds F20 T D) (PySem.W.mg_of X G a20) k20 b20
  have C__law_counted := callee_of (P := l.prog) (w := w) (base := base) (ok_counted F21 T C_many_parts C__law_kinds XG gG sCG) (PySem.W.mg_of X G a21) k21 b21
  have C__law_made := callee_of (P := l.prog) (w := w) (base := base) (ok_made F22 T C_bare C__law_kinds XG gG sCG) (PySem.W.mg_of X G a22) k22 b22
  have C__law_round := callee_of (P := l.prog) (w := w) (base := base) (ok_round F23 T C__law_word C__law_note C__law_words C__law_counted C__law_made) (PySem.W.mg_of X G a23) k23 b23
  exact ok_law F24 T GS C__law_names C__law_cell C__law_round C__law_made
theorem walk {l : PySem.W.OpenLaw} {q : Program} {loose : List Str} {XP : (Str → Option Value) → Heap → Prop} {YP : World → Heap → Prop} {d : DefRec} {K : Params → PySem.W.Frag} (hn : l.most = some 63) (hdf : d.params.defaults = [])
    (hY : ∀ (w : World) (h : Heap), YP w h → (K w.params).In h)
    (F : ∀ (w : World) (mg : Str → Option Value) (fa : Addr) (h : Heap), (K w.params).In h → h.Ns mainGlobals mg → mg d.name = some (.ref fa) →
      ∃ fd : FuncData, (∀ (s : Shared) (u : Value), BindsTo s fd ⟨[u], []⟩ [("_law_script", u)]) ∧ ∀ base : Heap, (K w.params).In base → base.Ns mainGlobals mg → FnOk l.prog w (K w.params) mg base CX0 7 fa fd ["_law_script"] (spLaw (K w.params))) :
    PySem.W.WalkO q loose XP YP l.row.toRowW d [] (fun f vs => PySem.call f vs) :=
  L2.walk_of (n := 63) (k := 7) (x := "_law_script") (CX := fun _ => CX0) (sp := fun w => spLaw (K w.params)) hn (by decide) hdf ⟨rfl, by decide, by decide⟩ hY F (fun _ _ a ns hl _ hS => ⟨a, ns, rfl, hS, hl, fun _ => rfl⟩) fun _ _ _ _ _ z => z
end K12
open PySem PySem.W PyProof.Rows
set_option maxRecDepth 100000 in
set_option maxHeartbeats 0 in
theorem PySem.Challenge.cw_gapscribe_k12_bare_forms_holds : PySem.Challenge.rw_gapscribe_k12_bare_forms.Holds := by
  w_on; o_law; k_head; (case hw => w_witness2)
  k_fill
  refine K12.walk (l := PySem.Challenge.rw_gapscribe_k12_bare_forms) rfl rfl (fun w h Y => PySem.W.kIn_of Y) ?F
  case F =>
    intro w mg fa h KX G hmg
    refine' K12.all_mk KX G hmg ?a1 ?l1 ?c1 ?k1 ?a2 ?l2 ?c2 ?k2 ?a3 ?l3 ?c3 ?k3 ?a4 ?l4 ?c4 ?k4 ?a5 ?l5 ?c5 ?k5 ?a6 ?l6 ?c6 ?k6 ?a7 ?l7 ?c7 ?k7 ?a8 ?l8 ?c8 ?k8 ?a9 ?l9 ?c9 ?k9 ?a10 ?l10 ?c10 ?k10 ?a11 ?l11 ?c11 ?k11 ?a12 ?l12 ?c12 ?k12 ?a13 ?l13 ?c13 ?k13 ?a14 ?l14 ?c14 ?k14 ?a15 ?l15 ?c15 ?k15 ?a16 ?l16 ?c16 ?k16 ?a17 ?l17 ?c17 ?k17 ?a18 ?l18 ?c18 ?k18 ?a19 ?l19 ?c19 ?k19 ?a20 ?l20 ?c20 ?k20 ?a21 ?l21 ?c21 ?k21 ?a22 ?l22 ?c22 ?k22 ?a23 ?l23 ?c23 ?k23 ?a24 ?l24 ?c24 ?k24 ?z1 ?z2 ?z3 ?z4 ?z5 ?z6 ?z7 ?z8 ?z9 ?z100 ?z101 ?z102 ?y102 ?x102 ?z103 ?y103 ?x103 ?z104 ?y104 ?x104 ?e104 ?x1 ?x2 ?x7 ?x8 ?x9 ?x10 ?x11 ?x24 ?x26 ?x25 ?x30 ?x31 ?x32 ?x14 ?x15 ?x16 ?x17 ?x18 ?x19 ?x21 ?x22 ?x23 ?x40 ?x41 ?x42 ?x43 ?x44 ?x50 ?x51 ?x52 ?x53 ?x54 ?x60 ?x61 ?x62 ?x63 ?x64 ?x70 ?x71 ?x72 ?x73 ?x74 ?x80 ?x81 ?x82 ?x83 ?x90 ?x91 ?x92 ?x93 ?x94
    (case a1 => k_is)
    (case l1 => k_is)
    (case c1 => k_is)
    (case k1 => k_is)
    (case a2 => k_is)
    (case l2 => k_is)
    (case c2 => k_is)
    (case k2 => k_is)
    (case a3 => k_is)
    (case l3 => k_is)
    (case c3 => k_is)
    (case k3 => k_is)
    (case a4 => k_is)
    (case l4 => k_is)
    (case c4 => k_is)
    (case k4 => k_is)
    (case a5 => k_is)
    (case l5 => k_is)
    (case c5 => k_is)
    (case k5 => k_is)
    (case a6 => k_is)
    (case l6 => k_is)
    (case c6 => k_is)
    (case k6 => k_is)
    (case a7 => k_is)
    (case l7 => k_is)
    (case c7 => k_is)
    (case k7 => k_is)
    (case a8 => k_is)
    (case l8 => k_is)
    (case c8 => k_is)
    (case k8 => k_is)
    (case a9 => k_is)
    (case l9 => k_is)
    (case c9 => k_is)
    (case k9 => k_is)
    (case a10 => k_is)
    (case l10 => k_is)
    (case c10 => k_is)
    (case k10 => k_is)
    (case a11 => k_is)
    (case l11 => k_is)
    (case c11 => k_is)
    (case k11 => k_is)
    (case a12 => k_is)
    (case l12 => k_is)
    (case c12 => k_is)
    (case k12 => k_is)
    (case a13 => k_is)
    (case l13 => k_is)
    (case c13 => k_is)
    (case k13 => k_is)
    (case a14 => k_is)
    (case l14 => k_is)
    (case c14 => k_is)
    (case k14 => k_is)
    (case a15 => k_is)
    (case l15 => k_is)
    (case c15 => k_is)
    (case k15 => k_is)
    (case a16 => k_is)
    (case l16 => k_is)
    (case c16 => k_is)
    (case k16 => k_is)
    (case a17 => k_is)
    (case l17 => k_is)
    (case c17 => k_is)
    (case k17 => k_is)
    (case a18 => k_is)
    (case l18 => k_is)
    (case c18 => k_is)
    (case k18 => k_is)
    (case a19 => k_is)
    (case l19 => k_is)
    (case c19 => k_is)
    (case k19 => k_is)
    (case a20 => k_is)
    (case l20 => k_is)
    (case c20 => k_is)
    (case k20 => k_is)
    (case a21 => k_is)
    (case l21 => k_is)
    (case c21 => k_is)
    (case k21 => k_is)
    (case a22 => k_is)
    (case l22 => k_is)
    (case c22 => k_is)
    (case k22 => k_is)
    (case a23 => k_is)
    (case l23 => k_is)
    (case c23 => k_is)
    (case k23 => k_is)
    (case a24 => k_is)
    (case l24 => k_is)
    (case c24 => k_is)
    (case k24 => k_is)
    (case z1 => k_is)
    (case z2 => k_is)
    (case z3 => k_is)
    (case z4 => k_is)
    (case z5 => k_is)
    (case z6 => k_is)
    (case z7 => k_is)
    (case z8 => k_is)
    (case z9 => k_is)
    (case z100 => k_is)
    (case z101 => k_is)
    (case z102 => k_is)
    (case y102 => k_is)
    (case x102 => rfl)
    (case z103 => k_is)
    (case y103 => k_is)
    (case x103 => rfl)
    (case z104 => k_is)
    (case y104 => k_is)
    (case x104 => rfl)
    (case e104 => (repeat (first | exact .nil | refine .cons ⟨_, rfl⟩ ?_)))
    (case x1 => k_is)
    (case x2 => k_is)
    (case x7 => k_is)
    (case x8 => rfl)
    (case x9 => rfl)
    (case x10 => rfl)
    (case x11 => k_is)
    (case x24 => k_is)
    (case x26 => rfl)
    (case x25 => k_is)
    (case x30 => k_is)
    (case x31 => rfl)
    (case x32 => k_is)
    (case x14 => k_is)
    (case x15 => k_is)
    (case x16 => k_is)
    (case x17 => k_is)
    (case x18 => k_is)
    (case x19 => k_is)
    (case x21 => k_is)
    (case x22 => k_is)
    (case x23 => k_is)
    (case x40 => k_is)
    (case x41 => k_is)
    (case x42 => k_is)
    (case x43 => k_is)
    (case x44 => rfl)
    (case x50 => k_is)
    (case x51 => k_is)
    (case x52 => k_is)
    (case x53 => k_is)
    (case x54 => rfl)
    (case x60 => k_is)
    (case x61 => k_is)
    (case x62 => k_is)
    (case x63 => k_is)
    (case x64 => rfl)
    (case x70 => k_is)
    (case x71 => k_is)
    (case x72 => k_is)
    (case x73 => k_is)
    (case x74 => rfl)
    (case x80 => k_is)
    (case x81 => k_is)
    (case x82 => k_is)
    (case x83 => k_is)
    (case x90 => k_is)
    (case x91 => k_is)
    (case x92 => rfl)
    (case x93 => k_is)
    (case x94 => rfl)
#print axioms PySem.Challenge.cw_gapscribe_k12_bare_forms_holds
