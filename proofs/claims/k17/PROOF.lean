import PyProof.Rows.All
import Wide.All
import OpenK.AllK
import Wide.FinOn
import Lean
import PyProof.EqAt
import PyProof.EqKinds
import PyProof.TupleCall
import PyProof.StrBlock2
import PySem.Challenge.RW_gapscribe_k17_names_and_bindings
set_option Elab.async false
set_option linter.all false
set_option maxRecDepth 100000
/-! THE HAND LAYER, for ints, bools, texts, own classes, LISTS and tuples (index, slices, in, append, pop ..), calls, loops. Paste it whole ahead of your own text; what your proof does not reach may be deleted. -/
namespace L2
open PySem PySem.Spec PyProof.Rows

/-- a key: an int or a str -/
abbrev Key := Sum Int Str
def keyIs : Key → Value → Bool
  | .inl k, v => Value.isInt k v
  | .inr x, v => Value.isStrOf x v
def keyH (w : World) : Key → Int
  | .inl k => hashInt k
  | .inr x => hashStr w x
theorem keyIs_shape : ∀ {k : Key} {v : Value}, keyIs k v = true → (∃ i t, k = Sum.inl i ∧ v = Value.int i t) ∨ (∃ x t, k = Sum.inr x ∧ v = Value.str x t)
  | .inl i, v, h => by
    obtain ⟨t, e⟩ := Value.isInt_shape (k := i) (v := v) h
    exact .inl ⟨i, t, rfl, e⟩
  | .inr x, v, h => by
    obtain ⟨t, e⟩ := Value.isStrOf_shape (x := x) (v := v) h
    exact .inr ⟨x, t, rfl, e⟩
theorem keyIs_int (i : Int) (t : Tok) : keyIs (.inl i) (.int i t) = true := by simp [keyIs, Value.isInt]
theorem keyIs_str (x : Str) (t : Tok) : keyIs (.inr x) (.str x t) = true := by simp [keyIs, Value.isStrOf]
theorem key_ll (a b : Int) : decide ((Sum.inl a : Key) = Sum.inl b) = (a == b) := by
  by_cases e : a = b
  · subst e; simp
  · have h : ¬ (Sum.inl a : Key) = Sum.inl b := fun q => e (Sum.inl.inj q)
    rw [decide_eq_false h]
    exact (beq_eq_false_iff_ne.mpr e).symm
theorem key_rr (a b : Str) : decide ((Sum.inr a : Key) = Sum.inr b) = decide (a = b) := by
  by_cases e : a = b
  · subst e; simp
  · have h : ¬ (Sum.inr a : Key) = Sum.inr b := fun q => e (Sum.inr.inj q)
    rw [decide_eq_false h, decide_eq_false e]
theorem key_lr (a : Int) (b : Str) : decide ((Sum.inl a : Key) = Sum.inr b) = false := decide_eq_false (fun q => nomatch q)
theorem key_rl (a : Str) (b : Int) : decide ((Sum.inr a : Key) = Sum.inl b) = false := decide_eq_false (fun q => nomatch q)

def mixKind (prog : Program) (w : World) : PySem.KeyKind prog w Key where
  is := keyIs
  hash := keyH w
  inj := fun v a b ha hb => by
    rcases keyIs_shape ha with ⟨i, t, rfl, rfl⟩ | ⟨x, t, rfl, rfl⟩
    · rcases keyIs_shape hb with ⟨j, u, rfl, e⟩ | ⟨y, u, rfl, e⟩
      · injection e with e1 _; rw [e1]
      · exact nomatch e
    · rcases keyIs_shape hb with ⟨j, u, rfl, e⟩ | ⟨y, u, rfl, e⟩
      · exact nomatch e
      · injection e with e1 _; rw [e1]
  byValue := fun k v h => by
    rcases keyIs_shape h with ⟨i, t, rfl, rfl⟩ | ⟨x, t, rfl, rfl⟩ <;> rfl
  pyHash := fun hv h => by
    rcases keyIs_shape hv with ⟨i, t, rfl, rfl⟩ | ⟨x, t, rfl, rfl⟩
    · exact wpAny_pyHash_int h
    · exact wpAny_pyHash_str h
  eqBool := fun hu hv h => by
    rcases keyIs_shape hu with ⟨i, t, rfl, rfl⟩ | ⟨x, t, rfl, rfl⟩
    · rcases keyIs_shape hv with ⟨j, u, rfl, rfl⟩ | ⟨y, u, rfl, rfl⟩
      · rw [key_ll] at h; exact wpAny_eqBool_int h
      · rw [key_lr] at h; exact SeqAt.EqAt.int_str i t y u _ _ _ _ h
    · rcases keyIs_shape hv with ⟨j, u, rfl, rfl⟩ | ⟨y, u, rfl, rfl⟩
      · rw [key_rl] at h; exact SeqAt.EqAt.str_int x t j u _ _ _ _ h
      · rw [key_rr] at h; exact wpAny_eqBool_str h
  «strs» := fun k x t v h => by
    rcases keyIs_shape h with ⟨i, u, rfl, e⟩ | ⟨y, u, rfl, e⟩
    · exact nomatch e
    · injection e with e1 _
      subst e1
      cases v <;> rfl

theorem mixKind_is (prog : Program) (w : World) (k : Key) (v : Value) : (mixKind prog w).is k v = keyIs k v := rfl
theorem mixKind_int (prog : Program) (w : World) (i : Int) (t : Tok) : (mixKind prog w).is (.inl i) (.int i t) = true := keyIs_int i t
theorem mixKind_str (prog : Program) (w : World) (x : Str) (t : Tok) : (mixKind prog w).is (.inr x) (.str x t) = true := keyIs_str x t
end L2

namespace L2
open PySem PySem.Spec PyProof.Rows

/-- a value, without the heap -/
inductive V where
  | non | bl (b : Bool) | int (i : Int) | str (x : Str) | byt (b : Array UInt8) | flt (b : UInt64) | ref (a : Addr) | ty (n : String)
  deriving DecidableEq

def RelV : V → Value → Prop
  | .non, u => u = Value.none
  | .bl b, u => u = Value.bool b
  | .int i, u => ∃ t, u = Value.int i t
  | .str x, u => ∃ t, u = Value.str x t
  | .byt b, u => ∃ t, u = Value.bytes b t
  | .flt b, u => ∃ t, u = Value.float b t
  | .ref a, u => u = Value.ref a
  | .ty n, u => u = Value.type n

abbrev Vals : List V → List Value → Prop := Paired RelV
theorem Vals.length {xs : List V} {us : List Value} (r : Vals xs us) : xs.length = us.length := Paired.length r
theorem Vals.get : ∀ {xs : List V} {us : List Value} {i : Nat} {x : V}, Vals xs us → xs[i]? = some x → ∃ u, us[i]? = some u ∧ RelV x u
  | _, _, _, _, .nil, e => by simp at e
  | _, _, 0, _, .cons r _, e => by simp at e; subst e; exact ⟨_, rfl, r⟩
  | _, _, i + 1, x, .cons _ t, e => by
    obtain ⟨u, h1, h2⟩ := Vals.get (i := i) (x := x) t (by simpa using e)
    exact ⟨u, by simpa using h1, h2⟩
theorem Vals.set {x : V} {u : Value} (r : RelV x u) : ∀ {xs : List V} {us : List Value} (i : Nat), Vals xs us → Vals (xs.set i x) (us.set i u)
  | _, _, _, .nil => .nil
  | _, _, 0, .cons _ t => .cons r t
  | _, _, i + 1, .cons q t => .cons q (Vals.set r i t)
theorem Vals.append : ∀ {xs ys : List V} {us ws : List Value}, Vals xs us → Vals ys ws → Vals (xs ++ ys) (us ++ ws)
  | _, _, _, _, .nil, s => s
  | _, _, _, _, .cons r t, s => .cons r (Vals.append t s)
theorem Vals.take : ∀ {xs : List V} {us : List Value} (n : Nat), Vals xs us → Vals (xs.take n) (us.take n)
  | _, _, 0, _ => .nil
  | _, _, _ + 1, .nil => .nil
  | _, _, n + 1, .cons r t => .cons r (Vals.take n t)
theorem Vals.drop : ∀ {xs : List V} {us : List Value} (n : Nat), Vals xs us → Vals (xs.drop n) (us.drop n)
  | _, _, 0, r => r
  | _, _, _ + 1, .nil => .nil
  | _, _, n + 1, .cons _ t => Vals.drop n t
theorem Vals.none_of : ∀ {xs : List V} {us : List Value} {i : Nat}, Vals xs us → xs[i]? = none → us[i]? = none := fun {xs us i} r e => by
  have h1 := r.length
  have h2 : xs.length ≤ i := List.getElem?_eq_none_iff.mp e
  exact List.getElem?_eq_none_iff.mpr (by omega)

def RelO : Option V → Option Value → Prop
  | some v, some u => RelV v u
  | none, none => True
  | _, _ => False
def KV {κ : Type} : List (κ × V) → List (κ × Value) → Prop := Paired fun (p : κ × V) (q : κ × Value) => p.1 = q.1 ∧ RelV p.2 q.2

/-- a key of a dict (00_mix): an int or a text -/
def kV : Key → V
  | .inl i => .int i
  | .inr x => .str x

/-- what stands at a tracked address -/
inductive HO where
  /-- a list -/
  | lst (xs : List V)
  /-- a tuple (never changes) -/
  | tup (xs : List V)
  /-- a dict whose keys are ints and texts; one whose keys are tuples of ints and texts (the empty one is both) -/
  | dK (kvs : List (Key × V)) | dT (kvs : List (List Key × V))
  /-- a set of ints: its members, its size -/
  | set (S : Int → Bool) (n : Nat)
  /-- an instance of the class at C, its dict at dx, its attributes -/
  | ins (C dx : Addr) (fs : List (Str × V))
  /-- the dict of the instance at x -/
  | own (x : Addr)
  /-- the dict of an exception -/
  | xd (fs : List (Str × V))
  /-- a bound method, f of x -/
  | met (f x : Addr)
  /-- a range object lo, lo + 1, .. below hi -/
  | rng (lo hi : Int)
  /-- a thing that is known to the object (the script; a dict while a loop walks it): read, never written while it is so -/
  | frz (o : Obj) (u : HO)
  /-- a code object's table -/
  | tbl (ps : Array Value)
  /-- any other thing, by what is true of its one object (a def of one's own: SetO a S n := HO.ext fun h => ..) -/
  | ext (φ : Heap → Prop)

abbrev Hp := Addr → Option HO
def upd (H : Hp) (a : Addr) (o : HO) : Hp := fun b => if b = a then some o else H b
theorem upd_same {H : Hp} {a : Addr} {o : HO} : upd H a o a = some o := by unfold upd; rw [if_pos rfl]
theorem upd_ne {H : Hp} {a b : Addr} {o : HO} (h : b ≠ a) : upd H a o b = H b := by unfold upd; rw [if_neg h]
theorem upd_upd {H : Hp} {a : Addr} {o u : HO} : upd (upd H a o) a u = upd H a u := by
  funext b; unfold upd; split <;> rfl
/-- two objects of different content stand apart -/
theorem ne_of {H : Hp} {a b : Addr} {o u : HO} (h : H a = some o) (h' : H b = some u) (d : o ≠ u) : a ≠ b := by
  intro e; subst e; rw [h] at h'; exact d (Option.some.inj h')
theorem ne_of_none {H : Hp} {a b : Addr} {o : HO} (h : H a = some o) (h' : H b = none) : a ≠ b := by
  intro e; subst e; rw [h] at h'; cases h'

section
variable (P : Program) (w : World)
def ObjOk (H : Hp) (h : Heap) (a : Addr) : HO → Prop
  | .lst xs => xs.length ≤ sizeLine ∧ ∃ (its : List Value) (n : Nat), Vals xs its ∧ h.get? a = some { cls := .type "list", data := .seq its.toArray n }
  | .tup xs => xs.length ≤ sizeLine ∧ ∃ its : List Value, Vals xs its ∧ IsTup h a its.toArray
  | .dK kvs => kvs.length ≤ sizeLine ∧ (a == sysModules) = false ∧ ∃ vs, KV kvs vs ∧ h.DictOf (mixKind P w) a vs
  | .dT kvs => kvs.length ≤ sizeLine ∧ (a == sysModules) = false ∧ ∃ xs : List (List Key × Addr × Value),
      Paired (fun (p : List Key × V) (q : List Key × Addr × Value) => p.1 = q.1 ∧ H q.2.1 = some (.tup (p.1.map kV)) ∧ RelV p.2 q.2.2) kvs xs ∧
      ∃ o es ep, h.get? a = some o ∧ o.ExactDict ∧ o.data = .dict es ep ∧ es.toList = xs.map (entryOfKey (tupleKind (mixKind P w))) ∧ (xs.map (·.1)).Nodup
  | .set S n => h.SetOf (intKind P w) a S n
  | .ins C dx fs => H dx = some (.own a) ∧ fs.length ≤ 1000 ∧ dx ≠ a ∧ h.get? a = some (PySem.W.instObj C dx) ∧
      ∃ mA, h.Ns1 dx mA ∧ (∀ f, RelO (fs.lookup f) (mA f)) ∧ PySem.Within mA (fs.map (·.1))
  | .own _ => ∃ o, h.get? a = some o
  | .xd fs => ∃ mA, h.Ns1 a mA ∧ ∀ f, RelO (fs.lookup f) (mA f)
  | .rng lo hi => ∃ t u v, h.get? a = some { cls := .type "range", data := .fields #[.int lo t, .int hi u, .int 1 v] }
  | .frz o u => h.get? a = some o ∧ ObjOk H h a u
  | .tbl ps => h.get? a = some { cls := .none, data := .fields ps }
  | .met f x => h.get? a = some (PySem.W.methodObj (.ref f) (.ref x))
  | .ext φ => φ h ∧ (∃ o, h.get? a = some o) ∧ ∀ h1 h2 : Heap, φ h1 → (∀ o, h1.get? a = some o → h2.get? a = some o) → φ h2
/-- the abstract heap is held -/
def HOk (H : Hp) (h : Heap) : Prop := ∀ a o, H a = some o → ObjOk P w H h a o
end

section
variable {P : Program} {w : World} {H H' : Hp} {h h' : Heap} {a : Addr} {o : HO}
theorem ObjOk.lt (x : ObjOk P w H h a o) : a < h.objs.size := by
  cases o with
  | lst xs => obtain ⟨_, _, _, _, e⟩ := x; exact Heap.lt_size e
  | tup xs => obtain ⟨_, _, _, p⟩ := x; exact p.lt
  | dK kvs => obtain ⟨_, _, _, _, o, _, _, e, _⟩ := x; exact Heap.lt_size e
  | dT kvs => obtain ⟨_, _, _, _, o, _, _, e, _⟩ := x; exact Heap.lt_size e
  | set S n => obtain ⟨o, _, _, _, e, _⟩ := x; exact Heap.lt_size e
  | ins C dx fs => obtain ⟨_, _, _, e, _⟩ := x; exact Heap.lt_size e
  | own y => obtain ⟨_, e⟩ := x; exact Heap.lt_size e
  | xd fs => obtain ⟨_, ⟨_, _, _, e, _⟩, _⟩ := x; exact Heap.lt_size e
  | rng lo hi => obtain ⟨_, _, _, e⟩ := x; exact Heap.lt_size e
  | frz ob u => obtain ⟨e, _⟩ := x; exact Heap.lt_size e
  | tbl ps => exact Heap.lt_size (show h.get? a = some _ from x)
  | met f y => exact Heap.lt_size (show h.get? a = some _ from x)
  | ext φ => obtain ⟨_, ⟨_, e⟩, _⟩ := x; exact Heap.lt_size e
theorem Paired.mapP {α β : Type} {F G : α → β → Prop} : ∀ {l₁ : List α} {l₂ : List β}, Paired F l₁ l₂ → (∀ a b, F a b → G a b) → Paired G l₁ l₂
  | _, _, .nil, _ => .nil
  | _, _, .cons r t, f => .cons (f _ _ r) (Paired.mapP t f)
theorem Paired.imp' {α β : Type} {F G : α → β → Prop} (f : ∀ a b, F a b → G a b) {l₁ : List α} {l₂ : List β} (r : Paired F l₁ l₂) : Paired G l₁ l₂ := Paired.mapP r f
/-- what an object's description leans on: its own object, its own dict, the tuples -/
theorem ObjOk.stay (x : ObjOk P w H h a o) (k : ∀ b u, (b = a ∨ H b = some (.own a)) → h.get? b = some u → h'.get? b = some u)
    (ho : ∀ b, H b = some (.own a) → H' b = some (.own a)) (ht : ∀ b xs, H b = some (.tup xs) → H' b = some (.tup xs)) : ObjOk P w H' h' a o := by
  induction o with
  | lst xs => obtain ⟨z, its, n, r, e⟩ := x; exact ⟨z, its, n, r, k _ _ (.inl rfl) e⟩
  | tup xs => obtain ⟨z, its, r, ob, e, c⟩ := x; exact ⟨z, its, r, ob, k _ _ (.inl rfl) e, c⟩
  | dK kvs => obtain ⟨z, y, vs, r, ob, es, ep, e, c⟩ := x; exact ⟨z, y, vs, r, ob, es, ep, k _ _ (.inl rfl) e, c⟩
  | dT kvs =>
    obtain ⟨z, y, xs, r, ob, es, ep, e, c⟩ := x
    exact ⟨z, y, xs, Paired.mapP r fun p q z => ⟨z.1, ht _ _ z.2.1, z.2.2⟩, ob, es, ep, k _ _ (.inl rfl) e, c⟩
  | set S n => obtain ⟨ob, es, ep, t, e, c⟩ := x; exact ⟨ob, es, ep, t, k _ _ (.inl rfl) e, c⟩
  | ins C dx fs =>
    obtain ⟨d, z, ne, e, mA, ⟨od, es, ep, e2, c⟩, r⟩ := x
    exact ⟨ho _ d, z, ne, k _ _ (.inl rfl) e, mA, ⟨od, es, ep, k _ _ (.inr d) e2, c⟩, r⟩
  | own y => obtain ⟨ob, e⟩ := x; exact ⟨ob, k _ _ (.inl rfl) e⟩
  | xd fs => obtain ⟨mA, ⟨od, es, ep, e, c⟩, r⟩ := x; exact ⟨mA, ⟨od, es, ep, k _ _ (.inl rfl) e, c⟩, r⟩
  | rng lo hi => obtain ⟨t, u, v, e⟩ := x; exact ⟨t, u, v, k _ _ (.inl rfl) e⟩
  | frz ob u ih => obtain ⟨e, q⟩ := x; exact ⟨k _ _ (.inl rfl) e, ih q⟩
  | tbl ps =>
    have e : h.get? a = some { cls := .none, data := .fields ps } := x
    show h'.get? a = some { cls := .none, data := .fields ps }
    exact k a _ (.inl rfl) e
  | met f y =>
    have e : h.get? a = some (PySem.W.methodObj (.ref f) (.ref y)) := x
    show h'.get? a = some (PySem.W.methodObj (.ref f) (.ref y))
    exact k a _ (.inl rfl) e
  | ext φ => obtain ⟨p, ⟨o, e⟩, st⟩ := x; exact ⟨st _ _ p fun o q => k _ _ (.inl rfl) q, ⟨o, k _ _ (.inl rfl) e⟩, st⟩
theorem HOk.lt (x : HOk P w H h) (e : H a = some o) : a < h.objs.size := (x a o e).lt
theorem HOk.fresh (x : HOk P w H h) (e : h.objs.size ≤ a) : H a = none := by
  cases q : H a with
  | none => rfl
  | some u => exact absurd (Nat.lt_of_lt_of_le (x.lt q) e) (Nat.lt_irrefl _)
/-- every object of the heap is kept -/
theorem HOk.kept (x : HOk P w H h) (k : ∀ b u, h.get? b = some u → h'.get? b = some u) : HOk P w H h' := fun a o e =>
  (x a o e).stay (fun b u _ q => k b u q) (fun _ q => q) fun _ _ q => q
/-- a new object is laid and tracked -/
theorem HOk.laid (x : HOk P w H h) (k : ∀ b u, h.get? b = some u → h'.get? b = some u) (hp : h.objs.size ≤ a) (new : ObjOk P w (upd H a o) h' a o) : HOk P w (upd H a o) h' := fun b u e => by
  have hn := x.fresh hp
  by_cases hb : b = a
  · subst hb; rw [upd_same] at e; cases e; exact new
  · rw [upd_ne hb] at e
    exact (x b u e).stay (fun c v _ q => k c v q) (fun c q => by rw [upd_ne (ne_of_none q hn)]; exact q) fun c xs q => by rw [upd_ne (ne_of_none q hn)]; exact q
end

/-- what may be read as u: it is u, or a known u -/
def Rd (H : Hp) (a : Addr) (u : HO) : Prop := H a = some u ∨ ∃ o, H a = some (.frz o u)
theorem Rd.of {H : Hp} {a : Addr} {u : HO} (h : H a = some u) : Rd H a u := .inl h
theorem Rd.ok {P : Program} {w : World} {H : Hp} {h : Heap} {a : Addr} {u : HO} (r : Rd H a u) (x : HOk P w H h) : ObjOk P w H h a u := by
  rcases r with r | ⟨o, r⟩
  · exact x a u r
  · obtain ⟨_, q⟩ := x a _ r
    exact q
/-- what may be written -/
def Mut : Option HO → Prop
  | some (.lst _) => True
  | some (.dK _) => True
  | some (.dT _) => True
  | some (.set _ _) => True
  | some (.ins _ _ _) => True
  | some (.ext _) => True
  | _ => False
section
variable {P : Program} {w : World} {H : Hp} {h h' : Heap} {x e : Addr} {o' : HO}
/-- the object at e is changed: x itself, or the dict of the instance x -/
theorem HOk.write (ok : HOk P w H h) (mu : Mut (H x)) (he : e = x ∨ H e = some (.own x)) (k : ∀ b u, b ≠ e → h.get? b = some u → h'.get? b = some u) (heo : ∃ u, h'.get? e = some u)
    (new : ObjOk P w (upd H x o') h' x o') : HOk P w (upd H x o') h' := fun b u q => by
  have nown : ∀ c y, H c = some (.own y) → c ≠ x := fun c y r z => by subst z; rw [r] at mu; exact mu
  have ntup : ∀ c xs, H c = some (.tup xs) → c ≠ x := fun c xs r z => by subst z; rw [r] at mu; exact mu
  by_cases hb : b = x
  · subst hb; rw [upd_same] at q; cases q; exact new
  · rw [upd_ne hb] at q
    by_cases hbe : b = e
    · have q' : H b = some (.own x) := by
        rcases he with z | z
        · exact absurd (hbe.trans z) hb
        · rw [hbe]; exact z
      rw [q] at q'; cases q'
      obtain ⟨v, hv⟩ := heo
      exact ⟨v, by rw [hbe]; exact hv⟩
    · refine (ok b u q).stay (fun c v hc r => k c v ?_ r) (fun c r => by rw [upd_ne (nown c b r)]; exact r) fun c xs r => by rw [upd_ne (ntup c xs r)]; exact r
      rcases hc with rfl | hc
      · exact hbe
      · rintro rfl
        rcases he with z | z
        · exact nown c b hc z
        · rw [hc] at z; cases z; exact hb rfl
end

/-! ### kept unless tracked; of the frames at fs (the callers') the slots may change (an exception that passes writes there); of the records at ex (iterators) nothing is said -/
structure Un (fs ex : List Addr) (H H' : Hp) (h h' : Heap) : Prop where
  keep : ∀ b o, h.get? b = some o → H b = none → b ∉ fs → b ∉ ex → h'.get? b = some o
  slot : ∀ b o, h.get? b = some o → H b = none → b ∈ fs → b ∉ ex → ∃ sl, h'.get? b = some { o with slots := sl }
  free : ∀ b o, h.get? b = some o → H b = none → b ∉ ex → H' b = none
  there : ∀ b o, h.get? b = some o → b ∉ ex → ∃ o', h'.get? b = some o'
  tups : ∀ b xs, H b = some (.tup xs) → H' b = some (.tup xs)
  frzs : ∀ b o u, H b = some (.frz o u) → H' b = some (.frz o u)
  tbls : ∀ b ps, H b = some (.tbl ps) → ∃ more, H' b = some (.tbl (ps ++ more))
section
variable {fs fs' ex ex' : List Addr} {H H1 H2 : Hp} {h h1 h2 h' : Heap} {a x e : Addr} {o : HO}
theorem Un.any (u : Un fs ex H H1 h h1) {b : Addr} {ob : Obj} (q : h.get? b = some ob) (n : H b = none) (hx : b ∉ ex) : ∃ sl, h1.get? b = some { ob with slots := sl } := by
  by_cases hb : b ∈ fs
  · exact u.slot b ob q n hb hx
  · exact ⟨ob.slots, u.keep b ob q n hb hx⟩
theorem Un.trans (a : Un fs ex H H1 h h1) (b : Un fs ex H1 H2 h1 h2) : Un fs ex H H2 h h2 where
  keep := fun c ob q n hc hx => b.keep c ob (a.keep c ob q n hc hx) (a.free c ob q n hx) hc hx
  slot := fun c ob q n hc hx => by
    obtain ⟨sl, e1⟩ := a.slot c ob q n hc hx
    obtain ⟨sl', e2⟩ := b.slot c _ e1 (a.free c ob q n hx) hc hx
    exact ⟨sl', e2⟩
  free := fun c ob q n hx => by
    obtain ⟨o', e1⟩ := a.there c ob q hx
    exact b.free c o' e1 (a.free c ob q n hx) hx
  there := fun c ob q hx => by
    obtain ⟨o', e1⟩ := a.there c ob q hx
    exact b.there c o' e1 hx
  tups := fun c xs q => b.tups c xs (a.tups c xs q)
  frzs := fun c ob xs q => b.frzs c ob xs (a.frzs c ob xs q)
  tbls := fun c ps q => by
    obtain ⟨m1, e1⟩ := a.tbls c ps q
    obtain ⟨m2, e2⟩ := b.tbls c _ e1
    exact ⟨m1 ++ m2, by rw [e2, Array.append_assoc]⟩
theorem Un.kept (k : ∀ b u, h.get? b = some u → h'.get? b = some u) : Un fs ex H H h h' :=
  ⟨fun b ob q _ _ _ => k b ob q, fun b ob q _ _ _ => ⟨ob.slots, k b ob q⟩, fun _ _ _ n _ => n, fun b ob q _ => ⟨ob, k b ob q⟩, fun _ _ q => q, fun _ _ _ q => q, fun _ ps q => ⟨#[], by rw [q]; simp⟩⟩
theorem Un.refl : Un fs ex H H h h := Un.kept fun _ _ q => q
theorem Un.laid (k : ∀ b u, h.get? b = some u → h'.get? b = some u) (hp : h.objs.size ≤ a) (hn : H a = none) : Un fs ex H (upd H a o) h h' where
  keep := fun b u q _ _ _ => k b u q
  slot := fun b u q _ _ _ => ⟨u.slots, k b u q⟩
  free := fun b u q n _ => by rw [upd_ne (Nat.ne_of_lt (Nat.lt_of_lt_of_le (Heap.lt_size q) hp))]; exact n
  there := fun b u q _ => ⟨u, k b u q⟩
  tups := fun b xs q => by rw [upd_ne (ne_of_none q hn)]; exact q
  frzs := fun b u xs q => by rw [upd_ne (ne_of_none q hn)]; exact q
  tbls := fun b ps q => ⟨#[], by rw [upd_ne (ne_of_none q hn), q]; simp⟩
theorem Un.write (mu : Mut (H x)) (he : e = x ∨ H e = some (.own x)) (k : ∀ b u, b ≠ e → h.get? b = some u → h'.get? b = some u) (heo : ∃ u, h'.get? e = some u) : Un fs ex H (upd H x o) h h' := by
  have hx : ∀ b, H b = none → b ≠ x := fun b n z => by subst z; rw [n] at mu; exact mu
  have hb : ∀ b, H b = none → b ≠ e := fun b n z => by
    subst z
    rcases he with r | r
    · exact hx b n r
    · rw [n] at r; cases r
  have hm : ∀ b u, H b = some u → ¬ Mut (some u) → b ≠ x := fun b u q nm z => by subst z; rw [q] at mu; exact nm mu
  refine ⟨fun b u q n _ _ => k b u (hb b n) q, fun b u q n _ _ => ⟨u.slots, k b u (hb b n) q⟩, fun b u q n _ => by rw [upd_ne (hx b n)]; exact n, fun b u q _ => ?_,
    fun b xs q => by rw [upd_ne (hm b _ q fun z => z)]; exact q, fun b u xs q => by rw [upd_ne (hm b _ q fun z => z)]; exact q, fun b ps q => ⟨#[], by rw [upd_ne (hm b _ q fun z => z), q]; simp⟩⟩
  by_cases hbe : b = e
  · subst hbe; exact heo
  · exact ⟨u, k b u hbe q⟩
theorem Un.mono (u : Un fs ex H H1 h h1) (hs : ∀ b ∈ fs, b ∈ fs') (hx : ∀ b ∈ ex, b ∈ ex') : Un fs' ex' H H1 h h1 :=
  ⟨fun b ob q n hb he => u.keep b ob q n (fun z => hb (hs b z)) fun z => he (hx b z), fun _ _ q n _ he => u.any q n fun z => he (hx _ z), fun b ob q n he => u.free b ob q n fun z => he (hx b z), fun b ob q he => u.there b ob q fun z => he (hx b z), u.tups, u.frzs, u.tbls⟩
end

/-! ### the heap without what is tracked -/
def trk (h : Heap) (H : Hp) : List Addr := (List.range h.objs.size).filter fun a => (H a).isSome
def hidT (h : Heap) (H : Hp) : Heap := PySem.W.hideAll h (trk h H)
theorem hidT_size (h : Heap) (H : Hp) : (hidT h H).objs.size = h.objs.size := PySem.W.hideAll_size _ _
theorem hidT_get {h : Heap} {H : Hp} {b : Addr} {o : Obj} (e : h.get? b = some o) (n : H b = none) : (hidT h H).get? b = some o :=
  PySem.W.hideAll_get _ e fun hm => by
    have q : (H b).isSome = true := (List.mem_filter.mp hm).2
    rw [n] at q; simp at q
theorem of_hidT {h : Heap} {H : Hp} {b : Addr} {o : Obj} (e : (hidT h H).get? b = some o) : h.get? b = some o ∧ H b = none := by
  have e' : h.get? b = some o := PySem.W.of_hideAll (trk h H) e
  refine ⟨e', ?_⟩
  cases q : H b with
  | none => rfl
  | some x =>
    have hm : b ∈ trk h H := List.mem_filter.mpr ⟨List.mem_range.mpr (Heap.lt_size e'), by simp [q]⟩
    have z : (hidT h H).get? b = none := PySem.W.hideAll_none (trk h H) hm
    rw [z] at e; cases e

/-! ### OpenK's ledger, filled with every new object but one -/
def allNews (g h : Heap) (L : Addr) : List (Addr × Obj) := (List.range h.objs.size).filterMap fun a => if a = L ∨ (g.get? a).isSome = true then none else (h.get? a).map fun o => (a, o)
theorem mem_allNews {g h : Heap} {L a : Addr} {o : Obj} (h1 : a ≠ L) (h2 : g.get? a = none) (h3 : h.get? a = some o) : (a, o) ∈ allNews g h L :=
  List.mem_filterMap.mpr ⟨a, List.mem_range.mpr (Heap.lt_size h3), by simp [h1, h2, h3]⟩
theorem of_mem_allNews {g h : Heap} {L : Addr} {p : Addr × Obj} (hp : p ∈ allNews g h L) : p.1 ≠ L ∧ g.get? p.1 = none ∧ h.get? p.1 = some p.2 := by
  obtain ⟨b, _, e⟩ := List.mem_filterMap.mp hp
  split at e
  · cases e
  · rename_i hn
    cases q : h.get? b with
    | none => rw [q] at e; simp at e
    | some u =>
      rw [q] at e
      simp only [Option.map_some, Option.some.injEq] at e
      subst e
      refine ⟨fun z => hn (.inl z), ?_, q⟩
      show g.get? b = none
      cases r : g.get? b with
      | none => rfl
      | some v => exact (hn (.inr (by simp [r]))).elim
def rest (g h : Heap) (L d : Addr) : List (Addr × Obj) := (allNews g h L).filter fun p => decide (p.1 ≠ d)
theorem rest_ne {g h : Heap} {L d : Addr} : ∀ p ∈ rest g h L d, p.1 ≠ d := fun p hp => of_decide_eq_true (List.mem_filter.mp hp).2
theorem mem_rest {g h : Heap} {L d a : Addr} {o : Obj} (h1 : a ≠ L) (h2 : g.get? a = none) (h3 : h.get? a = some o) (h4 : a ≠ d) : (a, o) ∈ rest g h L d :=
  List.mem_filter.mpr ⟨mem_allNews h1 h2 h3, decide_eq_true h4⟩
theorem news_all {g h : Heap} {L : Addr} : News g L h (allNews g h L) := fun p hp => let ⟨a, b, c⟩ := of_mem_allNews hp; ⟨c, a, b⟩
theorem news_at {g h : Heap} {L d : Addr} {o : Obj} (h1 : d ≠ L) (h2 : g.get? d = none) (h3 : h.get? d = some o) : News g L h ((d, o) :: rest g h L d) := fun p hp => by
  rcases List.mem_cons.mp hp with rfl | hp
  · exact ⟨h3, h1, h2⟩
  · exact news_all p (List.mem_filter.mp hp).1
/-- behind a rule that changed d alone: all else but the frame is kept -/
theorem kept_of_news {g h h' : Heap} {L d : Addr} {m : Str → Option Value} (k : ∀ b o, g.get? b = some o → h.get? b = some o) (F : Fr g L h' m) (N : News g L h' (rest g h L d)) :
    ∀ b o, b ≠ L → b ≠ d → h.get? b = some o → h'.get? b = some o := fun b o h1 h2 e => by
  cases q : g.get? b with
  | some u =>
    have := k b u q
    rw [e] at this; cases this
    exact F.keep b _ q
  | none => exact (N (b, o) (mem_rest h1 q e h2)).1
end L2

namespace L2
open PySem PySem.Spec PyProof.Rows

/-- the module's facts, over the base: the heap at the law's entry without what is tracked there -/
structure Mod (K : PySem.W.Frag) (mg : Str → Option Value) (base : Heap) : Prop where
  kin : K.In base
  glob : base.Ns mainGlobals mg
  blt : ∃ mb, base.Ns builtinsNs mb ∧ ∀ x : Str, x ≠ "__name__" → mb x = bootBuiltins x
  nolimit : base.NoLimit

/-- the context: a def's body (or a comprehension's block) running. base: fixed through the whole law; s₀, H₀: the entry; outer: the frames whose slots others may change (a def's callers); stack: all frames that run;
   ex: iterators that were made ahead of the entry and are walked here (a comprehension's); fn: the names whose cells were made at the entry (a def: all; a comprehension's block: its own); calm: not within an except suite; pn: pins that every state bears; xe: what is wanted of an exception that leaves the code -/
structure Cx where
  prog : Program
  w : World
  K : PySem.W.Frag
  mg : Str → Option Value
  base : Heap
  A : Around
  N : List Str
  s₀ : Shared
  H₀ : Hp
  env : Env
  outer : List Env
  stack : List Env
  ex : List Addr
  fn : Str → Bool
  calm : Bool
  pn : List (Addr × Obj)
  xe : Value → Shared → Prop
/-- the callers' frames -/
def frs (l : List Env) : List Addr := l.filterMap (·.frame)
abbrev Cx.fs (X : Cx) : List Addr := frs X.outer

def Vis (sc : Scope) (x : Str) : Prop := sc.names.lookup x = some .local ∨ sc.names.lookup x = some .cell ∨ sc.names.lookup x = some .free
def Loc (sc : Scope) (x : Str) : Prop := sc.names.lookup x = some .local ∨ sc.names.lookup x = some .cell
def Look (env : Env) (h : Heap) (m : Str → Option Value) (x : Str) (u : Value) : Prop :=
  (env.kindOf x = some .local ∧ m x = some u) ∨ ((env.kindOf x = some .cell ∨ env.kindOf x = some .free) ∧ ∃ c, env.cells.lookup x = some c ∧ h.IsCell c (some u))

structure Cx.Ok (X : Cx) : Prop where
  mod : Mod X.K X.mg X.base
  kind : X.env.scope.kind = .function
  glob : X.env.globals = mainGlobals
  blt : X.env.builtins = builtinsNs
  above : X.s₀.heap.objs.size ≤ X.env.locals
  inj : ∀ x y c, X.env.cells.lookup x = some c → X.env.cells.lookup y = some c → x = y
  has : ∀ x, (X.env.kindOf x = some .cell ∨ X.env.kindOf x = some .free) → ∃ c, X.env.cells.lookup x = some c
  cab : ∀ x c, X.fn x = true → X.env.cells.lookup x = some c → X.s₀.heap.objs.size ≤ c
  hd : X.calm = true → X.A.handled = none
  frames : X.A.frames = some X.stack
  stk : X.stack = X.outer ∨ (X.stack = X.env :: X.outer ∧ X.env.frame = some X.env.locals)
  exf : ∀ b ∈ X.ex, b ≠ X.env.locals ∧ ∀ x c, X.env.cells.lookup x = some c → c ≠ b
  bs : ∀ b o, X.base.get? b = some o → X.s₀.heap.get? b = some o ∧ X.H₀ b = none
  bsz : X.base.objs.size ≤ X.s₀.heap.objs.size
  noex : ∀ b o, X.base.get? b = some o → b ∉ X.ex
  exfs : ∀ b ∈ X.ex, b ∉ X.fs
  funs : X.s₀.heap.FunFrames X.base X.outer
  frf : ∀ b ∈ X.fs, X.H₀ b = none

structure Inv (X : Cx) (pins : List (Addr × Obj)) (σ : List (Option V)) (H : Hp) (s : Shared) : Prop where
  ok : X.Ok
  os : s.os = X.s₀.os
  bare : AllBare s.gens
  base : Un X.fs X.ex X.H₀ H X.s₀.heap s.heap
  loc : ∃ m, s.heap.Ns X.env.locals m ∧ ∀ (i : Nat) (x : Str) (v : V), X.N[i]? = some x → σ[i]? = some (some v) → Vis X.env.scope x → ∃ u, RelV v u ∧ Look X.env s.heap m x u
  cell : ∀ x c, X.env.cells.lookup x = some c → ∃ v, s.heap.IsCell c v
  free : H X.env.locals = none
  freeC : ∀ x c, X.env.cells.lookup x = some c → H c = none
  pin : ∀ p ∈ X.pn ++ pins, s.heap.get? p.1 = some p.2 ∧ H p.1 = none ∧ p.1 ≠ X.env.locals ∧ p.1 ∉ X.fs ∧ ∀ v, p.2.data ≠ .cell v
  hok : HOk X.prog X.w H s.heap
  len : σ.length = X.N.length

section
variable {X : Cx} {pins : List (Addr × Obj)} {σ : List (Option V)} {H H' : Hp} {s : Shared} {h' : Heap}

theorem Cx.Ok.nofr (ok : X.Ok) {b : Addr} {o : Obj} (e : X.base.get? b = some o) : b ∉ X.fs := fun hb => by
  have := (ok.funs.mem hb).1
  rw [e] at this; cases this
theorem Inv.bs (I : Inv X pins σ H s) : ∀ b o, X.base.get? b = some o → s.heap.get? b = some o ∧ H b = none := fun b o e =>
  ⟨I.base.keep b o (I.ok.bs b o e).1 (I.ok.bs b o e).2 (I.ok.nofr e) (I.ok.noex b o e), I.base.free b o (I.ok.bs b o e).1 (I.ok.bs b o e).2 (I.ok.noex b o e)⟩
theorem Inv.bk (I : Inv X pins σ H s) : ∀ b o, X.base.get? b = some o → s.heap.get? b = some o := fun b o e => (I.bs b o e).1
theorem Inv.mod (I : Inv X pins σ H s) : Mod X.K X.mg X.base := I.ok.mod
theorem Inv.kIn (I : Inv X pins σ H s) : X.K.In s.heap := I.ok.mod.kin.keeps I.bk
theorem Inv.nolimit (I : Inv X pins σ H s) : s.heap.NoLimit := I.ok.mod.nolimit.keeps I.bk
/-- the frame over the base: for OpenK's rules (K.In X.base is I.mod.kin) -/
theorem Inv.fr (I : Inv X pins σ H s) : ∃ m, Fr X.base X.env.locals s.heap m :=
  let ⟨m, hn, _⟩ := I.loc
  ⟨m, hn, I.bk, Nat.le_trans I.ok.bsz I.ok.above⟩
theorem Inv.lt (I : Inv X pins σ H s) : X.env.locals < s.heap.objs.size := let ⟨_, hn, _⟩ := I.loc; hn.lt
theorem Inv.sz (I : Inv X pins σ H s) : X.s₀.heap.objs.size ≤ s.heap.objs.size := Nat.le_trans I.ok.above (Nat.le_of_lt I.lt)
theorem Inv.nofs (I : Inv X pins σ H s) {a : Addr} (h : s.heap.objs.size ≤ a) : a ∉ X.fs := fun hb => by
  obtain ⟨_, o, ho, _⟩ := I.ok.funs.mem hb
  exact absurd (Nat.lt_of_lt_of_le (Heap.lt_size ho) (Nat.le_trans I.sz h)) (Nat.lt_irrefl _)
theorem Inv.cne (I : Inv X pins σ H s) : ∀ x c, X.env.cells.lookup x = some c → c ≠ X.env.locals := fun x c e z => by
  obtain ⟨v, o, ho, hd⟩ := I.cell x c e
  obtain ⟨m, ⟨o', es, ep, ho', hd', _⟩, _⟩ := I.loc
  rw [z, ho'] at ho; cases ho; rw [hd'] at hd; cases hd
theorem Inv.funs (I : Inv X pins σ H s) : s.heap.FunFrames X.base X.outer := by
  have all : ∀ (l : List Env), (∀ b ∈ frs l, b ∈ X.fs) → X.s₀.heap.FunFrames X.base l → s.heap.FunFrames X.base l := by
    intro l
    induction l with
    | nil => intro _ _; trivial
    | cons env r ih =>
      intro hs hl
      obtain ⟨hk, ⟨L, o, hf, hn, ho, hd⟩, hr⟩ := hl
      have hL : L ∈ X.fs := hs L (by unfold frs; rw [List.filterMap_cons, hf]; exact List.mem_cons_self)
      obtain ⟨sl, e⟩ := I.base.slot L o ho (I.ok.frf L hL) hL fun z => I.ok.exfs L z hL
      exact ⟨hk, ⟨L, _, hf, hn, e, hd⟩, ih (fun b hb => hs b (by unfold frs; rw [List.filterMap_cons, hf]; exact List.mem_cons_of_mem _ hb)) hr⟩
  exact all X.outer (fun _ hb => hb) I.ok.funs

/-- the frames that run, for a call -/
theorem Inv.stack (I : Inv X pins σ H s) : s.heap.FunFrames X.base X.stack := by
  rcases I.ok.stk with e | ⟨e, hf⟩
  · rw [e]; exact I.funs
  · rw [e]
    obtain ⟨m, hn, _⟩ := I.loc
    refine .cons (by rw [I.ok.kind]; decide) hf hn ?_ I.funs
    exact Heap.get?_none_of_le (Nat.le_trans I.ok.bsz I.ok.above)
theorem Inv.stkSub (I : Inv X pins σ H s) : ∀ b ∈ frs X.stack, b ∈ X.env.locals :: X.fs := fun b hb => by
  rcases I.ok.stk with e | ⟨e, hf⟩
  · rw [e] at hb; exact List.mem_cons_of_mem _ hb
  · rw [e] at hb
    unfold frs at hb
    rw [List.filterMap_cons, hf] at hb
    exact hb
theorem Inv.stkFree (I : Inv X pins σ H s) : ∀ b ∈ frs X.stack, H b = none := fun b hb => by
  rcases List.mem_cons.mp (I.stkSub b hb) with e | hb
  · rw [e]; exact I.free
  · obtain ⟨_, o, ho, _⟩ := I.ok.funs.mem hb
    exact I.base.free b o ho (I.ok.frf b hb) fun z => I.ok.exfs b z hb

/-- THE STEP: the untracked objects but the frame and the records at ch are kept (the callers' frames up to slots), the frame's map is kept, the new abstract heap is held -/
theorem Inv.step {g' : Array GenState} {t' : Nat} {d' : Drawn} {ch : List Addr} (I : Inv X pins σ H s)
    (hch : ∀ b ∈ ch, (b ∈ X.ex ∨ X.s₀.heap.objs.size ≤ b) ∧ b ≠ X.env.locals ∧ (∀ x c, X.env.cells.lookup x = some c → c ≠ b) ∧ ∀ p ∈ X.pn ++ pins, p.1 ≠ b)
    (keep : ∀ b o, b ≠ X.env.locals → b ∉ X.fs → b ∉ ch → s.heap.get? b = some o → H b = none → h'.get? b = some o)
    (slot : ∀ b o, b ≠ X.env.locals → b ∈ X.fs → b ∉ ch → s.heap.get? b = some o → H b = none → ∃ sl, h'.get? b = some { o with slots := sl }) (free : ∀ b o, b ∉ ch → s.heap.get? b = some o → H b = none → H' b = none)
    (there : ∀ b o, b ∉ ch → s.heap.get? b = some o → ∃ o', h'.get? b = some o')
    (tups : ∀ b xs, H b = some (.tup xs) → H' b = some (.tup xs)) (frzs : ∀ b o u, H b = some (.frz o u) → H' b = some (.frz o u)) (tbls : ∀ b ps, H b = some (.tbl ps) → ∃ more, H' b = some (.tbl (ps ++ more)))
    (ns : ∀ m, s.heap.Ns X.env.locals m → h'.Ns X.env.locals m) (hok : HOk X.prog X.w H' h') (hg : AllBare g') :
    Inv X pins σ H' { s with heap := h', gens := g', drawn := d', toks := t' } := by
  have neL : ∀ b o, X.s₀.heap.get? b = some o → b ≠ X.env.locals := fun b o e => Nat.ne_of_lt (Nat.lt_of_lt_of_le (Heap.lt_size e) I.ok.above)
  have neC : ∀ b o, X.s₀.heap.get? b = some o → b ∉ X.ex → b ∉ ch := fun b o e hx hb => by
    rcases (hch b hb).1 with z | z
    · exact hx z
    · exact absurd (Nat.lt_of_lt_of_le (Heap.lt_size e) z) (Nat.lt_irrefl _)
  have cellK : ∀ x c, X.env.cells.lookup x = some c → ∀ v, s.heap.IsCell c v → h'.IsCell c v := fun x c e v ⟨o, ho, hd⟩ => by
    have nch : c ∉ ch := fun z => (hch c z).2.2.1 x c e rfl
    by_cases hc : c ∈ X.fs
    · obtain ⟨sl, q⟩ := slot c o (I.cne x c e) hc nch ho (I.freeC x c e)
      exact ⟨_, q, hd⟩
    · exact ⟨o, keep c o (I.cne x c e) hc nch ho (I.freeC x c e), hd⟩
  refine ⟨I.ok, I.os, hg, ⟨fun b o e n hb hx => ?_, fun b o e n hb hx => ?_, fun b o e n hx => ?_, fun b o e hx => ?_, fun b xs e => tups b xs (I.base.tups b xs e), fun b o xs e => frzs b o xs (I.base.frzs b o xs e), fun b ps e => ?_⟩, ?_, fun x c e => ?_, ?_, fun x c e => ?_, fun p hp => ?_, hok, I.len⟩
  · exact keep b o (neL b o e) hb (neC b o e hx) (I.base.keep b o e n hb hx) (I.base.free b o e n hx)
  · obtain ⟨sl, e1⟩ := I.base.slot b o e n hb hx
    obtain ⟨sl', e2⟩ := slot b _ (neL b o e) hb (neC b o e hx) e1 (I.base.free b o e n hx)
    exact ⟨sl', e2⟩
  · obtain ⟨o', e1⟩ := I.base.there b o e hx
    exact free b o' (neC b o e hx) e1 (I.base.free b o e n hx)
  · obtain ⟨o', e1⟩ := I.base.there b o e hx
    exact there b o' (neC b o e hx) e1
  · obtain ⟨m1, e1⟩ := I.base.tbls b ps e
    obtain ⟨m2, e2⟩ := tbls b _ e1
    exact ⟨m1 ++ m2, by rw [e2, Array.append_assoc]⟩
  · obtain ⟨m, hn, hl⟩ := I.loc
    refine ⟨m, ns m hn, fun i x v e1 e2 e3 => ?_⟩
    obtain ⟨u, r, l⟩ := hl i x v e1 e2 e3
    refine ⟨u, r, ?_⟩
    rcases l with l | ⟨k, c, e, z⟩
    · exact .inl l
    · exact .inr ⟨k, c, e, cellK x c e _ z⟩
  · obtain ⟨v, z⟩ := I.cell x c e
    exact ⟨v, cellK x c e v z⟩
  · obtain ⟨m, ⟨o, _, _, ho, _⟩, _⟩ := I.loc
    exact free _ o (fun z => (hch _ z).2.1 rfl) ho I.free
  · obtain ⟨v, o, ho, hd⟩ := I.cell x c e
    exact free c o (fun z => (hch c z).2.2.1 x c e rfl) ho (I.freeC x c e)
  · obtain ⟨e, n, ne, nf, d⟩ := I.pin p hp
    have nch : p.1 ∉ ch := fun z => (hch p.1 z).2.2.2 p hp rfl
    exact ⟨keep p.1 p.2 ne nf nch e n, free p.1 p.2 nch e n, ne, nf, d⟩
/-- .. where the frame's own object is kept too -/
theorem Inv.un {t' : Nat} (I : Inv X pins σ H s) (u : Un X.fs [] H H' s.heap h') (hok : HOk X.prog X.w H' h') : Inv X pins σ H' { s with heap := h', toks := t' } := by
  obtain ⟨m, ⟨o, es, ep, ho, r⟩, _⟩ := id I.loc
  obtain ⟨sl, hL⟩ := u.any ho I.free (by simp)
  exact I.step (g' := s.gens) (d' := s.drawn) (ch := []) (fun _ z => nomatch z) (fun b o _ hb _ e n => u.keep b o e n hb (by simp)) (fun b o _ hb _ e n => u.slot b o e n hb (by simp)) (fun b o _ e n => u.free b o e n (by simp)) (fun b o _ e => u.there b o e (by simp)) u.tups u.frzs u.tbls (fun m' hm => by
    obtain ⟨o', es', ep', ho', r'⟩ := hm
    rw [ho] at ho'; cases ho'
    exact ⟨_, es', ep', hL, r'⟩) hok I.bare
/-- behind a call (or a comprehension's block): the slots of this frame may have changed too, the records at ch may have turned -/
theorem Inv.call {g' : Array GenState} {t' : Nat} {d' : Drawn} {ch : List Addr} (I : Inv X pins σ H s) (u : Un (frs X.stack) ch H H' s.heap h') (hok : HOk X.prog X.w H' h') (hg : AllBare g')
    (hch : ∀ b ∈ ch, (b ∈ X.ex ∨ X.s₀.heap.objs.size ≤ b) ∧ b ≠ X.env.locals ∧ (∀ x c, X.env.cells.lookup x = some c → c ≠ b) ∧ ∀ p ∈ X.pn ++ pins, p.1 ≠ b) :
    Inv X pins σ H' { s with heap := h', gens := g', drawn := d', toks := t' } := by
  obtain ⟨m, ⟨o, es, ep, ho, r⟩, _⟩ := id I.loc
  obtain ⟨sl, hL⟩ := u.any ho I.free fun z => (hch _ z).2.1 rfl
  exact I.step (ch := ch) hch (fun b o hL hb hc e n => u.keep b o e n (fun z => (List.mem_cons.mp (I.stkSub b z)).elim hL hb) hc) (fun b o _ _ hc e n => u.any e n hc) (fun b o hc e n => u.free b o e n hc) (fun b o hc e => u.there b o e hc) u.tups u.frzs u.tbls (fun m' hm => by
    obtain ⟨o', es', ep', ho', r'⟩ := hm
    rw [ho] at ho'; cases ho'
    exact ⟨_, es', ep', hL, r'⟩) hok hg
/-- an untracked record of ours (an iterator) has turned -/
theorem Inv.turned {t' : Nat} {it : Addr} (I : Inv X pins σ H s) (k : ∀ b o, b ≠ it → s.heap.get? b = some o → h'.get? b = some o) (hn : H it = none) (hL : it ≠ X.env.locals)
    (h1 : it ∈ X.ex ∨ X.s₀.heap.objs.size ≤ it) (h2 : ∀ x c, X.env.cells.lookup x = some c → c ≠ it) (h3 : ∀ p ∈ X.pn ++ pins, p.1 ≠ it) : Inv X pins σ H { s with heap := h', toks := t' } := by
  have nit : ∀ b u, H b = some u → b ≠ it := fun b u e z => by rw [z, hn] at e; cases e
  refine I.step (g' := s.gens) (d' := s.drawn) (ch := [it]) (fun b hb => ?_) (fun b o _ _ hc e _ => k b o (fun z => hc (by simp [z])) e) (fun b o _ _ hc e _ => ⟨o.slots, k b o (fun z => hc (by simp [z])) e⟩) (fun _ _ _ _ n => n)
    (fun b o hc e => ⟨o, k b o (fun z => hc (by simp [z])) e⟩) (fun _ _ e => e) (fun _ _ _ e => e) (fun b ps e => ⟨#[], by rw [e]; simp⟩) (fun m hm => ?_) (fun b u e => ?_) I.bare
  · have e : b = it := by simpa using hb
    subst e
    exact ⟨h1, hL, h2, h3⟩
  · obtain ⟨o, es, ep, ho, r⟩ := hm
    exact ⟨o, es, ep, k _ o (Ne.symm hL) ho, r⟩
  · refine (I.hok b u e).stay (fun c v hc q => k c v ?_ q) (fun _ q => q) fun _ _ q => q
    rcases hc with z | z
    · rw [z]; exact nit b u e
    · exact nit c _ z
theorem Inv.tok (I : Inv X pins σ H s) (t : Nat) : Inv X pins σ H { s with toks := t } := I.un (h' := s.heap) (t' := t) Un.refl I.hok
/-- all objects kept -/
theorem Inv.kept {t' : Nat} (I : Inv X pins σ H s) (k : ∀ b u, s.heap.get? b = some u → h'.get? b = some u) : Inv X pins σ H { s with heap := h', toks := t' } := I.un (Un.kept k) (I.hok.kept k)
/-- a new object laid and tracked -/
theorem Inv.laid {a : Addr} {o : HO} {t' : Nat} (I : Inv X pins σ H s) (k : ∀ b u, s.heap.get? b = some u → h'.get? b = some u) (hp : s.heap.objs.size ≤ a) (new : ObjOk X.prog X.w (upd H a o) h' a o) :
    Inv X pins σ (upd H a o) { s with heap := h', toks := t' } := I.un (Un.laid k hp (I.hok.fresh hp)) (I.hok.laid k hp new)
/-- an object written -/
theorem Inv.write {x e : Addr} {o : HO} {t' : Nat} (I : Inv X pins σ H s) (mu : Mut (H x)) (he : e = x ∨ H e = some (.own x)) (k : ∀ b u, b ≠ e → s.heap.get? b = some u → h'.get? b = some u) (heo : ∃ u, h'.get? e = some u)
    (new : ObjOk X.prog X.w (upd H x o) h' x o) : Inv X pins σ (upd H x o) { s with heap := h', toks := t' } := I.un (Un.write mu he k heo) (I.hok.write mu he k heo new)
/-- forgetting slots, pins -/
theorem Inv.weak {σ' : List (Option V)} (I : Inv X pins σ H s) (hl : σ'.length = σ.length) (w : ∀ (i : Nat) v, σ'[i]? = some (some v) → σ[i]? = some (some v)) : Inv X pins σ' H s :=
  ⟨I.ok, I.os, I.bare, I.base, let ⟨m, hn, hl'⟩ := I.loc; ⟨m, hn, fun i x v e1 e2 e3 => hl' i x v e1 (w i v e2) e3⟩, I.cell, I.free, I.freeC, I.pin, I.hok, hl.trans I.len⟩
theorem Inv.pins_of {pins' : List (Addr × Obj)} (I : Inv X pins σ H s) (h : ∀ p ∈ pins', s.heap.get? p.1 = some p.2 ∧ H p.1 = none ∧ p.1 ≠ X.env.locals ∧ p.1 ∉ X.fs ∧ ∀ v, p.2.data ≠ .cell v) : Inv X pins' σ H s :=
  ⟨I.ok, I.os, I.bare, I.base, I.loc, I.cell, I.free, I.freeC, fun p hp => (List.mem_append.mp hp).elim (fun z => I.pin p (List.mem_append_left _ z)) (h p), I.hok, I.len⟩

theorem nodup_ix {N : List Str} (hN : N.Nodup) {i j : Nat} {x : Str} (a : N[i]? = some x) (b : N[j]? = some x) : i = j := by
  obtain ⟨h1, e1⟩ := List.getElem?_eq_some_iff.mp a
  obtain ⟨h2, e2⟩ := List.getElem?_eq_some_iff.mp b
  exact (List.getElem_inj hN).mp (e1.trans e2.symm)

/-- a name is stored; what changed -/
theorem store_ok2 {M : Model} {A : Around} {E : Value → Shared → Prop} {i : Nat} {x : Str} {v : V} {u : Value} {Q : Unit → Shared → Prop} (I : Inv X pins σ H s) (hN : X.N.Nodup) (hi : X.N[i]? = some x) (hx : Loc X.env.scope x) (r : RelV v u)
    (h : ∀ s', Inv X pins (σ.set i (some v)) H s' → (∃ a, Heap.SameBut a s.heap s'.heap ∧ (a = X.env.locals ∨ X.env.cells.lookup x = some a)) → Q () s') (hf : X.fn x = true ∨ X.env.scope.names.lookup x = some .local := by first | exact .inl rfl | exact .inr rfl | assumption) : wpAny M A (storeName X.env x u) Q E s := by
  obtain ⟨m, hn, hl⟩ := id I.loc
  have hcls : (X.env.scope.kind == .class || (X.env.scope.kind == .module && X.env.locals != X.env.globals)) = false := by rw [I.ok.kind]; rfl
  have hiσ : i < σ.length := by rw [I.len]; exact (List.getElem?_eq_some_iff.mp hi).1
  have cne := I.cne
  have tracked : ∀ {a : Addr} {h' : Heap}, (∃ o, s.heap.get? a = some o ∧ H a = none) → Heap.SameBut a s.heap h' → HOk X.prog X.w H h' := fun {a h'} ha hs b ob e => by
    obtain ⟨_, _, hfree⟩ := ha
    refine (I.hok b ob e).stay (fun c w' hc q => (hs.2 c ?_).trans q) (fun _ q => q) fun _ _ q => q
    rintro rfl
    rcases hc with rfl | hc
    · rw [hfree] at e; cases e
    · rw [hfree] at hc; cases hc
  rcases hx with hk | hk
  · refine wpAny_storeName_local hk hn (fun h' hn' hs => ?_) hcls
    obtain ⟨oL, _, _, hoL, _⟩ := id hn
    refine h _ ⟨I.ok, I.os, I.bare, ⟨fun b o e n hb hx => ?_, fun b o e n hb hx => ?_, I.base.free, fun b o e hx => ?_, I.base.tups, I.base.frzs, I.base.tbls⟩, ⟨_, hn', fun j y v' e1 e2 e3 => ?_⟩, fun y c e => ?_, I.free, I.freeC, fun p hp => ?_, tracked ⟨oL, hoL, I.free⟩ hs, by simpa using I.len⟩ ⟨_, hs, .inl rfl⟩
    · exact (hs.2 b (Nat.ne_of_lt (Nat.lt_of_lt_of_le (Heap.lt_size e) I.ok.above))).trans (I.base.keep b o e n hb hx)
    · obtain ⟨sl, e1⟩ := I.base.slot b o e n hb hx
      exact ⟨sl, (hs.2 b (Nat.ne_of_lt (Nat.lt_of_lt_of_le (Heap.lt_size e) I.ok.above))).trans e1⟩
    · obtain ⟨o', e1⟩ := I.base.there b o e hx
      exact ⟨o', (hs.2 b (Nat.ne_of_lt (Nat.lt_of_lt_of_le (Heap.lt_size e) I.ok.above))).trans e1⟩
    · by_cases hj : j = i
      · subst hj
        rw [hi] at e1; cases e1
        rw [List.getElem?_set_self hiσ] at e2
        cases e2
        exact ⟨u, r, .inl ⟨hk, by simp⟩⟩
      · rw [List.getElem?_set_ne (Ne.symm hj)] at e2
        obtain ⟨u', r', q⟩ := hl j y v' e1 e2 e3
        refine ⟨u', r', ?_⟩
        rcases q with ⟨k, e⟩ | ⟨k, c, e, z⟩
        · refine .inl ⟨k, ?_⟩
          have : y ≠ x := fun e => hj (nodup_ix hN e1 (e ▸ hi))
          simp [this, e]
        · exact .inr ⟨k, c, e, z.sameBut hs (cne y c e)⟩
    · obtain ⟨w', z⟩ := I.cell y c e
      exact ⟨w', z.sameBut hs (cne y c e)⟩
    · obtain ⟨e, n, ne, nf, d⟩ := I.pin p hp
      exact ⟨(hs.2 p.1 ne).trans e, n, ne, nf, d⟩
  · have hfn : X.fn x = true := by
      rcases hf with z | z
      · exact z
      · rw [z] at hk; cases hk
    obtain ⟨c, hc⟩ := I.ok.has x (.inl hk)
    obtain ⟨w', z⟩ := I.cell x c hc
    refine wpAny_storeName_cell I.ok.kind hk hc z (fun h' hc' hs => ?_)
    obtain ⟨oc, hoc, hocd⟩ := id z
    refine h { s with heap := h' } ⟨I.ok, I.os, I.bare, ⟨fun b o e n hb hx => ?_, fun b o e n hb hx => ?_, I.base.free, fun b o e hx => ?_, I.base.tups, I.base.frzs, I.base.tbls⟩, ⟨m, hn.sameBut hs (Ne.symm (cne x c hc)), fun j y v' e1 e2 e3 => ?_⟩, fun y c' e => ?_, I.free, I.freeC, fun p hp => ?_, tracked ⟨oc, hoc, I.freeC x c hc⟩ hs, by simpa using I.len⟩ ⟨c, hs, .inr hc⟩
    · exact (hs.2 b (Nat.ne_of_lt (Nat.lt_of_lt_of_le (Heap.lt_size e) (I.ok.cab x c hfn hc)))).trans (I.base.keep b o e n hb hx)
    · obtain ⟨sl, e1⟩ := I.base.slot b o e n hb hx
      exact ⟨sl, (hs.2 b (Nat.ne_of_lt (Nat.lt_of_lt_of_le (Heap.lt_size e) (I.ok.cab x c hfn hc)))).trans e1⟩
    · obtain ⟨o', e1⟩ := I.base.there b o e hx
      exact ⟨o', (hs.2 b (Nat.ne_of_lt (Nat.lt_of_lt_of_le (Heap.lt_size e) (I.ok.cab x c hfn hc)))).trans e1⟩
    · by_cases hj : j = i
      · subst hj
        rw [hi] at e1; cases e1
        rw [List.getElem?_set_self hiσ] at e2
        cases e2
        exact ⟨u, r, .inr ⟨.inl hk, c, hc, hc'⟩⟩
      · rw [List.getElem?_set_ne (Ne.symm hj)] at e2
        obtain ⟨u', r', q⟩ := hl j y v' e1 e2 e3
        refine ⟨u', r', ?_⟩
        rcases q with q | ⟨k, c', e, z'⟩
        · exact .inl q
        · refine .inr ⟨k, c', e, z'.sameBut hs ?_⟩
          rintro rfl
          exact hj (nodup_ix hN e1 (I.ok.inj _ _ _ e hc ▸ hi))
    · by_cases hcc : c' = c
      · subst hcc; exact ⟨_, hc'⟩
      · obtain ⟨w2, z2⟩ := I.cell y c' e
        exact ⟨w2, z2.sameBut hs hcc⟩
    · obtain ⟨e, n, ne, nf, d⟩ := I.pin p hp
      refine ⟨(hs.2 p.1 ?_).trans e, n, ne, nf, d⟩
      intro q
      rw [q, hoc] at e
      have q' : oc = p.2 := Option.some.inj e
      exact d w' (by rw [← q']; exact hocd)
theorem store_ok {M : Model} {A : Around} {E : Value → Shared → Prop} {i : Nat} {x : Str} {v : V} {u : Value} {Q : Unit → Shared → Prop} (I : Inv X pins σ H s) (hN : X.N.Nodup) (hi : X.N[i]? = some x) (hx : Loc X.env.scope x) (r : RelV v u)
    (h : ∀ s', Inv X pins (σ.set i (some v)) H s' → Q () s') (hf : X.fn x = true ∨ X.env.scope.names.lookup x = some .local := by first | exact .inl rfl | exact .inr rfl | assumption) : wpAny M A (storeName X.env x u) Q E s :=
  store_ok2 I hN hi hx r (fun s' I' _ => h s' I') hf
/-- behind a call or a block, the state as it is -/
theorem Inv.call' {s' : Shared} {ch : List Addr} (I : Inv X pins σ H s) (ho : s'.os = s.os) (u : Un (frs X.stack) ch H H' s.heap s'.heap) (hok : HOk X.prog X.w H' s'.heap) (hg : AllBare s'.gens)
    (hch : ∀ b ∈ ch, (b ∈ X.ex ∨ X.s₀.heap.objs.size ≤ b) ∧ b ≠ X.env.locals ∧ (∀ x c, X.env.cells.lookup x = some c → c ≠ b) ∧ ∀ p ∈ X.pn ++ pins, p.1 ≠ b) : Inv X pins σ H' s' := by
  obtain ⟨h', g', d', t', o'⟩ := s'
  have e : o' = s.os := ho
  subst e
  exact I.call (g' := g') (t' := t') (d' := d') u hok hg hch
end

/-! ### the judgements -/
/-- an exception: its class, its own dict's address (where it has one), the abstract heap behind it -/
abbrev XK := Value → Option Addr → Hp → Prop
abbrev St := List (Option V)
abbrev VK := V → Hp → Prop
/-- an expression's reading; a test's; an argument list's -/
abbrev TE := St → Hp → VK → Prop
abbrev TT := St → Hp → (Bool → Hp → Prop) → Prop
abbrev TA := St → Hp → (List V → Hp → Prop) → Prop
/-- what is wanted behind a statement -/
structure Ends where
  nx : St → Hp → Prop
  rt : VK
  bk : St → Hp → Prop := fun _ _ => False
  ct : St → Hp → Prop := fun _ _ => False
abbrev TS := Ends → St → Hp → Prop

def EP (X : Cx) (pins : List (Addr × Obj)) (σ : St) (Q : VK) (u : Value) (s' : Shared) : Prop := ∃ v H', Inv X pins σ H' s' ∧ RelV v u ∧ Q v H'
def TP (X : Cx) (pins : List (Addr × Obj)) (σ : St) (Q : Bool → Hp → Prop) (b : Bool) (s' : Shared) : Prop := ∃ H', Inv X pins σ H' s' ∧ Q b H'
def AP (X : Cx) (pins : List (Addr × Obj)) (σ : St) (Q : List V → Hp → Prop) (us : List Value) (s' : Shared) : Prop := ∃ vs H', Inv X pins σ H' s' ∧ Vals vs us ∧ Q vs H'
def SP (X : Cx) (pins : List (Addr × Obj)) (D : Ends) (f : Flow) (s' : Shared) : Prop :=
  match f with
  | .next => ∃ σ' H', Inv X pins σ' H' s' ∧ D.nx σ' H'
  | .brk => ∃ σ' H', Inv X pins σ' H' s' ∧ D.bk σ' H'
  | .cont => ∃ σ' H', Inv X pins σ' H' s' ∧ D.ct σ' H'
  | .ret u => ∃ v σ' H', Inv X pins σ' H' s' ∧ RelV v u ∧ D.rt v H'

def PE (X : Cx) (e : Expr) (t : TE) : Prop :=
  ∀ (pins : List (Addr × Obj)) (s : Shared) (σ : St) (H : Hp) (Q : VK), Inv X pins σ H s → t σ H Q → wpAny (model X.prog X.w) X.A (eval e X.env) (EP X pins σ Q) X.xe s
def PT (X : Cx) (e : Expr) (t : TT) : Prop :=
  ∀ (pins : List (Addr × Obj)) (s : Shared) (σ : St) (H : Hp) (Q : Bool → Hp → Prop), Inv X pins σ H s → t σ H Q → wpAny (model X.prog X.w) X.A (isTrue e X.env (eval e X.env)) (TP X pins σ Q) X.xe s
/-- a test whatever its 'whole' is (and, or) -/
def PW (X : Cx) (e : Expr) (t : TT) : Prop :=
  ∀ (whole : Sem Value) (pins : List (Addr × Obj)) (s : Shared) (σ : St) (H : Hp) (Q : Bool → Hp → Prop), Inv X pins σ H s → t σ H Q → wpAny (model X.prog X.w) X.A (isTrue e X.env whole) (TP X pins σ Q) X.xe s
theorem PW.pt {X : Cx} {e : Expr} {t : TT} (h : PW X e t) : PT X e t := h _
/-- an argument list (no star), from the left -/
def PA (X : Cx) (es : List Expr) (t : TA) : Prop :=
  ∀ (pos : Pos) (pins : List (Addr × Obj)) (s : Shared) (σ : St) (H : Hp) (Q : List V → Hp → Prop), Inv X pins σ H s → t σ H Q → wpAny (model X.prog X.w) X.A (spliced (backTo pos (starEach es X.env))) (AP X pins σ Q) X.xe s
def PS (X : Cx) (st : Stmt) (t : TS) : Prop :=
  ∀ (pins : List (Addr × Obj)) (s : Shared) (σ : St) (H : Hp) (D : Ends), Inv X pins σ H s → t D σ H → wpAny (model X.prog X.w) X.A (exec st X.env) (SP X pins D) X.xe s
def PSs (X : Cx) (st : List Stmt) (t : TS) : Prop :=
  ∀ (pins : List (Addr × Obj)) (s : Shared) (σ : St) (H : Hp) (D : Ends), Inv X pins σ H s → t D σ H → wpAny (model X.prog X.w) X.A (execs st X.env) (SP X pins D) X.xe s
/-- weaken the end -/
theorem thn {α : Type} {t : Sem α} {Q Q' : α → Shared → Prop} {M : Model} {A : Around} {E : Value → Shared → Prop} {s : Shared} (h : wpAny M A t Q E s) (hQ : ∀ a s, Q a s → Q' a s) : wpAny M A t Q' E s := wpAny_mono h hQ fun _ _ x => x
end L2

namespace L2
open PySem PySem.Spec PyProof.Rows
section
variable {X : Cx}

/-- two expressions in a row -/
theorem bin {a b : Expr} {ta tb : TE} (ha : PE X a ta) (hb : PE X b tb) {pins : List (Addr × Obj)} {s : Shared} {σ : St} {H : Hp} {R : V → V → Hp → Prop} (I : Inv X pins σ H s) (h : ta σ H fun x H1 => tb σ H1 fun y H2 => R x y H2)
    {α : Type} {Q : α → Shared → Prop} {f : Value → Value → Sem α}
    (hf : ∀ v u s2 x y H2, Inv X pins σ H2 s2 → RelV x v → RelV y u → R x y H2 → wpAny (model X.prog X.w) X.A (f v u) Q X.xe s2) :
    wpAny (model X.prog X.w) X.A (eval a X.env) (fun v s₁ => wpAny (model X.prog X.w) X.A (eval b X.env) (fun u s₂ => wpAny (model X.prog X.w) X.A (f v u) Q X.xe s₂) X.xe s₁) X.xe s := by
  refine thn (ha pins s σ H _ I h) fun v s1 ⟨x, H1, I1, r1, q1⟩ => ?_
  refine thn (hb pins s1 σ H1 _ I1 q1) fun u s2 ⟨y, H2, I2, r2, q2⟩ => ?_
  exact hf v u s2 x y H2 I2 r1 r2 q2

/-! ### names and constants -/
def tVar (i : Nat) : TE := fun σ H Q => ∃ v, σ[i]? = some (some v) ∧ Q v H
def tC (v : V) : TE := fun _ H Q => Q v H
theorem pe_var {i : Nat} {x : Str} {pos : Pos} (hN : X.N[i]? = some x) (hv : Vis X.env.scope x) (hd : (x == ("__debug__" : Str)) = false := by decide) (hcd : (x == ("__classdict__" : Str)) = false := by decide) : PE X (.Name x pos) (tVar i) := by
  intro pins s σ H Q I h
  obtain ⟨v, e, h⟩ := h
  obtain ⟨m, hn, hl⟩ := I.loc
  obtain ⟨u, r, l⟩ := hl i x v hN e hv
  have fin : EP X pins σ Q u s := ⟨v, H, I, r, h⟩
  rcases l with ⟨hk, hm⟩ | ⟨hk, c, hc, hcell⟩
  · exact wpAny_Name (wpAny_loadName_local I.ok.kind hk hn hm fin) hd
  · rcases hk with hk | hk
    · exact wpAny_Name (wpAny_loadName_cell I.ok.kind hk hc hcell fin) hd
    · exact wpAny_Name (wpAny_loadName_free I.ok.kind hk hc hcell fin hcd) hd
theorem pe_int {i j pos} : PE X (.Constant (.int i) j pos) (tC (.int i)) := fun _ _ _ H _ I h => wpAny_Constant_int ⟨.int i, H, I.tok _, ⟨_, rfl⟩, h⟩
theorem pe_bl {b j pos} : PE X (.Constant (.bool b) j pos) (tC (.bl b)) := fun _ _ _ H _ I h => Constant_bool ⟨.bl b, H, I, rfl, h⟩
theorem pe_non {j pos} : PE X (.Constant .none j pos) (tC .non) := fun _ _ _ H _ I h => Constant_none ⟨.non, H, I, rfl, h⟩
theorem pe_str {x j pos} : PE X (.Constant (.str x) j pos) (tC (.str x)) := fun _ _ _ H _ I h => Calls.Constant_str ⟨.str x, H, I.tok _, ⟨_, rfl⟩, h⟩

/-- a global name of the def -/
def Gl (X : Cx) (x : Str) : Prop := X.env.kindOf x = some .globalImplicit
theorem ld_glob {E : Value → Shared → Prop} {pins : List (Addr × Obj)} {s : Shared} {σ : St} {H : Hp} {x : Str} {u : Value} {pos : Pos} {Q : Value → Shared → Prop} (I : Inv X pins σ H s) (hg : Gl X x) (hm : X.mg x = some u) (h : Q u s)
    (hd : (x == ("__debug__" : Str)) = false := by decide) : wpAny (model X.prog X.w) X.A (eval (.Name x pos) X.env) Q E s :=
  Calls.Name_function_global I.ok.kind hg (Calls.loadGlobal_global (by rw [I.ok.glob]; exact I.mod.glob.keeps I.bk) hm h) hd
theorem ld_blt {E : Value → Shared → Prop} {pins : List (Addr × Obj)} {s : Shared} {σ : St} {H : Hp} {x : Str} {u : Value} {pos : Pos} {Q : Value → Shared → Prop} (I : Inv X pins σ H s) (hg : Gl X x) (hm : X.mg x = none) (hv : bootBuiltins x = some u) (h : Q u s)
    (hn : x ≠ "__name__" := by decide) (hd : (x == ("__debug__" : Str)) = false := by decide) : wpAny (model X.prog X.w) X.A (eval (.Name x pos) X.env) Q E s := by
  obtain ⟨mb, h1, h2⟩ := I.mod.blt
  exact Calls.Name_function_global I.ok.kind hg (Calls.loadGlobal_builtin (by rw [I.ok.glob]; exact I.mod.glob.keeps I.bk) hm (by rw [I.ok.blt]; exact h1.keeps I.bk) ((h2 x hn).trans hv) h) hd
/-- a module's constant, a class, a function, as a value -/
theorem pe_glob {x : Str} {v : V} {u : Value} {pos : Pos} (hg : Gl X x) (hm : X.mg x = some u) (r : RelV v u) (hd : (x == ("__debug__" : Str)) = false := by decide) : PE X (.Name x pos) (tC v) :=
  fun _ _ _ H _ I h => ld_glob I hg hm ⟨v, H, I, r, h⟩ hd
theorem pe_bltn {x : Str} {v : V} {u : Value} {pos : Pos} (hg : Gl X x) (hm : X.mg x = none) (hv : bootBuiltins x = some u) (r : RelV v u) (hn : x ≠ "__name__" := by decide) (hd : (x == ("__debug__" : Str)) = false := by decide) : PE X (.Name x pos) (tC v) :=
  fun _ _ _ H _ I h => ld_blt I hg hm hv ⟨v, H, I, r, h⟩ hn hd

/-! ### arithmetic -/
/-- two ints -/
def t2I (ta tb : TE) (k : Int → Int → Hp → Prop) : St → Hp → Prop := fun σ H => ta σ H fun x H1 => tb σ H1 fun y H2 => ∃ i j, x = .int i ∧ y = .int j ∧ k i j H2
def tAdd (ta tb : TE) : TE := fun σ H Q => t2I ta tb (fun i j H2 => Q (.int (i + j)) H2) σ H
def tSub (ta tb : TE) : TE := fun σ H Q => t2I ta tb (fun i j H2 => Q (.int (i - j)) H2) σ H
/-- the left factor below 2^64 -/
def tMul (ta tb : TE) : TE := fun σ H Q => t2I ta tb (fun i j H2 => (-(2 ^ 64) < i ∧ i < 2 ^ 64) ∧ Q (.int (i * j)) H2) σ H
variable {a b : Expr} {ta tb : TE} {pos : Pos}
theorem pe_add (ha : PE X a ta) (hb : PE X b tb) : PE X (.BinOp a .Add b pos) (tAdd ta tb) := by
  intro pins s σ H Q I h
  refine wpAny_BinOp (bin ha hb I h fun v u s2 x y H2 I2 rx ry q => ?_)
  obtain ⟨i, j, rfl, rfl, q⟩ := q
  obtain ⟨t, rfl⟩ := rx
  obtain ⟨t', rfl⟩ := ry
  exact add_int ⟨.int _, H2, I2.tok _, ⟨_, rfl⟩, q⟩
theorem pe_sub (ha : PE X a ta) (hb : PE X b tb) : PE X (.BinOp a .Sub b pos) (tSub ta tb) := by
  intro pins s σ H Q I h
  refine wpAny_BinOp (bin ha hb I h fun v u s2 x y H2 I2 rx ry q => ?_)
  obtain ⟨i, j, rfl, rfl, q⟩ := q
  obtain ⟨t, rfl⟩ := rx
  obtain ⟨t', rfl⟩ := ry
  exact sub_int ⟨.int _, H2, I2.tok _, ⟨_, rfl⟩, q⟩
theorem pe_mul (ha : PE X a ta) (hb : PE X b tb) : PE X (.BinOp a .Mult b pos) (tMul ta tb) := by
  intro pins s σ H Q I h
  refine wpAny_BinOp (bin ha hb I h fun v u s2 x y H2 I2 rx ry q => ?_)
  obtain ⟨i, j, rfl, rfl, ⟨q1, q2⟩, q⟩ := q
  obtain ⟨t, rfl⟩ := rx
  obtain ⟨t', rfl⟩ := ry
  exact mul_int ⟨.int _, H2, I2.tok _, ⟨_, rfl⟩, q⟩ (.of_left (intBits_le_64 q1 q2))

/-! ### comparisons -/
def PC (X : Cx) (op : CmpOp) (a b : Expr) (t : TE) : Prop :=
  ∀ (pins : List (Addr × Obj)) (s : Shared) (σ : St) (H : Hp) (Q : VK), Inv X pins σ H s → t σ H Q →
    wpAny (model X.prog X.w) X.A (eval a X.env) (fun v s₁ => wpAny (model X.prog X.w) X.A (eval b X.env) (fun u s₂ => wpAny (model X.prog X.w) X.A (compareOp op v u) (EP X pins σ Q) X.xe s₂) X.xe s₁) X.xe s
theorem nobehind (b : Expr) {op : CmpOp} (h : op ≠ .In) (h2 : op ≠ .NotIn) : behindInMarks op b = false := by
  have e1 : (op == CmpOp.In) = false := by cases op <;> first | rfl | exact absurd rfl h
  have e2 : (op == CmpOp.NotIn) = false := by cases op <;> first | rfl | exact absurd rfl h2
  cases b <;> simp [behindInMarks, e1, e2]
def tCmp (p : Int → Int → Bool) (ta tb : TE) : TE := fun σ H Q => t2I ta tb (fun i j H2 => Q (.bl (p i j)) H2) σ H
abbrev tLt : TE → TE → TE := tCmp fun i j => decide (i < j)
abbrev tLe : TE → TE → TE := tCmp fun i j => decide (i ≤ j)
abbrev tGt : TE → TE → TE := tCmp fun i j => decide (j < i)
abbrev tGe : TE → TE → TE := tCmp fun i j => decide (j ≤ i)
abbrev tEqI : TE → TE → TE := tCmp fun i j => decide (i = j)
abbrev tNeI : TE → TE → TE := tCmp fun i j => !decide (i = j)
/-- a comparison of two ints, by its rule -/
theorem pc_int {op : CmpOp} {p : Int → Int → Bool} (ha : PE X a ta) (hb : PE X b tb)
    (rule : ∀ (i j : Int) (t u : Tok) (Q : Value → Shared → Prop) (s : Shared), Q (.bool (p i j)) s → wpAny (model X.prog X.w) X.A (compareOp op (.int i t) (.int j u)) Q X.xe s) : PC X op a b (tCmp p ta tb) := by
  intro pins s σ H Q I h
  refine bin ha hb I h fun v u s2 x y H2 I2 rx ry q => ?_
  obtain ⟨i, j, rfl, rfl, q⟩ := q
  obtain ⟨t, rfl⟩ := rx
  obtain ⟨t', rfl⟩ := ry
  exact rule i j t t' _ s2 ⟨.bl _, H2, I2, rfl, q⟩
theorem pc_lt (ha : PE X a ta) (hb : PE X b tb) : PC X .Lt a b (tLt ta tb) := pc_int ha hb fun _ _ _ _ _ _ h => lt_int h
theorem pc_le (ha : PE X a ta) (hb : PE X b tb) : PC X .LtE a b (tLe ta tb) := pc_int ha hb fun _ _ _ _ _ _ h => le_int h
theorem pc_gt (ha : PE X a ta) (hb : PE X b tb) : PC X .Gt a b (tGt ta tb) := pc_int ha hb fun _ _ _ _ _ _ h => gt_int h
theorem pc_ge (ha : PE X a ta) (hb : PE X b tb) : PC X .GtE a b (tGe ta tb) := pc_int ha hb fun _ _ _ _ _ _ h => ge_int h
theorem pc_eqI (ha : PE X a ta) (hb : PE X b tb) : PC X .Eq a b (tEqI ta tb) := pc_int ha hb fun _ _ _ _ _ _ h => eq_int (by rw [Bool.beq_eq_decide_eq]; exact h)
theorem pc_neI (ha : PE X a ta) (hb : PE X b tb) : PC X .NotEq a b (tNeI ta tb) := pc_int ha hb fun _ _ _ _ _ _ h => ne_int (by rw [bne, Bool.beq_eq_decide_eq]; exact h)
/-- is None -/
def tIsN (ta : TE) : TE := fun σ H Q => ta σ H fun x H1 => Q (.bl (decide (x = .non))) H1
def tNotN (ta : TE) : TE := fun σ H Q => ta σ H fun x H1 => Q (.bl (!decide (x = .non))) H1
theorem RelV.none_iff {x : V} {v : Value} (r : RelV x v) : (v == Value.none) = decide (x = .non) := by
  cases x with
  | non => cases r; rfl
  | bl _ => cases r; rfl
  | int _ => obtain ⟨t, rfl⟩ := r; rfl
  | str _ => obtain ⟨t, rfl⟩ := r; rfl
  | byt _ => obtain ⟨t, rfl⟩ := r; rfl
  | flt _ => obtain ⟨t, rfl⟩ := r; rfl
  | ref _ => cases r; rfl
  | ty _ => cases r; rfl
theorem pc_isN {j pos'} (ha : PE X a ta) : PC X .Is a (.Constant .none j pos') (tIsN ta) := by
  intro pins s σ H Q I h
  refine thn (ha pins s σ H _ I h) fun v s1 ⟨x, H1, I1, r1, q1⟩ => ?_
  exact Constant_none (is_none_gen ⟨.bl _, H1, I1, by rw [r1.none_iff]; rfl, q1⟩)
theorem pc_notN {j pos'} (ha : PE X a ta) : PC X .IsNot a (.Constant .none j pos') (tNotN ta) := by
  intro pins s σ H Q I h
  refine thn (ha pins s σ H _ I h) fun v s1 ⟨x, H1, I1, r1, q1⟩ => ?_
  exact Constant_none (isnot_none_gen ⟨.bl _, H1, I1, by rw [r1.none_iff]; rfl, q1⟩)
/-- a comparison as a value, as a test -/
def tB (t : TE) : TT := fun σ H Q => t σ H fun x H1 => ∃ c, x = .bl c ∧ Q c H1
theorem pe_cmp {op : CmpOp} {t : TE} (h : PC X op a b t) (h1 : behindInMarks op b = false := by first | exact nobehind _ (by decide) (by decide) | rfl) : PE X (.Compare a [op] [b] pos) t := fun pins s σ H Q I hw => wpAny_Compare1 (h pins s σ H Q I hw) h1
theorem pt_cmp {op : CmpOp} {t : TE} (h : PC X op a b t) (h1 : behindInMarks op b = false := by first | exact nobehind _ (by decide) (by decide) | rfl) : PT X (.Compare a [op] [b] pos) (tB t) := by
  intro pins s σ H Q I hw
  refine wpAny_isTrue_Compare1 (thn (h pins s σ H _ I hw) fun v s1 h1 => thn h1 fun u s2 h2 => thn h2 fun c s3 ⟨x, H1, I1, r1, q1⟩ => ?_) h1
  obtain ⟨d, rfl, q⟩ := q1
  cases r1
  exact wpAny_truthy_bool ⟨H1, I1, q⟩
/-- an expression whose value is a bool, as a test -/
theorem pt_val {e : Expr} {t : TE} (h : PE X e t) (he : ∀ whole, isTrue e X.env whole = (do let v ← whole; standAt e.pos; holding [v] (truthy v)) := by intro _; rfl) : PT X e (tB t) := by
  intro pins s σ H Q I hw
  refine isTrue_plain (thn (h pins s σ H _ I hw) fun v s1 ⟨x, H1, I1, r1, q1⟩ => ?_) (he _)
  obtain ⟨d, rfl, q⟩ := q1
  cases r1
  exact wpAny_truthy_bool ⟨H1, I1, q⟩

/-! ### and, or, not -/
variable {tA tB' : TT} {rest : List Expr}
def tAnd (t u : TT) : TT := fun σ H Q => t σ H fun c H1 => if c = true then u σ H1 Q else Q false H1
def tOr (t u : TT) : TT := fun σ H Q => t σ H fun c H1 => if c = true then Q true H1 else u σ H1 Q
def tNot (t : TT) : TT := fun σ H Q => t σ H fun c H1 => Q (!c) H1
theorem pw_and1 (ha : PT X a tA) : PW X (.BoolOp .And [a] pos) tA := by
  intro wh pins s σ H Q I h
  refine isTrue_and (thn (ha pins s σ H Q I h) fun c s1 e => ?_)
  cases c with
  | true => exact isTrue_and_nil e
  | false => exact e
theorem pw_or1 (ha : PT X a tA) : PW X (.BoolOp .Or [a] pos) tA := by
  intro wh pins s σ H Q I h
  refine isTrue_or (thn (ha pins s σ H Q I h) fun c s1 e => ?_)
  cases c with
  | false => exact isTrue_or_nil e
  | true => exact e
theorem pw_and (ha : PT X a tA) (hb : PW X (.BoolOp .And (b :: rest) pos) tB') : PW X (.BoolOp .And (a :: b :: rest) pos) (tAnd tA tB') := by
  intro wh pins s σ H Q I h
  refine isTrue_and (thn (ha pins s σ H _ I h) fun c s1 ⟨H1, I1, q1⟩ => ?_)
  cases c with
  | true => exact hb wh pins s1 σ H1 Q I1 q1
  | false => exact ⟨H1, I1, q1⟩
theorem pw_or (ha : PT X a tA) (hb : PW X (.BoolOp .Or (b :: rest) pos) tB') : PW X (.BoolOp .Or (a :: b :: rest) pos) (tOr tA tB') := by
  intro wh pins s σ H Q I h
  refine isTrue_or (thn (ha pins s σ H _ I h) fun c s1 ⟨H1, I1, q1⟩ => ?_)
  cases c with
  | true => exact ⟨H1, I1, q1⟩
  | false => exact hb wh pins s1 σ H1 Q I1 q1
theorem pt_not (ha : PT X a tA) : PT X (.UnaryOp .Not a pos) (tNot tA) := by
  intro pins s σ H Q I h
  exact isTrue_not (ha pins s σ H (fun c H1 => Q (!c) H1) I h)
/-- .. as values (bools) -/
def tAndV (ta tb : TE) : TE := fun σ H Q => ta σ H fun x H1 => ∃ c, x = .bl c ∧ if c = true then tb σ H1 Q else Q (.bl false) H1
def tOrV (ta tb : TE) : TE := fun σ H Q => ta σ H fun x H1 => ∃ c, x = .bl c ∧ if c = true then Q (.bl true) H1 else tb σ H1 Q
def tNotV (ta : TE) : TE := fun σ H Q => ta σ H fun x H1 => ∃ c, x = .bl c ∧ Q (.bl (!c)) H1
theorem pe_one {op} {t : TE} (h : PE X a t) : PE X (.BoolOp op [a] pos) t := fun pins s σ H Q I hw => BoolOp_one (h pins s σ H Q I hw)
theorem pe_and (ha : PE X a ta) (hb : PE X (.BoolOp .And (b :: rest) pos) tb) : PE X (.BoolOp .And (a :: b :: rest) pos) (tAndV ta tb) := by
  intro pins s σ H Q I h
  refine BoolOp_and (thn (ha pins s σ H _ I h) fun v s1 ⟨x, H1, I1, r1, q1⟩ => ?_)
  obtain ⟨c, rfl, q1⟩ := q1
  cases r1
  refine wpAny_truthy_bool ?_
  cases c with
  | true => exact hb pins s1 σ H1 Q I1 q1
  | false => exact ⟨.bl false, H1, I1, rfl, q1⟩
theorem pe_or (ha : PE X a ta) (hb : PE X (.BoolOp .Or (b :: rest) pos) tb) : PE X (.BoolOp .Or (a :: b :: rest) pos) (tOrV ta tb) := by
  intro pins s σ H Q I h
  refine BoolOp_or (thn (ha pins s σ H _ I h) fun v s1 ⟨x, H1, I1, r1, q1⟩ => ?_)
  obtain ⟨c, rfl, q1⟩ := q1
  cases r1
  refine wpAny_truthy_bool ?_
  cases c with
  | false => exact hb pins s1 σ H1 Q I1 q1
  | true => exact ⟨.bl true, H1, I1, rfl, q1⟩
theorem pe_not (ha : PE X a ta) : PE X (.UnaryOp .Not a pos) (tNotV ta) := by
  intro pins s σ H Q I h
  refine UnaryOp_ (thn (ha pins s σ H _ I h) fun v s1 ⟨x, H1, I1, r1, q1⟩ => ?_)
  obtain ⟨c, rfl, q1⟩ := q1
  cases r1
  exact not_of (wpAny_truthy_bool ⟨.bl (!c), H1, I1, rfl, q1⟩)
/-- a if t else b -/
def tIf (t : TT) (ta tb : TE) : TE := fun σ H Q => t σ H fun c H1 => if c = true then ta σ H1 Q else tb σ H1 Q
theorem pe_ifExp {c : Expr} (hc : PT X c tA) (ha : PE X a ta) (hb : PE X b tb) : PE X (.IfExp c a b pos) (tIf tA ta tb) := by
  intro pins s σ H Q I h
  refine wpAny_IfExp (thn (hc pins s σ H _ I h) fun d s1 ⟨H1, I1, q1⟩ => ?_)
  cases d with
  | true => exact ha pins s1 σ H1 Q I1 q1
  | false => exact hb pins s1 σ H1 Q I1 q1
end
end L2

namespace L2
open PySem PySem.Spec PyProof.Rows

/-! ### a list, a tuple that is read: tracked, frozen, or an object of the module -/
def SqL (K : PySem.W.Frag) (H : Hp) (a : Addr) (xs : List V) : Prop :=
  Rd H a (.lst xs) ∨
    ∃ (o : Obj) (its : Array Value) (n : Nat), K.lookup a = some o ∧ o.cls = .type "list" ∧ o.dict = none ∧ o.data = .seq its n ∧ its.size ≤ sizeLine ∧ Vals xs its.toList
def SqT (K : PySem.W.Frag) (H : Hp) (a : Addr) (xs : List V) : Prop :=
  Rd H a (.tup xs) ∨
    ∃ (o : Obj) (its : Array Value) (n : Nat), K.lookup a = some o ∧ o.cls = .type "tuple" ∧ o.data = .seq its n ∧ its.size ≤ sizeLine ∧ Vals xs its.toList
def absV : Value → Option V
  | .none => some .non
  | .bool b => some (.bl b)
  | .int i _ => some (.int i)
  | .str x _ => some (.str x)
  | .bytes b _ => some (.byt b)
  | .float b _ => some (.flt b)
  | .ref a => some (.ref a)
  | .type n => some (.ty n)
  | _ => none
theorem RelV.abs {x : V} {u : Value} (r : RelV x u) : absV u = some x := by
  cases x with
  | non => cases r; rfl
  | bl _ => cases r; rfl
  | int _ => obtain ⟨t, rfl⟩ := r; rfl
  | str _ => obtain ⟨t, rfl⟩ := r; rfl
  | byt _ => obtain ⟨t, rfl⟩ := r; rfl
  | flt _ => obtain ⟨t, rfl⟩ := r; rfl
  | ref _ => cases r; rfl
  | ty _ => cases r; rfl
theorem RelV.inj {x y : V} {u : Value} (r : RelV x u) (q : RelV y u) : x = y := Option.some.inj (r.abs.symm.trans q.abs)
theorem Vals.inj : ∀ {xs ys : List V} {us : List Value}, Vals xs us → Vals ys us → xs = ys
  | _, _, _, .nil, .nil => rfl
  | _, _, _, .cons r t, .cons r' t' => by rw [r.inj r', Vals.inj t t']
section
variable {X : Cx} {pins : List (Addr × Obj)} {σ : St} {H : Hp} {s : Shared} {a : Addr} {xs ys : List V}
theorem SqL.of {K : PySem.W.Frag} (h : H a = some (.lst xs)) : SqL K H a xs := .inl (.inl h)
theorem SqT.of {K : PySem.W.Frag} (h : H a = some (.tup xs)) : SqT K H a xs := .inl (.inl h)
theorem Inv.list (I : Inv X pins σ H s) (h : SqL X.K H a xs) : ∃ its : List Value, Vals xs its ∧ PlainL s.heap a its.toArray ∧ xs.length ≤ sizeLine := by
  rcases h with h | ⟨o, its, n, hk, hc, hd, hs, hz, r⟩
  · obtain ⟨z, its, n, r, e⟩ := h.ok I.hok
    exact ⟨its, r, ⟨_, n, e, rfl, rfl, rfl⟩, z⟩
  · refine ⟨its.toList, r, ⟨o, n, I.kIn a o hk, hc, hd, by simpa using hs⟩, ?_⟩
    have e := r.length
    simp only [Array.length_toList] at e
    omega
theorem Inv.tuple (I : Inv X pins σ H s) (h : SqT X.K H a xs) : ∃ its : List Value, Vals xs its ∧ IsTup s.heap a its.toArray ∧ xs.length ≤ sizeLine := by
  rcases h with h | ⟨o, its, n, hk, hc, hs, hz, r⟩
  · obtain ⟨z, its, r, p⟩ := h.ok I.hok
    exact ⟨its, r, p, z⟩
  · refine ⟨its.toList, r, ⟨o, I.kIn a o hk, hc, n, by simpa using hs⟩, ?_⟩
    have e := r.length
    simp only [Array.length_toList] at e
    omega
theorem Inv.list_inj (I : Inv X pins σ H s) (h : SqL X.K H a xs) (h' : SqL X.K H a ys) : xs = ys := by
  obtain ⟨its, r, ⟨o, n, e, _, _, d⟩, _⟩ := I.list h
  obtain ⟨its', r', ⟨o', n', e', _, _, d'⟩, _⟩ := I.list h'
  rw [e] at e'; cases e'
  rw [d] at d'
  injection d' with d1 _
  have : its = its' := by simpa using congrArg Array.toList d1
  subst this
  exact r.inj r'
theorem Inv.tuple_inj (I : Inv X pins σ H s) (h : SqT X.K H a xs) (h' : SqT X.K H a ys) : xs = ys := by
  obtain ⟨its, r, ⟨o, e, _, n, d⟩, _⟩ := I.tuple h
  obtain ⟨its', r', ⟨o', e', _, n', d'⟩, _⟩ := I.tuple h'
  rw [e] at e'; cases e'
  rw [d] at d'
  injection d' with d1 _
  have : its = its' := by simpa using congrArg Array.toList d1
  subst this
  exact r.inj r'
end

/-! ### another wish about exceptions -/
abbrev Cx.wish (X : Cx) (E : Value → Shared → Prop) : Cx := { X with xe := E }
/-- no exception leaves -/
abbrev Cx.nox (X : Cx) : Cx := X.wish fun _ _ => False
theorem Cx.Ok.wish {X : Cx} (ok : X.Ok) (E : Value → Shared → Prop) : (X.wish E).Ok :=
  ⟨ok.mod, ok.kind, ok.glob, ok.blt, ok.above, ok.inj, ok.has, ok.cab, ok.hd, ok.frames, ok.stk, ok.exf, ok.bs, ok.bsz, ok.noex, ok.exfs, ok.funs, ok.frf⟩
theorem Cx.Ok.unwish {X : Cx} {E : Value → Shared → Prop} (ok : (X.wish E).Ok) : X.Ok :=
  ⟨ok.mod, ok.kind, ok.glob, ok.blt, ok.above, ok.inj, ok.has, ok.cab, ok.hd, ok.frames, ok.stk, ok.exf, ok.bs, ok.bsz, ok.noex, ok.exfs, ok.funs, ok.frf⟩
section
variable {X : Cx} {pins : List (Addr × Obj)} {σ : St} {H : Hp} {s : Shared} {E : Value → Shared → Prop}
theorem Inv.wish (I : Inv X pins σ H s) (E : Value → Shared → Prop) : Inv (X.wish E) pins σ H s := ⟨I.ok.wish E, I.os, I.bare, I.base, I.loc, I.cell, I.free, I.freeC, I.pin, I.hok, I.len⟩
theorem Inv.unwish (I : Inv (X.wish E) pins σ H s) : Inv X pins σ H s := ⟨I.ok.unwish, I.os, I.bare, I.base, I.loc, I.cell, I.free, I.freeC, I.pin, I.hok, I.len⟩
theorem SP.unwish {D : Ends} {f : Flow} {s' : Shared} (h : SP (X.wish E) pins D f s') : SP X pins D f s' := by
  cases f with
  | next => obtain ⟨σ', H', I, q⟩ := h; exact ⟨σ', H', I.unwish, q⟩
  | brk => obtain ⟨σ', H', I, q⟩ := h; exact ⟨σ', H', I.unwish, q⟩
  | cont => obtain ⟨σ', H', I, q⟩ := h; exact ⟨σ', H', I.unwish, q⟩
  | ret u => obtain ⟨v, σ', H', I, r, q⟩ := h; exact ⟨v, σ', H', I.unwish, r, q⟩
theorem PE.nox {e : Expr} {t : TE} (h : PE X.nox e t) : PE X e t := fun pins s σ H Q I hw =>
  wpAny_mono (h pins s σ H Q (I.wish _) hw) (fun _ _ ⟨v, H', I', r, q⟩ => ⟨v, H', I'.unwish, r, q⟩) fun _ _ z => False.elim z
theorem PT.nox {e : Expr} {t : TT} (h : PT X.nox e t) : PT X e t := fun pins s σ H Q I hw =>
  wpAny_mono (h pins s σ H Q (I.wish _) hw) (fun _ _ ⟨H', I', q⟩ => ⟨H', I'.unwish, q⟩) fun _ _ z => False.elim z
theorem PSs.nox {st : List Stmt} {t : TS} (h : PSs X.nox st t) : PSs X st t := fun pins s σ H D I hw =>
  wpAny_mono (h pins s σ H D (I.wish _) hw) (fun _ _ q => q.unwish) fun _ _ z => False.elim z
end

/-! ### blocks and small statements -/
section
variable {X : Cx} {st : Stmt} {rest : List Stmt} {t u : TS} {e : Expr} {te : TE} {pos : Pos}
def tNext : TS := fun D σ H => D.nx σ H
def tSeq (t u : TS) : TS := fun D σ H => t { D with nx := u D } σ H
theorem pss_nil : PSs X [] tNext := fun _ _ σ H _ I h => wpAny_execs_nil ⟨σ, H, I, h⟩
theorem pss_cons (h1 : PS X st t) (h2 : PSs X rest u) : PSs X (st :: rest) (tSeq t u) := by
  intro pins s σ H D I h
  refine wpAny_execs_cons (thn (h1 pins s σ H { D with nx := u D } I h) fun f s1 q => ?_)
  cases f with
  | next =>
    obtain ⟨σ', H', I', q⟩ := q
    exact h2 pins s1 σ' H' D I' q
  | ret v => exact q
  | brk => exact q
  | cont => exact q
theorem pss_one (h1 : PS X st t) : PSs X [st] t := by
  intro pins s σ H D I h
  refine wpAny_execs_cons (thn (h1 pins s σ H D I h) fun f s1 q => ?_)
  cases f with
  | next => exact wpAny_execs_nil q
  | ret v => exact q
  | brk => exact q
  | cont => exact q
def tBreak : TS := fun D σ H => D.bk σ H
def tCont : TS := fun D σ H => D.ct σ H
theorem ps_pass : PS X (.Pass pos) tNext := fun _ _ σ H _ I h => wpAny_Pass ⟨σ, H, I, h⟩
theorem ps_break : PS X (.Break pos) tBreak := fun _ _ σ H _ I h => wpAny_Break ⟨σ, H, I, h⟩
theorem ps_continue : PS X (.Continue pos) tCont := fun _ _ σ H _ I h => wpAny_Continue ⟨σ, H, I, h⟩
/-- in a def's body nothing is shown -/
theorem Inv.quiet {pins : List (Addr × Obj)} {σ : St} {H : Hp} {s : Shared} (I : Inv X pins σ H s) : interactive X.env = false := by simp [interactive, I.ok.kind]
/-- a docstring -/
theorem ps_doc {x j pos pos'} : PS X (.Expr (.Constant (.str x) j pos) pos') tNext := fun _ s σ H _ I h => wpAny_Expr (Calls.Constant_str (show SP X _ _ .next { s with toks := s.toks + 1 } from ⟨σ, H, I.tok _, h⟩)) I.quiet
/-- an expression whose value is dropped -/
def tDrop (te : TE) : TS := fun D σ H => te σ H fun _ H1 => D.nx σ H1
theorem ps_expr (he : PE X e te) (hs : swapsWith e none pos.line X.env = pure false := by rfl) : PS X (.Expr e pos) (tDrop te) := by
  intro pins s σ H D I h
  exact wpAny_Expr_any (thn (he pins s σ H _ I h) fun v s1 ⟨x, H1, I1, r1, q1⟩ => ⟨σ, H1, I1, q1⟩) I.quiet hs
def tRet (te : TE) : TS := fun D σ H => te σ H D.rt
theorem ps_ret (he : PE X e te) : PS X (.Return (some e) pos) (tRet te) := by
  intro pins s σ H D I h
  exact wpAny_Return_some (thn (he pins s σ H _ I h) fun v s1 ⟨x, H1, I1, r1, q1⟩ => ⟨x, σ, H1, I1, r1, q1⟩)
def tRetN : TS := fun D _ H => D.rt .non H
theorem ps_retN : PS X (.Return none pos) tRetN := fun _ _ σ H _ I h => wpAny_Return_none ⟨.non, σ, H, I, rfl, h⟩
def tIfS (c : TT) (t u : TS) : TS := fun D σ H => c σ H fun b H1 => if b = true then t D σ H1 else u D σ H1
theorem ps_if {c : Expr} {a b : List Stmt} {tc : TT} (hc : PT X c tc) (ha : PSs X a t) (hb : PSs X b u) : PS X (.If c a b pos) (tIfS tc t u) := by
  intro pins s σ H D I h
  refine wpAny_If (thn (hc pins s σ H _ I h) fun d s1 ⟨H1, I1, q1⟩ => ?_)
  cases d with
  | true => exact ha pins s1 σ H1 D I1 q1
  | false => exact hb pins s1 σ H1 D I1 q1
/-- code that the proof never comes to -/
def tNever : TS := fun _ _ _ => False
theorem ps_never : PS X st tNever := fun _ _ _ _ _ _ h => h.elim
theorem pss_never {sts : List Stmt} : PSs X sts tNever := fun _ _ _ _ _ _ h => h.elim
end

/-! ### targets -/
abbrev TG := V → St → Hp → (St → Hp → Prop) → Prop
abbrev TGs := List V → St → Hp → (St → Hp → Prop) → Prop
def PG (X : Cx) (target : Expr) (t : TG) : Prop :=
  ∀ (pins : List (Addr × Obj)) (s : Shared) (σ : St) (H : Hp) (v : V) (u : Value) (Q : St → Hp → Prop), Inv X pins σ H s → RelV v u → t v σ H Q →
    wpAny (model X.prog X.w) X.A (assign target X.env u) (fun _ s' => ∃ σ' H', Inv X pins σ' H' s' ∧ Q σ' H') X.xe s
/-- several targets, one after another -/
def PGs (X : Cx) (ts : List Expr) (t : TGs) : Prop :=
  ∀ (pins : List (Addr × Obj)) (s : Shared) (σ : St) (H : Hp) (vs : List V) (us : List Value) (Q : St → Hp → Prop), Inv X pins σ H s → Vals vs us → t vs σ H Q →
    wpAny (model X.prog X.w) X.A (assignInOrder ((assignEach ts X.env).map (·.2)) us) (fun _ s' => ∃ σ' H', Inv X pins σ' H' s' ∧ Q σ' H') X.xe s
/-- o[i] = v, by values -/
abbrev TSet := V → V → V → Hp → (Hp → Prop) → Prop
def PSet (X : Cx) (t : TSet) : Prop :=
  ∀ (pins : List (Addr × Obj)) (s : Shared) (σ : St) (H : Hp) (o i v : V) (ov iv u : Value) (Q : Hp → Prop), Inv X pins σ H s → RelV o ov → RelV i iv → RelV v u → t o i v H Q →
    wpAny (model X.prog X.w) X.A (setItem ov iv u) (fun _ s' => ∃ H', Inv X pins σ H' s' ∧ Q H') X.xe s
/-- a op= b, by values -/
abbrev TIp := V → V → Hp → VK → Prop
def PIp (X : Cx) (op : Operator) (t : TIp) : Prop :=
  ∀ (pins : List (Addr × Obj)) (s : Shared) (σ : St) (H : Hp) (x y : V) (v u : Value) (Q : VK), Inv X pins σ H s → RelV x v → RelV y u → t x y H Q →
    wpAny (model X.prog X.w) X.A (inplaceOp op v u) (EP X pins σ Q) X.xe s
section
variable {X : Cx} {pos : Pos}
def gName (i : Nat) : TG := fun v σ H Q => Q (σ.set i (some v)) H
theorem pg_name {i : Nat} {x : Str} (hN : X.N.Nodup) (hi : X.N[i]? = some x) (hx : Loc X.env.scope x) (hf : X.fn x = true ∨ X.env.scope.names.lookup x = some .local := by first | exact .inl rfl | exact .inr rfl | assumption) : PG X (.Name x pos) (gName i) := by
  intro pins s σ H v u Q I r h
  exact wpAny_assign_Name (store_ok I hN hi hx r (fun s' I' => ⟨_, H, I', h⟩) hf)
def gNil : TGs := fun vs σ H Q => vs = [] ∧ Q σ H
def gCons (t : TG) (u : TGs) : TGs := fun vs σ H Q => ∃ v r, vs = v :: r ∧ t v σ H fun σ' H' => u r σ' H' Q
theorem pgs_nil : PGs X [] gNil := by
  intro pins s σ H vs us Q I r h
  obtain ⟨e, h⟩ := h
  subst e
  cases r
  exact assignInOrder_nil ⟨σ, H, I, h⟩
theorem pgs_cons {e : Expr} {es : List Expr} {t : TG} {u : TGs} (h1 : PG X e t) (h2 : PGs X es u)
    (hs : (assignEach (e :: es) X.env).map (·.2) = assign e X.env :: (assignEach es X.env).map (·.2) := by rfl) : PGs X (e :: es) (gCons t u) := by
  intro pins s σ H vs us Q I r h
  obtain ⟨v, vr, e1, h⟩ := h
  subst e1
  cases r with
  | cons r rr =>
    rw [hs]
    refine assignInOrder_cons (thn (h1 pins s σ H _ _ _ I r h) fun _ s1 ⟨σ1, H1, I1, q1⟩ => ?_)
    exact h2 pins s1 σ1 H1 _ _ Q I1 rr q1
/-- (a, b, ..) = a tuple of that length -/
def gTup (K : PySem.W.Frag) (n : Nat) (t : TGs) : TG := fun v σ H Q => ∃ a xs, v = .ref a ∧ SqT K H a xs ∧ xs.length = n ∧ t xs σ H Q
theorem pg_tup {es : List Expr} {k : Nat} {t : TGs} {n : Nat} (hc : X.calm = true) (h : PGs X es t)
    (hn : (assignEach es X.env).length = n := by rfl) (hst : (assignEach es X.env).findIdx? (·.1) = none := by rfl) : PG X (.Tuple es k pos) (gTup X.K n t) := by
  intro pins s σ H v u Q I r hw
  obtain ⟨a, xs, e1, hq, hl, hw⟩ := hw
  subst e1
  cases r
  obtain ⟨its, rv, ht, hz⟩ := I.tuple hq
  refine assign_Tuple_tuple (I.ok.hd hc) ht (by simp [hn, ← hl, rv.length]) hst fun h' hx => ?_
  have I1 : Inv X pins σ H { s with heap := h' } := I.kept (t' := s.toks) fun b o e => hx b o (Nat.ne_of_lt (Heap.lt_size e)) e
  exact h pins _ σ H xs _ Q I1 (by simpa using rv) hw
/-- o[i] = .. -/
def gSub (to ti : TE) (t : TSet) : TG := fun v σ H Q => to σ H fun o H1 => ti σ H1 fun i H2 => t o i v H2 fun H3 => Q σ H3
theorem pg_sub {o i : Expr} {to ti : TE} {t : TSet} (ho : PE X o to) (hi : PE X i ti) (hs : PSet X t)
    (ha : ∀ v, assign (.Subscript o i pos) X.env v = (do
      let ov ← holding [v] (eval o X.env)
      let iv ← holding [v, ov] (eval i X.env)
      standAt pos
      holding [v, ov, iv] (setItem ov iv v)
      release [v, ov, iv] []) := by intro _; rfl) : PG X (.Subscript o i pos) (gSub to ti t) := by
  intro pins s σ H v u Q I r h
  rw [ha]
  refine wpAny_bind (wpAny_holding (thn (ho pins s σ H _ I h) fun ov s1 ⟨x, H1, I1, r1, q1⟩ => ?_))
  refine wpAny_bind (wpAny_holding (thn (hi pins s1 σ H1 _ I1 q1) fun iv s2 ⟨y, H2, I2, r2, q2⟩ => ?_))
  refine wpAny_bind (wpAny_standAt (wpAny_bind (wpAny_holding (thn (hs pins s2 σ H2 x y v ov iv u _ I2 r1 r2 r q2) fun _ s3 ⟨H3, I3, q3⟩ => ?_))))
  exact wpAny_release ⟨σ, H3, I3, q3⟩
/-- target = value -/
def tAsg (te : TE) (g : TG) : TS := fun D σ H => te σ H fun x H1 => g x σ H1 D.nx
theorem ps_asg {tg e : Expr} {te : TE} {g : TG} (he : PE X e te) (hg : PG X tg g) (hs : swapsWithSole [tg] e pos.line X.env = pure false := by rfl) (hw : swappedStores [tg] e X.env = pure none := by rfl)
    (h1 : (assignEach [tg] X.env).map (·.2) = [assign tg X.env] := by rfl) : PS X (.Assign [tg] e pos) (tAsg te g) := by
  intro pins s σ H D I h
  refine wpAny_Assign_stores (thn (he pins s σ H _ I h) fun v s1 ⟨x, H1, I1, r1, q1⟩ => ?_) hs hw
  rw [h1]
  exact thn (hg pins s1 σ H1 x v _ I1 r1 q1) fun _ s2 q => q
/-- name = value -/
theorem ps_set {i : Nat} {x : Str} {e : Expr} {te : TE} {pos' : Pos} (hN : X.N.Nodup) (hi : X.N[i]? = some x) (hx : Loc X.env.scope x) (he : PE X e te) (hs : swapsWith e (some (.Name x pos')) pos.line X.env = pure false := by rfl) (hf : X.fn x = true ∨ X.env.scope.names.lookup x = some .local := by first | exact .inl rfl | exact .inr rfl | assumption) :
    PS X (.Assign [.Name x pos'] e pos) (tAsg te (gName i)) := by
  intro pins s σ H D I h
  refine wpAny_Assign_Name (thn (he pins s σ H _ I h) fun v s1 ⟨y, H1, I1, r1, q1⟩ => ?_) hs
  exact store_ok I1 hN hi hx r1 (fun s2 I2 => ⟨_, H1, I2, q1⟩) hf
/-- a, b = x, y with plain local names: stored from the right; the pair itself is not tracked (the opening rows as in PyProof/Rows/TupAssign.lean:23) -/
def tPar (i j : Nat) (ta : TA) : TS := fun D σ H => ta σ H fun vs H1 => ∃ v w, vs = [v, w] ∧ D.nx ((σ.set i (some v)).set j (some w)) H1
theorem ps_par {i j : Nat} {x y : Str} {a b : Expr} {ta : TA} {px py pt : Pos} {kt k2 pt2} (hc : X.calm = true) (hN : X.N.Nodup) (hi : X.N[i]? = some x) (hj : X.N[j]? = some y) (hij : i ≠ j)
    (hx : X.env.scope.names.lookup x = some .local) (hy : X.env.scope.names.lookup y = some .local) (ha : PA X [a, b] ta)
    (hw : swappedStores [.Tuple [.Name x px, .Name y py] kt pt] (.Tuple [a, b] k2 pt2) X.env = pure (some [x, y]))
    (hs : swapsWithSole [.Tuple [.Name x px, .Name y py] kt pt] (.Tuple [a, b] k2 pt2) pos.line X.env = pure false := by rfl) :
    PS X (.Assign [.Tuple [.Name x px, .Name y py] kt pt] (.Tuple [a, b] k2 pt2) pos) (tPar i j ta) := by
  intro pins s σ H D I h
  rw [exec_Assign_arm]
  refine wpAny_bind (wpAny_standAt ?_)
  rw [hs]
  refine wpAny_bind (wpAny_pure ?_)
  rw [if_neg (by decide)]
  refine wpAny_bind (Tuple_ (thn (ha _ pins s σ H _ I h) fun us s1 ⟨vs, H1, I1, r1, q1⟩ => ?_))
  obtain ⟨v, w, e1, q1⟩ := q1
  subst e1
  obtain ⟨u1, u2, rfl, rv, rw'⟩ : ∃ u1 u2, us = [u1, u2] ∧ RelV v u1 ∧ RelV w u2 := by
    cases r1 with
    | cons p q =>
      cases q with
      | cons p' q' =>
        cases q'
        exact ⟨_, _, rfl, p, p'⟩
  refine wpAny_newObj_type ?_ (by show 2 ≤ sizeLine; decide)
  have I2 : Inv X pins σ H1 { s1 with heap := s1.heap.push { cls := .type "tuple", data := .seq [u1, u2].toArray } } := I1.kept (t' := s1.toks) fun b o e => Heap.get?_push_of_some _ e
  rw [hw]
  refine wpAny_bind (wpAny_pure ?_)
  show wpAny (model X.prog X.w) X.A (do rule "assign.swapped-stores"; let items ← unpackItems (.ref s1.heap.objs.size) 2 none; assignInOrder [fun v => bindName X.env y v, fun v => bindName X.env x v] items.reverse; pure Flow.next) _ _ _
  refine wpAny_bind (wpAny_rule (wpAny_bind (unpackItems_tuple (items := #[u1, u2]) (I.ok.hd hc) (IsTup.new s1.heap _) fun h' hx' => ?_)))
  have I3 := I2.kept (h' := h') (t' := s1.toks) fun b o e => hx' b o (Nat.ne_of_lt (Heap.lt_size e)) e
  show wpAny _ _ (assignInOrder [fun v => bindName X.env y v, fun v => bindName X.env x v] [u2, u1] >>= fun _ => pure Flow.next) _ _ _
  refine wpAny_bind (assignInOrder_cons (wpAny_bindName (store_ok I3 hN hj (.inl hy) rw' (fun s2 I4 => ?_) (.inr hy))))
  refine assignInOrder_cons (wpAny_bindName (store_ok I4 hN hi (.inl hx) rv (fun s3 I5 => assignInOrder_nil (wpAny_pure ?_)) (.inr hx)))
  rw [List.set_comm _ _ (Ne.symm hij)] at I5
  exact ⟨_, H1, I5, q1⟩
/-- name op= e -/
def tAug (i : Nat) (te : TE) (ti : TIp) : TS := fun D σ H => ∃ x, σ[i]? = some (some x) ∧ te σ H fun y H1 => ti x y H1 fun z H2 => D.nx (σ.set i (some z)) H2
theorem ps_aug {i : Nat} {x : Str} {e : Expr} {te : TE} {op : Operator} {ti : TIp} {pos' : Pos} (hN : X.N.Nodup) (hi : X.N[i]? = some x) (hx : Loc X.env.scope x) (he : PE X e te) (ho : PIp X op ti) (hf : X.fn x = true ∨ X.env.scope.names.lookup x = some .local := by first | exact .inl rfl | exact .inr rfl | assumption) :
    PS X (.AugAssign (.Name x pos') op e pos) (tAug i te ti) := by
  intro pins s σ H D I h
  obtain ⟨v, e1, h⟩ := h
  obtain ⟨m, hn, hl⟩ := I.loc
  have vis : Vis X.env.scope x := by rcases hx with k | k; exact .inl k; exact .inr (.inl k)
  obtain ⟨u, r, l⟩ := hl i x v hi e1 vis
  refine wpAny_AugAssign_Name ?_
  have go : wpAny (model X.prog X.w) X.A (eval e X.env) (fun w s₂ => wpAny (model X.prog X.w) X.A (inplaceOp op u w) (fun r s₃ => wpAny (model X.prog X.w) X.A (storeName X.env x r) (fun _ => SP X pins D .next) X.xe s₃) X.xe s₂) X.xe s := by
    refine thn (he pins s σ H _ I h) fun w s1 ⟨y, H1, I1, r1, q1⟩ => ?_
    refine thn (ho pins s1 σ H1 v y u w _ I1 r r1 q1) fun z s2 ⟨zv, H2, I2, r2, q2⟩ => ?_
    exact store_ok I2 hN hi hx r2 (fun s3 I3 => ⟨_, H2, I3, q2⟩) hf
  rcases l with ⟨hk, hm⟩ | ⟨hk, c, hc, hcell⟩
  · exact wpAny_loadName_local I.ok.kind hk hn hm go
  · rcases hk with hk | hk
    · exact wpAny_loadName_cell I.ok.kind hk hc hcell go
    · rcases hx with k | k
      · have : X.env.scope.names.lookup x = some .free := hk
        rw [k] at this; cases this
      · have : X.env.scope.names.lookup x = some .free := hk
        rw [k] at this; cases this
/-- o[i] op= e -/
def tAugS (to ti te : TE) (tget : V → V → Hp → VK → Prop) (tip : TIp) (tset : TSet) : TS := fun D σ H => to σ H fun o H1 => ti σ H1 fun i H2 => tget o i H2 fun x H3 => te σ H3 fun y H4 => tip x y H4 fun z H5 => tset o i z H5 fun H6 => D.nx σ H6
/-- o[i], by values -/
def PGet (X : Cx) (t : V → V → Hp → VK → Prop) : Prop :=
  ∀ (pins : List (Addr × Obj)) (s : Shared) (σ : St) (H : Hp) (o i : V) (ov iv : Value) (Q : VK), Inv X pins σ H s → RelV o ov → RelV i iv → t o i H Q →
    wpAny (model X.prog X.w) X.A (getItem ov iv) (EP X pins σ Q) X.xe s
theorem ps_augS {o i e : Expr} {to ti te : TE} {tget : V → V → Hp → VK → Prop} {tip : TIp} {tset : TSet} {op : Operator} {tpos : Pos} (ho : PE X o to) (hi : PE X i ti) (hg : PGet X tget) (he : PE X e te) (hp : PIp X op tip) (hs : PSet X tset)
    (ha : ∀ ov iv new, augStore i ov iv new = (do holding [new, ov, iv] (setItem ov iv new); release [new, ov, iv] []; pure .next) := by intros; rfl) : PS X (.AugAssign (.Subscript o i tpos) op e pos) (tAugS to ti te tget tip tset) := by
  intro pins s σ H D I h
  refine wpAny_AugAssign_SubscriptAny (thn (ho pins s σ H _ I h) fun ov s1 ⟨x1, H1, I1, r1, q1⟩ => ?_) ha
  refine thn (hi pins s1 σ H1 _ I1 q1) fun iv s2 ⟨x2, H2, I2, r2, q2⟩ => ?_
  refine thn (hg pins s2 σ H2 x1 x2 ov iv _ I2 r1 r2 q2) fun old s3 ⟨x3, H3, I3, r3, q3⟩ => ?_
  refine thn (he pins s3 σ H3 _ I3 q3) fun v s4 ⟨x4, H4, I4, r4, q4⟩ => ?_
  refine thn (hp pins s4 σ H4 x3 x4 old v _ I4 r3 r4 q4) fun new s5 ⟨x5, H5, I5, r5, q5⟩ => ?_
  exact thn (hs pins s5 σ H5 x1 x2 x5 ov iv new _ I5 r1 r2 r5 q5) fun _ s6 ⟨H6, I6, q6⟩ => ⟨σ, H6, I6, q6⟩
/-- ints -/
def ipI (f : Int → Int → Int) : TIp := fun x y H Q => ∃ i j, x = .int i ∧ y = .int j ∧ Q (.int (f i j)) H
theorem ip_add : PIp X .Add (ipI fun i j => i + j) := by
  intro pins s σ H x y v u Q I r1 r2 h
  obtain ⟨i, j, e1, e2, q⟩ := h
  subst e1; subst e2
  obtain ⟨t, rfl⟩ := r1
  obtain ⟨t', rfl⟩ := r2
  exact iadd_int ⟨.int _, H, I.tok _, ⟨_, rfl⟩, q⟩
theorem ip_sub : PIp X .Sub (ipI fun i j => i - j) := by
  intro pins s σ H x y v u Q I r1 r2 h
  obtain ⟨i, j, e1, e2, q⟩ := h
  subst e1; subst e2
  obtain ⟨t, rfl⟩ := r1
  obtain ⟨t', rfl⟩ := r2
  exact isub_int ⟨.int _, H, I.tok _, ⟨_, rfl⟩, q⟩
end

/-! ### while -/
section
variable {X : Cx} {pos : Pos}
/-- the invariant W with its measure -/
def tWhile (c : TT) (tb : TS) : TS := fun D σ H => ∃ W : Nat → St → Hp → Prop, (∃ m, W m σ H) ∧ ∀ m σ H, W m σ H →
  c σ H fun b H1 => if b = true then ∃ N : St → Hp → Prop, (∀ σ' H', N σ' H' → ∃ m', m' < m ∧ W m' σ' H') ∧ tb { D with nx := N, ct := N, bk := D.nx } σ H1 else D.nx σ H1
theorem ps_while {c : Expr} {body : List Stmt} {tc : TT} {tb : TS} (hp : PassesOwn (model X.prog X.w) X.A X.env X.xe) (hc : PT X c tc) (hb : PSs X body tb) : PS X (.While c body [] pos) (tWhile tc tb) := by
  intro pins s σ H D I h
  obtain ⟨W, ⟨m0, w0⟩, turn⟩ := h
  refine wpAny_While (codeAny_whileLoop (fun n s' => ∃ σ' H', Inv X pins σ' H' s' ∧ W n σ' H') ?_ m0 ⟨σ, H, I, w0⟩)
  rintro n s1 ⟨σ1, H1, I1, w1⟩
  refine wpAny_passesOwn hp (thn (hc pins s1 σ1 H1 _ I1 (turn n σ1 H1 w1)) fun b s2 ⟨H2, I2, q2⟩ => ?_)
  cases b with
  | true =>
    obtain ⟨N, hN, q2⟩ := q2
    rw [if_pos rfl]
    refine wpAny_passesOwn hp (thn (hb pins s2 σ1 H2 _ I2 q2) fun f s3 q3 => ?_)
    cases f with
    | next =>
      obtain ⟨σ3, H3, I3, n3⟩ := q3
      obtain ⟨m', hm, w3⟩ := hN σ3 H3 n3
      exact ⟨m', hm, σ3, H3, I3, w3⟩
    | cont =>
      obtain ⟨σ3, H3, I3, n3⟩ := q3
      obtain ⟨m', hm, w3⟩ := hN σ3 H3 n3
      exact ⟨m', hm, σ3, H3, I3, w3⟩
    | brk => exact q3
    | ret v => exact q3
  | false =>
    rw [if_neg Bool.false_ne_true]
    exact wpAny_execs_nil ⟨σ1, H2, I2, q2⟩
end

/-! ### what a loop or a comprehension walks -/
/-- at turn i: it yields x (the heap may grow), or it stops -/
structure It where
  go : Nat → Hp → Prop
  yld : Nat → Hp → V → Hp → Prop
  stop : Nat → Hp → Prop
/-- the iterator's own objects may turn: they are not the frame's, not pinned, younger than the entry (or a comprehension's own) -/
def FpOk (X : Cx) (pins : List (Addr × Obj)) (H : Hp) (b : Addr) : Prop :=
  H b = none ∧ b ≠ X.env.locals ∧ b ∉ X.fs ∧ (b ∈ X.ex ∨ X.s₀.heap.objs.size ≤ b) ∧ (∀ x c, X.env.cells.lookup x = some c → c ≠ b) ∧ ∀ p ∈ X.pn ++ pins, p.1 ≠ b
theorem Inv.fpOk {X : Cx} {pins : List (Addr × Obj)} {σ : St} {H H' : Hp} {s : Shared} {b : Addr} (I : Inv X pins σ H s) (hb : s.heap.objs.size ≤ b) (hn : H' b = none) : FpOk X pins H' b := by
  refine ⟨hn, Nat.ne_of_gt (Nat.lt_of_lt_of_le I.lt hb), I.nofs hb, .inr (Nat.le_trans I.sz hb), fun x c e z => ?_, fun p hp z => ?_⟩
  · obtain ⟨v, q⟩ := I.cell x c e
    exact absurd (Nat.lt_of_lt_of_le q.lt (by rw [z]; exact hb)) (Nat.lt_irrefl _)
  · exact absurd (Nat.lt_of_lt_of_le (Heap.lt_size (I.pin p hp).1) (by rw [z]; exact hb)) (Nat.lt_irrefl _)
structure Turn (P : Program) (w : World) (K : PySem.W.Frag) (tg : Expr) (J : It) (fp : List Addr) (it : Addr) (tn : Nat → Heap → Prop) : Prop where
  mem : it ∈ fp
  obj : ∀ i h, tn i h → ∀ b ∈ fp, ∃ o, h.get? b = some o ∧ ∀ v, o.data ≠ .cell v
  keep : ∀ i h h', tn i h → (∀ b ∈ fp, ∀ o, h.get? b = some o → h'.get? b = some o) → tn i h'
  item : ∀ (X : Cx), X.prog = P → X.w = w → X.K = K → X.calm = true → ∀ (i : Nat) (pins : List (Addr × Obj)) (s : Shared) (σ : St) (H : Hp) (E : Value → Shared → Prop), Inv X pins σ H s → (∀ b ∈ fp, FpOk X pins H b) → tn i s.heap → J.go i H →
    wpAny (model P w) X.A (pyNext (.ref it)) (fun r s1 => ∃ u, r = some u ∧
      wpAny (model P w) X.A (letOwnedTupleGo tg (.ref it) u) (fun _ s2 => ∃ x H', Inv X pins σ H' s2 ∧ RelV x u ∧ J.yld i H x H' ∧ tn (i + 1) s2.heap ∧ ∀ b ∈ fp, H' b = none) E s1) E s
  done : ∀ (X : Cx), X.prog = P → X.w = w → X.K = K → X.calm = true → ∀ (i : Nat) (pins : List (Addr × Obj)) (s : Shared) (σ : St) (H : Hp) (E : Value → Shared → Prop), Inv X pins σ H s → (∀ b ∈ fp, FpOk X pins H b) → tn i s.heap → J.stop i H →
    wpAny (model P w) X.A (pyNext (.ref it)) (fun r s1 => r = none ∧ Inv X pins σ H s1) E s
  self : ∀ (A : Around) (i : Nat) (s : Shared) (Q : Value → Shared → Prop) (E : Value → Shared → Prop), tn i s.heap → Q (.ref it) s → wpAny (model P w) A (pyIter (.ref it)) Q E s
abbrev TI := St → Hp → (It → Hp → Prop) → Prop
/-- an iterator has come -/
def PIE (X : Cx) (pins : List (Addr × Obj)) (σ : St) (tg : Expr) (R : It → Hp → Prop) (itv : Value) (s2 : Shared) : Prop :=
  ∃ (it : Addr) (fp : List Addr) (tn : Nat → Heap → Prop) (J : It) (H' : Hp), itv = .ref it ∧ Inv X pins σ H' s2 ∧ Turn X.prog X.w X.K tg J fp it tn ∧ tn 0 s2.heap ∧ (∀ b ∈ fp, FpOk X pins H' b) ∧ R J H'
def PI (X : Cx) (tg iter : Expr) (wi : TI) : Prop :=
  ∀ (pins : List (Addr × Obj)) (s : Shared) (σ : St) (H : Hp) (R : It → Hp → Prop), Inv X pins σ H s → wi σ H R →
    wpAny (model X.prog X.w) X.A (eval iter X.env) (fun v s1 => wpAny (model X.prog X.w) X.A (pyIter v) (PIE X pins σ tg R) X.xe s1) X.xe s

/-- the step ahead of the store is nothing for an iterator that keeps no tuple -/
theorem go_of {M : Model} {A : Around} {E : Value → Shared → Prop} {s : Shared} {tg : Expr} {it : Addr} {u : Value} {o : Obj} {n : String} {vs : Array Value} {Q : Unit → Shared → Prop} (ho : s.heap.get? it = some o) (hc : o.cls = .type n) (hd : o.data = .fields vs)
    (hn : ["enumerate", "zip", "dict_itemiterator", "dict_reverseitemiterator", "odict_iterator", "itertools.zip_longest", "itertools.pairwise"].contains n = false) (hQ : Q () s) : wpAny M A (letOwnedTupleGo tg (.ref it) u) Q E s := by
  unfold letOwnedTupleGo
  cases tg <;> first
    | exact wpAny_pure hQ
    | (cases u <;> first
        | exact wpAny_pure hQ
        | (refine wpAny_bind (wpAny_load ho ?_)
           rw [hc, hd]
           show wpAny M A (if (["enumerate", "zip", "dict_itemiterator", "dict_reverseitemiterator", "odict_iterator", "itertools.zip_longest", "itertools.pairwise"].contains n && vs[0]? == some (rawInt _)) = true then _ else _) Q E s
           rw [if_neg (by intro h; rw [hn, Bool.false_and] at h; cases h)]
           exact wpAny_pure hQ))

/-- the list at a, as it stands at each turn (a loop may append to it) -/
def Itl (K : PySem.W.Frag) (a : Addr) : It :=
  ⟨fun i H => ∃ xs x, SqL K H a xs ∧ xs[i]? = some x, fun i H x H' => H' = H ∧ ∀ xs, SqL K H a xs → xs[i]? = some x, fun i H => ∃ xs, SqL K H a xs ∧ xs.length ≤ i⟩
def Itt (K : PySem.W.Frag) (a : Addr) : It :=
  ⟨fun i H => ∃ xs x, SqT K H a xs ∧ xs[i]? = some x, fun i H x H' => H' = H ∧ ∀ xs, SqT K H a xs → xs[i]? = some x, fun i H => ∃ xs, SqT K H a xs ∧ xs.length ≤ i⟩
/-- lo, lo + 1, .. (n of them) -/
def Itr (lo : Int) (n : Nat) : It := ⟨fun i _ => i < n, fun i H x H' => H' = H ∧ x = .int (lo + i), fun i _ => n ≤ i⟩
theorem turn_list {P : Program} {w : World} {K : PySem.W.Frag} {tg : Expr} (a it : Addr) : Turn P w K tg (Itl K a) [it] it (fun i h => h.IsListIter it a i) where
  mem := by simp
  obj := fun i h st b hb => by
    have e : b = it := by simpa using hb
    subst e
    obtain ⟨o, e, c, d⟩ := st
    exact ⟨o, e, fun v z => by rw [d] at z; cases z⟩
  keep := fun i h h' st k => st.at fun o e => k it (by simp) o e
  item := by
    intro X hP hw hK hc i pins s σ H E I hf st hg
    subst hP hw hK
    obtain ⟨xs, x, hq, hx⟩ := hg
    obtain ⟨its, rv, p, hz⟩ := I.list hq
    obtain ⟨u, hu, ru⟩ := rv.get hx
    obtain ⟨f0, f1, f2, f3, f4, f5⟩ := hf it (by simp)
    refine wpAny_pyNext_list_item st p.isList (x := u) (by simpa using hu) fun h' st' sb => ?_
    have I1 : Inv X pins σ H { s with heap := h' } := I.turned (t' := s.toks) (fun b o hb e => (sb.2 b hb).trans e) f0 f1 f3 f4 f5
    obtain ⟨o, e, c, d⟩ := id st'
    exact ⟨u, rfl, go_of (s := { s with heap := h' }) e c d (by decide) ⟨x, H, I1, ru, ⟨rfl, fun ys hy => by rw [I.list_inj hy hq]; exact hx⟩, st', fun b hb => (hf b hb).1⟩⟩
  done := by
    intro X hP hw hK hc i pins s σ H E I hf st hg
    subst hP hw hK
    obtain ⟨xs, hq, hx⟩ := hg
    obtain ⟨its, rv, p, hz⟩ := I.list hq
    obtain ⟨f0, f1, f2, f3, f4, f5⟩ := hf it (by simp)
    have hl := rv.length
    exact wpAny_pyNext_list_end (I.ok.hd hc) st p.isList (by simp; omega) fun h' eb => ⟨rfl, I.turned (t' := s.toks) (fun b o hb e => eb b o hb e) f0 f1 f3 f4 f5⟩
  self := fun _ _ _ _ _ st h => wpAny_pyIter_listiter st h
theorem turn_tuple {P : Program} {w : World} {K : PySem.W.Frag} {tg : Expr} (a it : Addr) : Turn P w K tg (Itt K a) [it] it (fun i h => h.IsTupleIter it a i) where
  mem := by simp
  obj := fun i h st b hb => by
    have e : b = it := by simpa using hb
    subst e
    obtain ⟨o, e, c, d⟩ := st
    exact ⟨o, e, fun v z => by rw [d] at z; cases z⟩
  keep := fun i h h' st k => st.at fun o e => k it (by simp) o e
  item := by
    intro X hP hw hK hc i pins s σ H E I hf st hg
    subst hP hw hK
    obtain ⟨xs, x, hq, hx⟩ := hg
    obtain ⟨its, rv, p, hz⟩ := I.tuple hq
    obtain ⟨u, hu, ru⟩ := rv.get hx
    obtain ⟨f0, f1, f2, f3, f4, f5⟩ := hf it (by simp)
    refine wpAny_pyNext_tuple_item st (show s.heap.IsTuple a its.toArray from p) (x := u) (by simpa using hu) fun h' st' sb => ?_
    have I1 : Inv X pins σ H { s with heap := h' } := I.turned (t' := s.toks) (fun b o hb e => (sb.2 b hb).trans e) f0 f1 f3 f4 f5
    obtain ⟨o, e, c, d⟩ := id st'
    exact ⟨u, rfl, go_of (s := { s with heap := h' }) e c d (by decide) ⟨x, H, I1, ru, ⟨rfl, fun ys hy => by rw [I.tuple_inj hy hq]; exact hx⟩, st', fun b hb => (hf b hb).1⟩⟩
  done := by
    intro X hP hw hK hc i pins s σ H E I hf st hg
    subst hP hw hK
    obtain ⟨xs, hq, hx⟩ := hg
    obtain ⟨its, rv, p, hz⟩ := I.tuple hq
    obtain ⟨f0, f1, f2, f3, f4, f5⟩ := hf it (by simp)
    have hl := rv.length
    exact wpAny_pyNext_tuple_end (I.ok.hd hc) st (show s.heap.IsTuple a its.toArray from p) (by simp; omega) fun h' eb => ⟨rfl, I.turned (t' := s.toks) (fun b o hb e => eb b o hb e) f0 f1 f3 f4 f5⟩
  self := fun _ _ _ _ _ st h => wpAny_pyIter_tupleiter st h
theorem turn_range {P : Program} {w : World} {K : PySem.W.Frag} {tg : Expr} (it : Addr) (lo : Int) (n : Nat) : Turn P w K tg (Itr lo n) [it] it (fun i h => IsRangeIter h it (lo + (i : Nat) * 1) ((n : Int) - (i : Nat)) 1) where
  mem := by simp
  obj := fun i h st b hb => by
    have e : b = it := by simpa using hb
    subst e
    exact ⟨_, st, fun v z => by
      have z' : Data.fields _ = Data.cell v := z
      cases z'⟩
  keep := fun i h h' st k => k it (by simp) _ st
  item := by
    intro X hP hw hK hc i pins s σ H E I hf st hg
    subst hP hw hK
    obtain ⟨f0, f1, f2, f3, f4, f5⟩ := hf it (by simp)
    have W := Walks.range (prog := X.prog) (w := X.w) (I.ok.hd hc) it lo 1 n
    refine W.item i s _ _ hg st fun v h' tk hv st' kk => ?_
    obtain ⟨t, rfl⟩ := hv
    have I1 : Inv X pins σ H { s with heap := h', toks := tk } := I.turned (fun b o hb e => kk b o (by simpa using hb) e) f0 f1 f3 f4 f5
    refine ⟨_, rfl, go_of (s := { s with heap := h', toks := tk }) (n := "range_iterator") st' rfl rfl (by decide) ⟨.int (lo + i), H, I1, ⟨t, ?_⟩, ⟨rfl, rfl⟩, st', fun b hb => (hf b hb).1⟩⟩
    rw [Int.mul_one]
  done := by
    intro X hP hw hK hc i pins s σ H E I hf st hg
    subst hP hw hK
    obtain ⟨f0, f1, f2, f3, f4, f5⟩ := hf it (by simp)
    exact wpAny_pyNext_range_end (I.ok.hd hc) st (by have : n ≤ i := hg; omega) fun h' eb => ⟨rfl, I.turned (t' := s.toks) (fun b o hb e => eb b o hb e) f0 f1 f3 f4 f5⟩
  self := fun _ _ _ _ _ st h => wpAny_pyIter_rangeiter st h
end L2

namespace L2
open PySem PySem.Spec PyProof.Rows
section
variable {X : Cx} {tg : Expr}
def iList (K : PySem.W.Frag) (tl : TE) : TI := fun σ H R => tl σ H fun x H1 => ∃ a, x = .ref a ∧ (∃ xs, SqL K H1 a xs) ∧ R (Itl K a) H1
def iTup (K : PySem.W.Frag) (tl : TE) : TI := fun σ H R => tl σ H fun x H1 => ∃ a, x = .ref a ∧ (∃ xs, SqT K H1 a xs) ∧ R (Itt K a) H1
theorem pi_list {l : Expr} {tl : TE} (hl : PE X l tl) : PI X tg l (iList X.K tl) := by
  intro pins s σ H R I h
  refine thn (hl pins s σ H _ I h) fun v s1 ⟨x, H1, I1, r1, q1⟩ => ?_
  obtain ⟨a, e, ⟨xs, hq⟩, q⟩ := q1
  subst e
  cases r1
  obtain ⟨its, rv, p, hz⟩ := I1.list hq
  refine wpAny_pyIter_list p.isList ?_
  refine ⟨s1.heap.objs.size, [s1.heap.objs.size], _, _, H1, rfl, I1.kept (t' := s1.toks) fun b o e => Heap.get?_push_of_some _ e, turn_list a _, ⟨_, Heap.get?_push_size _ rfl, rfl, rfl⟩, fun b hb => ?_, q⟩
  have e : b = s1.heap.objs.size := by simpa using hb
  subst e
  exact I1.fpOk (Nat.le_refl _) (I1.hok.fresh (Nat.le_refl _))
theorem pi_tup {l : Expr} {tl : TE} (hl : PE X l tl) : PI X tg l (iTup X.K tl) := by
  intro pins s σ H R I h
  refine thn (hl pins s σ H _ I h) fun v s1 ⟨x, H1, I1, r1, q1⟩ => ?_
  obtain ⟨a, e, ⟨xs, hq⟩, q⟩ := q1
  subst e
  cases r1
  obtain ⟨its, rv, p, hz⟩ := I1.tuple hq
  refine wpAny_pyIter_tuple (show s1.heap.IsTuple a its.toArray from p) ?_
  refine ⟨s1.heap.objs.size, [s1.heap.objs.size], _, _, H1, rfl, I1.kept (t' := s1.toks) fun b o e => Heap.get?_push_of_some _ e, turn_tuple a _, ⟨_, Heap.get?_push_size _ rfl, rfl, rfl⟩, fun b hb => ?_, q⟩
  have e : b = s1.heap.objs.size := by simpa using hb
  subst e
  exact I1.fpOk (Nat.le_refl _) (I1.hok.fresh (Nat.le_refl _))
/-- a range object just made, walked -/
theorem range_it {pins : List (Addr × Obj)} {σ : St} {H : Hp} {s : Shared} {R : It → Hp → Prop} {E : Value → Shared → Prop} {lo hi : Int} {t u v : Tok} {tk : Nat} (I : Inv X pins σ H s) (h1 : -(2 ^ 62) ≤ lo) (h2 : lo < 2 ^ 62) (h3 : -(2 ^ 62) ≤ hi) (h4 : hi < 2 ^ 62)
    (q : R (Itr lo (hi - lo).toNat) H) : wpAny (model X.prog X.w) X.A (pyIter (.ref s.heap.objs.size)) (PIE X pins σ tg R) E { s with heap := s.heap.push { cls := .type "range", data := .fields #[.int lo t, .int hi u, .int 1 v] }, toks := tk } := by
  refine wpAny_pyIter_range (IsRange.new ..) (small_one h1 h2 h3 h4) ?_
  have I1 : Inv X pins σ H { s with heap := s.heap.push { cls := .type "range", data := .fields #[.int lo t, .int hi u, .int 1 v] }, toks := tk } := I.kept fun b o e => Heap.get?_push_of_some _ e
  refine ⟨(s.heap.push { cls := .type "range", data := .fields #[.int lo t, .int hi u, .int 1 v] }).objs.size, [(s.heap.push { cls := .type "range", data := .fields #[.int lo t, .int hi u, .int 1 v] }).objs.size], _, _, H, rfl,
    I1.kept (t' := tk) fun b o e => Heap.get?_push_of_some _ e, turn_range _ lo (hi - lo).toNat, ?_, fun b hb => ?_, q⟩
  · have e1 : lo + ((0 : Nat) : Int) * 1 = lo := by simp
    have e2 : (((hi - lo).toNat : Nat) : Int) - ((0 : Nat) : Int) = Builtin.Range.rangeSize lo hi 1 := by rw [rangeSize_one]; split <;> omega
    show IsRangeIter _ _ (lo + ((0 : Nat) : Int) * 1) ((((hi - lo).toNat : Nat) : Int) - ((0 : Nat) : Int)) 1
    rw [e1, e2]
    exact Heap.get?_push_size _ rfl
  · have e : b = (s.heap.push { cls := .type "range", data := .fields #[.int lo t, .int hi u, .int 1 v] }).objs.size := by simpa using hb
    subst e
    exact I1.fpOk (Nat.le_refl _) (I1.hok.fresh (Nat.le_refl _))
def iRng1 (ta : TA) : TI := fun σ H R => ta σ H fun vs H1 => ∃ j : Int, vs = [.int j] ∧ -(2 ^ 62) ≤ j ∧ j < 2 ^ 62 ∧ R (Itr 0 j.toNat) H1
def iRng2 (ta : TA) : TI := fun σ H R => ta σ H fun vs H1 => ∃ i j : Int, vs = [.int i, .int j] ∧ (-(2 ^ 62) ≤ i ∧ i < 2 ^ 62 ∧ -(2 ^ 62) ≤ j ∧ j < 2 ^ 62) ∧ R (Itr i (j - i).toNat) H1
theorem pi_range1 {a : Expr} {ta : TA} {p pos : Pos} (hg : Gl X "range") (hm : X.mg "range" = none) (ha : PA X [a] ta) (hs : starEach [a] X.env = [(false, eval a X.env)] := by rfl) : PI X tg (.Call (.Name "range" p) [a] [] pos) (iRng1 ta) := by
  intro pins s σ H R I h
  refine Call_ (ld_blt I hg hm boot_range (PyProof.Rows.callWith_type1 (thn (ha pos pins s σ H _ I h) fun us s1 ⟨vs, H1, I1, r1, q1⟩ => ?_) hs rfl))
  obtain ⟨j, e, q1, q2, q⟩ := q1
  subst e
  cases r1 with
  | cons r rr =>
    cases rr
    obtain ⟨t, rfl⟩ := r
    exact call_range_1 (range_it I1 (by omega) (by omega) q1 q2 (by simpa using q))
theorem pi_range2 {a b : Expr} {ta : TA} {p pos : Pos} (hg : Gl X "range") (hm : X.mg "range" = none) (ha : PA X [a, b] ta) (hs : starEach [a, b] X.env = [(false, eval a X.env), (false, eval b X.env)] := by rfl) (hs2 : starEach [b] X.env = [(false, eval b X.env)] := by rfl) :
    PI X tg (.Call (.Name "range" p) [a, b] [] pos) (iRng2 ta) := by
  intro pins s σ H R I h
  refine Call_ (ld_blt I hg hm boot_range (PyProof.Rows.callWith_type1 (thn (ha pos pins s σ H _ I h) fun us s1 ⟨vs, H1, I1, r1, q1⟩ => ?_) (by rw [hs, hs2]) (by rw [hs2]; rfl)))
  obtain ⟨i, j, e, ⟨q1, q2, q3, q4⟩, q⟩ := q1
  subst e
  cases r1 with
  | cons r rr =>
    cases rr with
    | cons r' rr =>
      cases rr
      obtain ⟨t, rfl⟩ := r
      obtain ⟨t', rfl⟩ := r'
      exact call_range_2 (range_it I1 q1 q2 q3 q4 q)

/-! ### for -/
/-- W: the invariant by the turn and a measure; N: what the body is to reach -/
def tFor (wi : TI) (g : TG) (tb : TS) : TS := fun D σ H => wi σ H fun J H1 => ∃ W : Nat → Nat → St → Hp → Prop, (∃ m, W 0 m σ H1) ∧ ∀ i m σ H, W i m σ H →
  (J.stop i H ∧ D.nx σ H) ∨ (J.go i H ∧ ∃ N : St → Hp → Prop, (∀ σ' H', N σ' H' → ∃ m', m' < m ∧ W (i + 1) m' σ' H') ∧ ∀ x H', J.yld i H x H' → g x σ H' fun σ2 H2 => tb { D with nx := N, ct := N, bk := D.nx } σ2 H2)
/-- the records at fp as they stand -/
def pinsAt (fp : List Addr) (h : Heap) : List (Addr × Obj) := fp.filterMap fun b => (h.get? b).map fun o => (b, o)
theorem mem_pinsAt {fp : List Addr} {h : Heap} {b : Addr} {o : Obj} (hb : b ∈ fp) (e : h.get? b = some o) : (b, o) ∈ pinsAt fp h := List.mem_filterMap.mpr ⟨b, hb, by rw [e]; rfl⟩
theorem of_pinsAt {fp : List Addr} {h : Heap} {p : Addr × Obj} (hp : p ∈ pinsAt fp h) : p.1 ∈ fp ∧ h.get? p.1 = some p.2 := by
  obtain ⟨b, hb, e⟩ := List.mem_filterMap.mp hp
  cases q : h.get? b with
  | none => rw [q] at e; cases e
  | some o =>
    rw [q] at e
    have e' : (b, o) = p := Option.some.inj e
    subst e'
    exact ⟨hb, q⟩
theorem Inv.pinned {pins : List (Addr × Obj)} {σ : St} {H : Hp} {s : Shared} {fp : List Addr} (I : Inv X pins σ H s) (hf : ∀ b ∈ fp, FpOk X pins H b) (ho : ∀ b ∈ fp, ∃ o, s.heap.get? b = some o ∧ ∀ v, o.data ≠ .cell v) : Inv X (pins ++ pinsAt fp s.heap) σ H s :=
  I.pins_of fun p hp => (List.mem_append.mp hp).elim (fun z => I.pin p (List.mem_append_right _ z)) fun z => by
    obtain ⟨hb, e⟩ := of_pinsAt z
    obtain ⟨f0, f1, f2, _⟩ := hf p.1 hb
    obtain ⟨o, e', d⟩ := ho p.1 hb
    rw [e] at e'; cases e'
    exact ⟨e, f0, f1, f2, d⟩
theorem Inv.unpinned {pins pl : List (Addr × Obj)} {σ : St} {H : Hp} {s : Shared} (I : Inv X (pins ++ pl) σ H s) : Inv X pins σ H s := I.pins_of fun p hp => I.pin p (List.mem_append_right _ (List.mem_append_left _ hp))
theorem ps_for {iter : Expr} {body : List Stmt} {wi : TI} {g : TG} {tb : TS} {pos : Pos} (hp : PassesOwn (model X.prog X.w) X.A X.env X.xe) (hc : X.calm = true) (hi : PI X tg iter wi) (hg : PG X tg g) (hb : PSs X body tb)
    (hs : ∀ x, foldedSetIterable iter X.env x = pure x := by intro _; rfl) : PS X (.For tg iter body [] pos) (tFor wi g tb) := by
  intro pins s σ H D I h
  refine wpAny_For (thn (hi pins s σ H _ I h) fun v s1 h1 => thn h1 fun itv s2 h2 => ?_) hs
  obtain ⟨it, fp, tn, J, H2, e, I2, T, st2, f2, W, ⟨m0, w0⟩, turn⟩ := h2
  subst e
  -- what stays true of the iterator's objects through the loop
  have stat : ∀ {H' : Hp}, (∀ b ∈ fp, H' b = none) → ∀ b ∈ fp, FpOk X pins H' b := fun hn b hb => ⟨hn b hb, (f2 b hb).2⟩
  refine codeAny_forLoop_any (fun n s' => ∃ i σ' H', Inv X pins σ' H' s' ∧ tn i s'.heap ∧ (∀ b ∈ fp, H' b = none) ∧ W i n σ' H') ?_ m0 ⟨0, σ, H2, I2, st2, fun b hb => (f2 b hb).1, w0⟩
  rintro n s3 ⟨i, σ3, H3, I3, st3, fr3, w3⟩
  rcases turn i n σ3 H3 w3 with ⟨stop, qn⟩ | ⟨go, N, hN, step⟩
  · refine wpAny_passesOwn hp (thn (T.done X rfl rfl rfl hc i pins s3 σ3 H3 X.xe I3 (stat fr3) st3 stop) fun r s4 ⟨hr, I4⟩ => ?_)
    subst hr
    exact wpAny_execs_nil ⟨σ3, H3, I4, qn⟩
  · refine wpAny_passesOwn hp (thn (T.item X rfl rfl rfl hc i pins s3 σ3 H3 X.xe I3 (stat fr3) st3 go) fun r s4 ⟨u, hr, h4⟩ => ?_)
    subst hr
    refine wpAny_passesOwn hp (thn h4 fun _ s5 ⟨x, H5, I5, r5, y5, st5, fr5⟩ => ?_)
    have I5' := I5.pinned (stat fr5) (T.obj _ _ st5)
    refine wpAny_passesOwn hp (thn (hg _ s5 σ3 H5 x u _ I5' r5 (step x H5 y5)) fun _ s6 ⟨σ6, H6, I6, q6⟩ => ?_)
    refine wpAny_passesOwn hp (thn (hb _ s6 σ6 H6 _ I6 q6) fun f s7 q7 => ?_)
    have again : ∀ {σ7 : St} {H7 : Hp}, Inv X (pins ++ pinsAt fp s5.heap) σ7 H7 s7 → N σ7 H7 → ∃ m, m < n ∧ ∃ i σ' H', Inv X pins σ' H' s7 ∧ tn i s7.heap ∧ (∀ b ∈ fp, H' b = none) ∧ W i m σ' H' := fun {σ7 H7} I7 n7 => by
      obtain ⟨m', hm, w7⟩ := hN σ7 H7 n7
      refine ⟨m', hm, i + 1, σ7, H7, I7.unpinned, T.keep _ _ _ st5 fun b hb o e => (I7.pin (b, o) (List.mem_append_right _ (List.mem_append_right _ (mem_pinsAt hb e)))).1, fun b hb => ?_, w7⟩
      obtain ⟨o, e, d⟩ := T.obj _ _ st5 b hb
      exact (I7.pin (b, o) (List.mem_append_right _ (List.mem_append_right _ (mem_pinsAt hb e)))).2.1
    cases f with
    | next => obtain ⟨σ7, H7, I7, n7⟩ := q7; exact again I7 n7
    | cont => obtain ⟨σ7, H7, I7, n7⟩ := q7; exact again I7 n7
    | brk => obtain ⟨σ7, H7, I7, q7⟩ := q7; exact ⟨σ7, H7, I7.unpinned, q7⟩
    | ret v => obtain ⟨x7, σ7, H7, I7, r7, q7⟩ := q7; exact ⟨x7, σ7, H7, I7.unpinned, r7, q7⟩
end

/-! ### the forms one uses -/
/-- over a list that the body leaves as it is -/
theorem for_list {K : PySem.W.Frag} {a : Addr} {xs : List V} {g : TG} {tb : TS} {D : Ends} {σ : St} {H : Hp} (Pv : Nat → St → Hp → Prop) (h0 : Pv 0 σ H) (hl : ∀ i σ H, i ≤ xs.length → Pv i σ H → SqL K H a xs)
    (hs : ∀ i x σ H, xs[i]? = some x → Pv i σ H → g x σ H fun σ2 H2 => tb { D with nx := Pv (i + 1), ct := Pv (i + 1), bk := D.nx } σ2 H2) (hd : ∀ σ H, Pv xs.length σ H → D.nx σ H) :
    ∃ W : Nat → Nat → St → Hp → Prop, (∃ m, W 0 m σ H) ∧ ∀ i m σ H, W i m σ H →
      ((Itl K a).stop i H ∧ D.nx σ H) ∨ ((Itl K a).go i H ∧ ∃ N : St → Hp → Prop, (∀ σ' H', N σ' H' → ∃ m', m' < m ∧ W (i + 1) m' σ' H') ∧ ∀ x H', (Itl K a).yld i H x H' → g x σ H' fun σ2 H2 => tb { D with nx := N, ct := N, bk := D.nx } σ2 H2) := by
  refine ⟨fun i m σ H => m = xs.length - i ∧ i ≤ xs.length ∧ Pv i σ H, ⟨xs.length, by simp, Nat.zero_le _, h0⟩, ?_⟩
  rintro i m σ H ⟨rfl, hi, p⟩
  have q := hl i σ H hi p
  by_cases hlt : i < xs.length
  · refine .inr ⟨⟨xs, xs[i], q, by simp [hlt]⟩, Pv (i + 1), fun σ' H' p' => ⟨xs.length - (i + 1), by omega, rfl, hlt, p'⟩, fun x H' y => ?_⟩
    obtain ⟨e, y⟩ := y
    subst e
    exact hs i x σ _ (y xs q) p
  · have e : i = xs.length := by omega
    subst e
    exact .inl ⟨⟨xs, q, Nat.le_refl _⟩, hd σ H p⟩
theorem for_tup {K : PySem.W.Frag} {a : Addr} {xs : List V} {g : TG} {tb : TS} {D : Ends} {σ : St} {H : Hp} (Pv : Nat → St → Hp → Prop) (h0 : Pv 0 σ H) (hl : ∀ i σ H, i ≤ xs.length → Pv i σ H → SqT K H a xs)
    (hs : ∀ i x σ H, xs[i]? = some x → Pv i σ H → g x σ H fun σ2 H2 => tb { D with nx := Pv (i + 1), ct := Pv (i + 1), bk := D.nx } σ2 H2) (hd : ∀ σ H, Pv xs.length σ H → D.nx σ H) :
    ∃ W : Nat → Nat → St → Hp → Prop, (∃ m, W 0 m σ H) ∧ ∀ i m σ H, W i m σ H →
      ((Itt K a).stop i H ∧ D.nx σ H) ∨ ((Itt K a).go i H ∧ ∃ N : St → Hp → Prop, (∀ σ' H', N σ' H' → ∃ m', m' < m ∧ W (i + 1) m' σ' H') ∧ ∀ x H', (Itt K a).yld i H x H' → g x σ H' fun σ2 H2 => tb { D with nx := N, ct := N, bk := D.nx } σ2 H2) := by
  refine ⟨fun i m σ H => m = xs.length - i ∧ i ≤ xs.length ∧ Pv i σ H, ⟨xs.length, by simp, Nat.zero_le _, h0⟩, ?_⟩
  rintro i m σ H ⟨rfl, hi, p⟩
  have q := hl i σ H hi p
  by_cases hlt : i < xs.length
  · refine .inr ⟨⟨xs, xs[i], q, by simp [hlt]⟩, Pv (i + 1), fun σ' H' p' => ⟨xs.length - (i + 1), by omega, rfl, hlt, p'⟩, fun x H' y => ?_⟩
    obtain ⟨e, y⟩ := y
    subst e
    exact hs i x σ _ (y xs q) p
  · have e : i = xs.length := by omega
    subst e
    exact .inl ⟨⟨xs, q, Nat.le_refl _⟩, hd σ H p⟩
theorem for_range {lo : Int} {n : Nat} {g : TG} {tb : TS} {D : Ends} {σ : St} {H : Hp} (Pv : Nat → St → Hp → Prop) (h0 : Pv 0 σ H)
    (hs : ∀ i σ H, i < n → Pv i σ H → g (.int (lo + i)) σ H fun σ2 H2 => tb { D with nx := Pv (i + 1), ct := Pv (i + 1), bk := D.nx } σ2 H2) (hd : ∀ σ H, Pv n σ H → D.nx σ H) :
    ∃ W : Nat → Nat → St → Hp → Prop, (∃ m, W 0 m σ H) ∧ ∀ i m σ H, W i m σ H →
      ((Itr lo n).stop i H ∧ D.nx σ H) ∨ ((Itr lo n).go i H ∧ ∃ N : St → Hp → Prop, (∀ σ' H', N σ' H' → ∃ m', m' < m ∧ W (i + 1) m' σ' H') ∧ ∀ x H', (Itr lo n).yld i H x H' → g x σ H' fun σ2 H2 => tb { D with nx := N, ct := N, bk := D.nx } σ2 H2) := by
  refine ⟨fun i m σ H => m = n - i ∧ i ≤ n ∧ Pv i σ H, ⟨n, by simp, Nat.zero_le _, h0⟩, ?_⟩
  rintro i m σ H ⟨rfl, hi, p⟩
  by_cases hlt : i < n
  · refine .inr ⟨hlt, Pv (i + 1), fun σ' H' p' => ⟨n - (i + 1), by omega, rfl, hlt, p'⟩, fun x H' y => ?_⟩
    obtain ⟨e, y⟩ := y
    subst e y
    exact hs i σ _ hlt p
  · have e : i = n := by omega
    subst e
    exact .inl ⟨Nat.le_refl _, hd σ H p⟩
/-- while, by a word and a measure of the state -/
theorem while_by {c : TT} {tb : TS} {D : Ends} {σ : St} {H : Hp} (Pv : St → Hp → Prop) (μ : St → Hp → Nat) (h0 : Pv σ H)
    (hs : ∀ σ H, Pv σ H → c σ H fun b H1 => if b = true then tb { D with nx := fun σ' H' => Pv σ' H' ∧ μ σ' H' < μ σ H, ct := fun σ' H' => Pv σ' H' ∧ μ σ' H' < μ σ H, bk := D.nx } σ H1 else D.nx σ H1)
    (mono : ∀ σ H Q Q', (∀ b H1, Q b H1 → Q' b H1) → c σ H Q → c σ H Q') : tWhile c tb D σ H := by
  refine ⟨fun m σ H => m = μ σ H ∧ Pv σ H, ⟨_, rfl, h0⟩, ?_⟩
  rintro m σ H ⟨rfl, p⟩
  refine mono σ H _ _ (fun b H1 q => ?_) (hs σ H p)
  cases b with
  | true => exact ⟨_, fun σ' H' ⟨p', l⟩ => ⟨_, l, rfl, p'⟩, q⟩
  | false => exact q
end L2

namespace L2
open PySem PySem.Spec PyProof.Rows

abbrev R2 := V → V → Hp → VK → Prop
/-- a two-place operation on values: f is binaryOp op, inplaceOp op or compareOp op -/
def OpR (X : Cx) (f : Value → Value → Sem Value) (r : R2) : Prop :=
  ∀ (pins : List (Addr × Obj)) (s : Shared) (σ : St) (H : Hp) (x y : V) (v u : Value) (Q : VK), Inv X pins σ H s → RelV x v → RelV y u → r x y H Q →
    wpAny (model X.prog X.w) X.A (f v u) (EP X pins σ Q) X.xe s
/-- a one-place operation -/
def UnR (X : Cx) (f : Value → Sem Value) (r : V → Hp → VK → Prop) : Prop :=
  ∀ (pins : List (Addr × Obj)) (s : Shared) (σ : St) (H : Hp) (x : V) (v : Value) (Q : VK), Inv X pins σ H s → RelV x v → r x H Q →
    wpAny (model X.prog X.w) X.A (f v) (EP X pins σ Q) X.xe s
/-- a call of a value that is known (a builtin, a type) with values -/
def CallR (X : Cx) (f : Value) (r : List V → Hp → VK → Prop) : Prop :=
  ∀ (pins : List (Addr × Obj)) (s : Shared) (σ : St) (H : Hp) (xs : List V) (us : List Value) (Q : VK), Inv X pins σ H s → Vals xs us → r xs H Q →
    wpAny (model X.prog X.w) X.A (call f us) (EP X pins σ Q) X.xe s
/-- a value's truth -/
def TruR (X : Cx) (r : V → Hp → (Bool → Hp → Prop) → Prop) : Prop :=
  ∀ (pins : List (Addr × Obj)) (s : Shared) (σ : St) (H : Hp) (x : V) (v : Value) (Q : Bool → Hp → Prop), Inv X pins σ H s → RelV x v → r x H Q →
    wpAny (model X.prog X.w) X.A (truthy v) (TP X pins σ Q) X.xe s

def tOp (r : R2) (ta tb : TE) : TE := fun σ H Q => ta σ H fun x H1 => tb σ H1 fun y H2 => r x y H2 Q
def tUn (r : V → Hp → VK → Prop) (ta : TE) : TE := fun σ H Q => ta σ H fun x H1 => r x H1 Q
/-- ints in, under C, and a value out -/
def rI (C : Int → Int → Prop) (g : Int → Int → V) : R2 := fun x y H Q => ∃ i j, x = .int i ∧ y = .int j ∧ C i j ∧ Q (g i j) H
def rI0 (g : Int → Int → V) : R2 := fun x y H Q => ∃ i j, x = .int i ∧ y = .int j ∧ Q (g i j) H
def rU (g : Int → V) : V → Hp → VK → Prop := fun x H Q => ∃ i, x = .int i ∧ Q (g i) H

section
variable {X : Cx} {a b c : Expr} {ta tb tc : TE} {pos : Pos}

theorem binT (ha : PE X a ta) (hb : PE X b tb) {pins : List (Addr × Obj)} {s : Shared} {σ : St} {H : Hp} {R : V → V → Hp → Prop} (I : Inv X pins σ H s)
    (h : ta σ H fun x H1 => tb σ H1 fun y H2 => R x y H2) {Q : Value → Shared → Prop} {f : Value → Value → Sem Value}
    (hf : ∀ v u s2 x y H2, Inv X pins σ H2 s2 → RelV x v → RelV y u → R x y H2 → wpAny (model X.prog X.w) X.A (f v u) Q X.xe s2) :
    wpAny (model X.prog X.w) X.A (eval a X.env) (fun v s₁ => wpAny (model X.prog X.w) X.A (eval b X.env) (fun u s₂ => wpAny (model X.prog X.w) X.A (f v u) Q X.xe s₂) X.xe s₁) X.xe s := by
  refine thn (ha pins s σ H _ I h) fun v s1 ⟨x, H1, I1, r1, q1⟩ => ?_
  refine thn (hb pins s1 σ H1 _ I1 q1) fun u s2 ⟨y, H2, I2, r2, q2⟩ => ?_
  exact hf v u s2 x y H2 I2 r1 r2 q2

theorem pe_op {op : Operator} {r : R2} (ho : OpR X (binaryOp op) r) (ha : PE X a ta) (hb : PE X b tb) : PE X (.BinOp a op b pos) (tOp r ta tb) := by
  intro pins s σ H Q I h
  exact wpAny_BinOp (binT ha hb I h fun v u s2 x y H2 I2 rx ry q => ho pins s2 σ H2 x y v u Q I2 rx ry q)
theorem pe_un {op : UnaryOp} {r : V → Hp → VK → Prop} (ho : UnR X (unaryOp op) r) (ha : PE X a ta) : PE X (.UnaryOp op a pos) (tUn r ta) := by
  intro pins s σ H Q I h
  exact UnaryOp_ (thn (ha pins s σ H _ I h) fun v s1 ⟨x, H1, I1, r1, q1⟩ => ho pins s1 σ H1 x v Q I1 r1 q1)
/-- a op= e at a name: the name's slot i -/
theorem augR {op : Operator} {r : R2} (ho : OpR X (inplaceOp op) r) {pins : List (Addr × Obj)} {s : Shared} {σ : St} {H : Hp} {x y : V} {v u : Value} {Q : VK} (I : Inv X pins σ H s)
    (rx : RelV x v) (ry : RelV y u) (q : r x y H Q) : wpAny (model X.prog X.w) X.A (inplaceOp op v u) (EP X pins σ Q) X.xe s := ho pins s σ H x y v u Q I rx ry q

/-! ### ints -/
theorem opI {f : Value → Value → Sem Value} {C : Int → Int → Prop} {g : Int → Int → Int}
    (rule : ∀ (i j : Int) (t u : Tok) (s : Shared) (Q : Value → Shared → Prop) (E : Value → Shared → Prop), C i j → Q (.int (g i j) s.toks) { s with toks := s.toks + 1 } → wpAny (model X.prog X.w) X.A (f (.int i t) (.int j u)) Q E s) :
    OpR X f (rI C fun i j => .int (g i j)) := by
  intro pins s σ H x y v u Q I rx ry h
  obtain ⟨i, j, rfl, rfl, hc, q⟩ := h
  obtain ⟨t, rfl⟩ := rx
  obtain ⟨t', rfl⟩ := ry
  exact rule i j t t' s _ _ hc ⟨.int (g i j), H, I.tok _, ⟨_, rfl⟩, q⟩
theorem opI0 {f : Value → Value → Sem Value} {g : Int → Int → Int}
    (rule : ∀ (i j : Int) (t u : Tok) (s : Shared) (Q : Value → Shared → Prop) (E : Value → Shared → Prop), Q (.int (g i j) s.toks) { s with toks := s.toks + 1 } → wpAny (model X.prog X.w) X.A (f (.int i t) (.int j u)) Q E s) :
    OpR X f (rI0 fun i j => .int (g i j)) := by
  intro pins s σ H x y v u Q I rx ry h
  obtain ⟨i, j, rfl, rfl, q⟩ := h
  obtain ⟨t, rfl⟩ := rx
  obtain ⟨t', rfl⟩ := ry
  exact rule i j t t' s _ _ ⟨.int (g i j), H, I.tok _, ⟨_, rfl⟩, q⟩
theorem opB0 {f : Value → Value → Sem Value} {g : Int → Int → Bool}
    (rule : ∀ (i j : Int) (t u : Tok) (s : Shared) (Q : Value → Shared → Prop) (E : Value → Shared → Prop), Q (.bool (g i j)) s → wpAny (model X.prog X.w) X.A (f (.int i t) (.int j u)) Q E s) :
    OpR X f (rI0 fun i j => .bl (g i j)) := by
  intro pins s σ H x y v u Q I rx ry h
  obtain ⟨i, j, rfl, rfl, q⟩ := h
  obtain ⟨t, rfl⟩ := rx
  obtain ⟨t', rfl⟩ := ry
  exact rule i j t t' s _ _ ⟨.bl (g i j), H, I, rfl, q⟩

def CDiv (i j : Int) : Prop := 0 < j ∧ j < 1073741824
def CDivN (i j : Int) : Prop := j ≠ 0 ∧ j.natAbs < 1073741824
def CPow (i j : Int) : Prop := 0 ≤ j ∧ j ≤ 1000000 ∧ i.natAbs < 2 ^ 64
def CMul (i j : Int) : Prop := (-(2 ^ 64) < i ∧ i < 2 ^ 64) ∨ (-(2 ^ 64) < j ∧ j < 2 ^ 64)
theorem CMul.ok {i j : Int} (h : CMul i j) : IntMulOk i j := by
  rcases h with ⟨h1, h2⟩ | ⟨h1, h2⟩
  · exact .of_left (intBits_le_64 h1 h2)
  · exact .of_right (intBits_le_64 h1 h2)
theorem two_pow_nn (k : Nat) : (0 : Int) ≤ 2 ^ k := by
  rw [two_pow_cast]
  exact Int.natCast_nonneg _

theorem op_add : OpR X (binaryOp .Add) (rI0 fun i j => .int (i + j)) := opI0 fun _ _ _ _ _ _ _ q => add_int q
theorem op_sub : OpR X (binaryOp .Sub) (rI0 fun i j => .int (i - j)) := opI0 fun _ _ _ _ _ _ _ q => sub_int q
theorem op_mul : OpR X (binaryOp .Mult) (rI CMul fun i j => .int (i * j)) := opI fun _ _ _ _ _ _ _ hc q => mul_int q hc.ok
/-- // by a positive divisor -/
theorem op_fdiv : OpR X (binaryOp .FloorDiv) (rI CDiv fun i j => .int (i / j)) := opI fun i j _ _ _ _ _ hc q => by
  have h1 : (0 : Int) < j := hc.1
  have h2 : j < 1073741824 := hc.2
  exact floordiv_int (by omega) (by rw [Int.fdiv_eq_ediv_of_nonneg i (by omega)]; exact q) (.inl (PyProof.noPylong_small (by omega)))
theorem op_fdivN : OpR X (binaryOp .FloorDiv) (rI CDivN fun i j => .int (i.fdiv j)) := opI fun _ _ _ _ _ _ _ hc q => floordiv_int hc.1 q (.inl (PyProof.noPylong_small hc.2))
/-- % by a positive divisor of any size -/
theorem op_mod : OpR X (binaryOp .Mod) (rI (fun _ j => 0 < j) fun i j => .int (i % j)) := opI fun i j _ _ _ _ _ hc q => by
  have h1 : (0 : Int) < j := hc
  exact mod_int' (by omega) (by rw [Int.fmod_eq_emod_of_nonneg i (by omega)]; exact q)
theorem op_modN : OpR X (binaryOp .Mod) (rI (fun _ j => j ≠ 0) fun i j => .int (i.fmod j)) := opI fun _ _ _ _ _ _ _ hc q => mod_int' hc q
theorem op_pow : OpR X (binaryOp .Pow) (rI CPow fun i j => .int (i ^ j.toNat)) := opI fun _ _ _ _ _ _ _ hc q => pow_int_small hc.1 hc.2.1 hc.2.2 q
theorem op_shl : OpR X (binaryOp .LShift) (rI CPow fun i j => .int (i * 2 ^ j.toNat)) := opI fun _ _ _ _ _ _ _ hc q => lshift_int_small hc.1 hc.2.1 hc.2.2 q
theorem op_shr : OpR X (binaryOp .RShift) (rI (fun _ j => 0 ≤ j) fun i j => .int (i / 2 ^ j.toNat)) := opI fun i j _ _ _ _ _ hc q =>
  rshift_int hc (by rw [Int.fdiv_eq_ediv_of_nonneg i (two_pow_nn _)]; exact q)
theorem op_and : OpR X (binaryOp .BitAnd) (rI0 fun i j => .int (Builtin.bitAnd i j)) := opI0 fun _ _ _ _ _ _ _ q => and_int q
theorem op_or : OpR X (binaryOp .BitOr) (rI0 fun i j => .int (Builtin.bitOr i j)) := opI0 fun _ _ _ _ _ _ _ q => or_int q
theorem op_xor : OpR X (binaryOp .BitXor) (rI0 fun i j => .int (Builtin.bitXor i j)) := opI0 fun _ _ _ _ _ _ _ q => xor_int q

theorem iop_add : OpR X (inplaceOp .Add) (rI0 fun i j => .int (i + j)) := opI0 fun _ _ _ _ _ _ _ q => iadd_int q
theorem iop_sub : OpR X (inplaceOp .Sub) (rI0 fun i j => .int (i - j)) := opI0 fun _ _ _ _ _ _ _ q => isub_int q
theorem iop_mul : OpR X (inplaceOp .Mult) (rI CMul fun i j => .int (i * j)) := opI fun _ _ _ _ _ _ _ hc q => imul_int q hc.ok
theorem iop_fdiv : OpR X (inplaceOp .FloorDiv) (rI CDiv fun i j => .int (i / j)) := opI fun i j _ _ _ _ _ hc q => by
  have h1 : (0 : Int) < j := hc.1
  have h2 : j < 1073741824 := hc.2
  exact ifloordiv_int (by omega) (by rw [Int.fdiv_eq_ediv_of_nonneg i (by omega)]; exact q) (.inl (PyProof.noPylong_small (by omega)))
theorem iop_mod : OpR X (inplaceOp .Mod) (rI (fun _ j => 0 < j) fun i j => .int (i % j)) := opI fun i j _ _ _ _ _ hc q => by
  have h1 : (0 : Int) < j := hc
  exact imod_int (by omega) (by rw [Int.fmod_eq_emod_of_nonneg i (by omega)]; exact q)
theorem iop_shl : OpR X (inplaceOp .LShift) (rI CPow fun i j => .int (i * 2 ^ j.toNat)) := opI fun _ _ _ _ _ _ _ hc q => ilshift_int_small hc.1 hc.2.1 hc.2.2 q
theorem iop_shr : OpR X (inplaceOp .RShift) (rI (fun _ j => 0 ≤ j) fun i j => .int (i / 2 ^ j.toNat)) := opI fun i j _ _ _ _ _ hc q =>
  irshift_int hc (by rw [Int.fdiv_eq_ediv_of_nonneg i (two_pow_nn _)]; exact q)
theorem iop_and : OpR X (inplaceOp .BitAnd) (rI0 fun i j => .int (Builtin.bitAnd i j)) := opI0 fun _ _ _ _ _ _ _ q => iand_int q
theorem iop_or : OpR X (inplaceOp .BitOr) (rI0 fun i j => .int (Builtin.bitOr i j)) := opI0 fun _ _ _ _ _ _ _ q => ior_int q
theorem iop_xor : OpR X (inplaceOp .BitXor) (rI0 fun i j => .int (Builtin.bitXor i j)) := opI0 fun _ _ _ _ _ _ _ q => ixor_int q

theorem unI {f : Value → Sem Value} {g : Int → Int}
    (rule : ∀ (i : Int) (t : Tok) (s : Shared) (Q : Value → Shared → Prop) (E : Value → Shared → Prop), Q (.int (g i) s.toks) { s with toks := s.toks + 1 } → wpAny (model X.prog X.w) X.A (f (.int i t)) Q E s) :
    UnR X f (rU fun i => .int (g i)) := by
  intro pins s σ H x v Q I rx h
  obtain ⟨i, rfl, q⟩ := h
  obtain ⟨t, rfl⟩ := rx
  exact rule i t s _ _ ⟨.int (g i), H, I.tok _, ⟨_, rfl⟩, q⟩
theorem un_neg : UnR X (unaryOp .USub) (rU fun i => .int (-i)) := unI fun _ _ _ _ _ q => neg_int q
theorem un_inv : UnR X (unaryOp .Invert) (rU fun i => .int (Builtin.bitNot i)) := unI fun _ _ _ _ _ q => invert_int q

/-! ### bools among ints: n += (a < b) -/
theorem op_add_ib : OpR X (binaryOp .Add) (fun x y H Q => ∃ i k, x = .int i ∧ y = .bl k ∧ Q (.int (i + b2i k)) H) := by
  intro pins s σ H x y v u Q I rx ry h
  obtain ⟨i, k, rfl, rfl, q⟩ := h
  obtain ⟨t, rfl⟩ := rx
  cases ry
  exact add_int_bool ⟨.int (i + b2i k), H, I.tok _, ⟨_, rfl⟩, q⟩
end

/-! ### comparisons -/
/-- the scalars that == tells apart as data does -/
def scal : V → V → Bool
  | .non, .non => true | .non, .int _ => true | .int _, .non => true | .non, .bl _ => true | .bl _, .non => true | .non, .str _ => true | .str _, .non => true
  | .int _, .int _ => true | .bl _, .bl _ => true | .str _, .str _ => true | .byt _, .byt _ => true
  | .int _, .str _ => true | .str _, .int _ => true | .bl _, .str _ => true | .str _, .bl _ => true
  | _, _ => false
def rEq : R2 := fun x y H Q => scal x y = true ∧ Q (.bl (decide (x = y))) H
def rNe : R2 := fun x y H Q => scal x y = true ∧ Q (.bl (!decide (x = y))) H

theorem dec_int {i j : Int} : decide (V.int i = V.int j) = (i == j) := by
  rw [Bool.eq_iff_iff]
  simp
theorem dec_bl {i j : Bool} : decide (V.bl i = V.bl j) = (i == j) := by
  rw [Bool.eq_iff_iff]
  simp
theorem dec_str {i j : Str} : decide (V.str i = V.str j) = (i == j) := by
  rw [Bool.eq_iff_iff]
  simp
theorem dec_byt {i j : Array UInt8} : decide (V.byt i = V.byt j) = (i.toList == j.toList) := by
  rw [Bool.eq_iff_iff]
  cases i
  cases j
  simp

section
variable {X : Cx} {a b c : Expr} {ta tb tc : TE} {pos : Pos}
theorem fin_bl {pins : List (Addr × Obj)} {σ : St} {H : Hp} {s : Shared} {Q : VK} {k k' : Bool} (I : Inv X pins σ H s) (q : Q (.bl k) H) (e : k = k') : EP X pins σ Q (.bool k') s := by
  subst e
  exact ⟨.bl k, H, I, rfl, q⟩
theorem op_eq : OpR X (compareOp .Eq) rEq := by
  intro pins s σ H x y v u Q I rx ry h
  obtain ⟨hs, q⟩ := h
  cases x with
  | non =>
    cases rx
    cases y with
    | non => cases ry; exact PySem.EqNone.eq_none_none (fin_bl I q (by simp))
    | bl j => cases ry; exact PySem.EqNone.eq_none_bool (fin_bl I q (by simp))
    | int j => obtain ⟨t', rfl⟩ := ry; exact PySem.EqNone.eq_none_int (fin_bl I q (by simp))
    | str j => obtain ⟨t', rfl⟩ := ry; exact PySem.EqNone.eq_none_str (fin_bl I q (by simp))
    | _ => exact absurd (show false = true from hs) Bool.false_ne_true
  | bl i =>
    cases rx
    cases y with
    | non => cases ry; exact PySem.EqNone.eq_bool_none (fin_bl I q (by simp))
    | bl j => cases ry; exact eq_bool (fin_bl I q dec_bl)
    | str j => obtain ⟨t', rfl⟩ := ry; exact PySem.EqMixed.eq_bool_str (fin_bl I q (by simp))
    | _ => exact absurd (show false = true from hs) Bool.false_ne_true
  | int i =>
    obtain ⟨t, rfl⟩ := rx
    cases y with
    | non => cases ry; exact PySem.EqNone.eq_int_none (fin_bl I q (by simp))
    | int j => obtain ⟨t', rfl⟩ := ry; exact eq_int (fin_bl I q dec_int)
    | str j => obtain ⟨t', rfl⟩ := ry; exact PySem.EqMixed.eq_int_str (fin_bl I q (by simp))
    | _ => exact absurd (show false = true from hs) Bool.false_ne_true
  | str i =>
    obtain ⟨t, rfl⟩ := rx
    cases y with
    | non => cases ry; exact PySem.EqNone.eq_str_none (fin_bl I q (by simp))
    | bl j => cases ry; exact PySem.EqMixed.eq_str_bool (fin_bl I q (by simp))
    | int j => obtain ⟨t', rfl⟩ := ry; exact PySem.EqMixed.eq_str_int (fin_bl I q (by simp))
    | str j => obtain ⟨t', rfl⟩ := ry; exact eq_str (fin_bl I q dec_str)
    | _ => exact absurd (show false = true from hs) Bool.false_ne_true
  | byt i =>
    obtain ⟨t, rfl⟩ := rx
    cases y with
    | byt j => obtain ⟨t', rfl⟩ := ry; exact PySem.W.eq_bytes (fin_bl I q dec_byt)
    | _ => exact absurd (show false = true from hs) Bool.false_ne_true
  | _ => cases y <;> exact absurd (show false = true from hs) Bool.false_ne_true
theorem op_ne : OpR X (compareOp .NotEq) rNe := by
  intro pins s σ H x y v u Q I rx ry h
  obtain ⟨hs, q⟩ := h
  cases x with
  | non =>
    cases rx
    cases y with
    | non => cases ry; exact PySem.EqNone.ne_none_none (fin_bl I q (by simp))
    | bl j => cases ry; exact PySem.EqNone.ne_none_bool (fin_bl I q (by simp))
    | int j => obtain ⟨t', rfl⟩ := ry; exact PySem.EqNone.ne_none_int (fin_bl I q (by simp))
    | str j => obtain ⟨t', rfl⟩ := ry; exact PySem.EqNone.ne_none_str (fin_bl I q (by simp))
    | _ => exact absurd (show false = true from hs) Bool.false_ne_true
  | bl i =>
    cases rx
    cases y with
    | non => cases ry; exact PySem.EqNone.ne_bool_none (fin_bl I q (by simp))
    | bl j => cases ry; exact ne_bool (fin_bl I q (congrArg not dec_bl))
    | str j => obtain ⟨t', rfl⟩ := ry; exact PySem.EqMixed.ne_bool_str (fin_bl I q (by simp))
    | _ => exact absurd (show false = true from hs) Bool.false_ne_true
  | int i =>
    obtain ⟨t, rfl⟩ := rx
    cases y with
    | non => cases ry; exact PySem.EqNone.ne_int_none (fin_bl I q (by simp))
    | int j => obtain ⟨t', rfl⟩ := ry; exact ne_int (fin_bl I q (congrArg not dec_int))
    | str j => obtain ⟨t', rfl⟩ := ry; exact PySem.EqMixed.ne_int_str (fin_bl I q (by simp))
    | _ => exact absurd (show false = true from hs) Bool.false_ne_true
  | str i =>
    obtain ⟨t, rfl⟩ := rx
    cases y with
    | non => cases ry; exact PySem.EqNone.ne_str_none (fin_bl I q (by simp))
    | bl j => cases ry; exact PySem.EqMixed.ne_str_bool (fin_bl I q (by simp))
    | int j => obtain ⟨t', rfl⟩ := ry; exact PySem.EqMixed.ne_str_int (fin_bl I q (by simp))
    | str j => obtain ⟨t', rfl⟩ := ry; exact ne_str (fin_bl I q (congrArg not dec_str))
    | _ => exact absurd (show false = true from hs) Bool.false_ne_true
  | byt i =>
    obtain ⟨t, rfl⟩ := rx
    cases y with
    | byt j => obtain ⟨t', rfl⟩ := ry; exact PySem.W.ne_bytes (fin_bl I q (congrArg not dec_byt))
    | _ => exact absurd (show false = true from hs) Bool.false_ne_true
  | _ => cases y <;> exact absurd (show false = true from hs) Bool.false_ne_true

theorem op_lt : OpR X (compareOp .Lt) (rI0 fun i j => .bl (decide (i < j))) := opB0 fun _ _ _ _ _ _ _ q => lt_int q
theorem op_le : OpR X (compareOp .LtE) (rI0 fun i j => .bl (decide (i ≤ j))) := opB0 fun _ _ _ _ _ _ _ q => le_int q
theorem op_gt : OpR X (compareOp .Gt) (rI0 fun i j => .bl (decide (j < i))) := opB0 fun _ _ _ _ _ _ _ q => gt_int q
theorem op_ge : OpR X (compareOp .GtE) (rI0 fun i j => .bl (decide (j ≤ i))) := opB0 fun _ _ _ _ _ _ _ q => ge_int q
theorem op_lt_str : OpR X (compareOp .Lt) (fun x y H Q => ∃ i j, x = .str i ∧ y = .str j ∧ Q (.bl (decide (i.cps.toList < j.cps.toList))) H) := by
  intro pins s σ H x y v u Q I rx ry h
  obtain ⟨i, j, rfl, rfl, q⟩ := h
  obtain ⟨t, rfl⟩ := rx
  obtain ⟨t', rfl⟩ := ry
  exact lt_str (fin_bl I q rfl)
/-- the one string within the other -/
theorem op_in_str : OpR X (compareOp .In) (fun x y H Q => ∃ i j, x = .str i ∧ y = .str j ∧ Q (.bl (!(Builtin.Str.occurrences j i 0 j.length 1).isEmpty)) H) := by
  intro pins s σ H x y v u Q I rx ry h
  obtain ⟨i, j, rfl, rfl, q⟩ := h
  obtain ⟨t, rfl⟩ := rx
  obtain ⟨t', rfl⟩ := ry
  exact in_str (fin_bl I q rfl)

/-- is None, is not None: the right side a value none -/
theorem op_isN : OpR X (compareOp .Is) (fun x y H Q => y = .non ∧ Q (.bl (decide (x = .non))) H) := by
  intro pins s σ H x y v u Q I rx ry h
  obtain ⟨rfl, q⟩ := h
  cases ry
  refine is_none_gen (fin_bl I q ?_)
  cases x <;> first
    | (cases rx; rfl)
    | (obtain ⟨t, rfl⟩ := rx; rfl)
theorem op_notN : OpR X (compareOp .IsNot) (fun x y H Q => y = .non ∧ Q (.bl (!decide (x = .non))) H) := by
  intro pins s σ H x y v u Q I rx ry h
  obtain ⟨rfl, q⟩ := h
  cases ry
  refine isnot_none_gen (fin_bl I q ?_)
  cases x <;> first
    | (cases rx; rfl)
    | (obtain ⟨t, rfl⟩ := rx; rfl)

theorem op_notin_str : OpR X (compareOp .NotIn) (fun x y H Q => ∃ i j, x = .str i ∧ y = .str j ∧ Q (.bl (!(!(Builtin.Str.occurrences j i 0 j.length 1).isEmpty))) H) := by
  intro pins s σ H x y v u Q I rx ry h
  obtain ⟨i, j, rfl, rfl, q⟩ := h
  obtain ⟨t, rfl⟩ := rx
  obtain ⟨t', rfl⟩ := ry
  exact notIn_str (fin_bl I q rfl)
/-- is, is not of two objects that are tracked lists or instances -/
def isObj : HO → Bool
  | .lst _ => true
  | .ins _ _ _ => true
  | _ => false
theorem obj_there {pins : List (Addr × Obj)} {s : Shared} {σ : St} {H : Hp} {a : Addr} {o : HO} (I : Inv X pins σ H s) (h : H a = some o) (p : isObj o = true) : ∃ ob, s.heap.get? a = some ob ∧ ob.cls ≠ .type "tuple" := by
  cases o with
  | lst xs =>
    obtain ⟨_, its, n, _, e⟩ : xs.length ≤ sizeLine ∧ ∃ (its : List Value) (n : Nat), Vals xs its ∧ s.heap.get? a = some { cls := .type "list", data := .seq its.toArray n } := I.hok a _ h
    exact ⟨_, e, (by show Value.type "list" ≠ .type "tuple"; decide +kernel)⟩
  | ins C dx fs =>
    have x := I.hok a _ h
    obtain ⟨_, _, _, e, _⟩ := x
    exact ⟨_, e, (by show Value.ref C ≠ .type "tuple"; exact fun z => by cases z)⟩
  | _ => exact absurd (show false = true from p) Bool.false_ne_true
theorem op_is_ref : OpR X (compareOp .Is) (fun x y H Q => ∃ a b oa ob, x = .ref a ∧ y = .ref b ∧ H a = some oa ∧ isObj oa = true ∧ H b = some ob ∧ isObj ob = true ∧ Q (.bl (decide (a = b))) H) := by
  intro pins s σ H x y v u Q I rx ry h
  obtain ⟨a, b, oa, ob, rfl, rfl, ha, pa, hb, pb, q⟩ := h
  cases rx
  cases ry
  obtain ⟨o1, e1, n1⟩ := obj_there I ha pa
  obtain ⟨o2, e2, _⟩ := obj_there I hb pb
  by_cases z : a = b
  · subst z
    exact wpAny_is_ref_self (fin_bl I q (by simp))
  · exact wpAny_is_ref_other z e1 e2 n1 (fin_bl I q (by simp [z]))
theorem op_isnot_ref : OpR X (compareOp .IsNot) (fun x y H Q => ∃ a b oa ob, x = .ref a ∧ y = .ref b ∧ H a = some oa ∧ isObj oa = true ∧ H b = some ob ∧ isObj ob = true ∧ Q (.bl (!decide (a = b))) H) := by
  intro pins s σ H x y v u Q I rx ry h
  obtain ⟨a, b, oa, ob, rfl, rfl, ha, pa, hb, pb, q⟩ := h
  cases rx
  cases ry
  obtain ⟨o1, e1, n1⟩ := obj_there I ha pa
  obtain ⟨o2, e2, _⟩ := obj_there I hb pb
  by_cases z : a = b
  · subst z
    exact wpAny_isNot_ref_self (fin_bl I q (by simp))
  · exact wpAny_isNot_ref_other z e1 e2 n1 (fin_bl I q (by simp [z]))

/-- two rules for one operation: by cases -/
theorem OpR.or {f : Value → Value → Sem Value} {r r' : R2} (h : OpR X f r) (h' : OpR X f r') : OpR X f (fun x y H Q => r x y H Q ∨ r' x y H Q) := by
  intro pins s σ H x y v u Q I rx ry q
  rcases q with q | q
  · exact h pins s σ H x y v u Q I rx ry q
  · exact h' pins s σ H x y v u Q I rx ry q

theorem nomark (b : Expr) {op : CmpOp} (h : op ≠ .In := by decide) (h2 : op ≠ .NotIn := by decide) : behindInMarks op b = false := by
  have e1 : (op == CmpOp.In) = false := by cases op <;> first | rfl | exact absurd rfl h
  have e2 : (op == CmpOp.NotIn) = false := by cases op <;> first | rfl | exact absurd rfl h2
  cases b <;> simp [behindInMarks, e1, e2]
/-- a comparison as a value; hm: nomark b, or (for in, not in) by with_unfolding_all rfl -/
theorem pe_cmpR {op : CmpOp} {r : R2} (ho : OpR X (compareOp op) r) (ha : PE X a ta) (hb : PE X b tb) (hm : behindInMarks op b = false) : PE X (.Compare a [op] [b] pos) (tOp r ta tb) := by
  intro pins s σ H Q I h
  exact wpAny_Compare1 (binT ha hb I h fun v u s2 x y H2 I2 rx ry q => ho pins s2 σ H2 x y v u Q I2 rx ry q) hm
/-- a reading of a value as a test -/
def tTest (t : TE) : TT := fun σ H Q => t σ H fun x H' => ∃ k, x = .bl k ∧ Q k H'
theorem pt_cmpR {op : CmpOp} {r : R2} (ho : OpR X (compareOp op) r) (ha : PE X a ta) (hb : PE X b tb) (hm : behindInMarks op b = false) : PT X (.Compare a [op] [b] pos) (tTest (tOp r ta tb)) := by
  intro pins s σ H Q I h
  refine wpAny_isTrue_Compare1 (thn (ha pins s σ H _ I h) fun v s1 ⟨x, H1, I1, r1, q1⟩ => thn (hb pins s1 σ H1 _ I1 q1) fun u s2 ⟨y, H2, I2, r2, q2⟩ =>
    thn (ho pins s2 σ H2 x y v u _ I2 r1 r2 q2) fun c s3 ⟨z, H3, I3, r3, k, e, q3⟩ => ?_) hm
  subst e
  cases r3
  exact wpAny_truthy_bool ⟨H3, I3, q3⟩
/-- a op1 b op2 c -/
def tChain (r r' : R2) (ta tb tc : TE) : TE := fun σ H Q => ta σ H fun x H1 => tb σ H1 fun y H2 => r x y H2 fun z H3 => ∃ k, z = .bl k ∧
  (if k = true then tc σ H3 fun w' H4 => r' y w' H4 Q else Q (.bl false) H3)
theorem pe_chain {op op' : CmpOp} {r r' : R2} (ho : OpR X (compareOp op) r) (ho' : OpR X (compareOp op') r') (ha : PE X a ta) (hb : PE X b tb) (hc : PE X c tc)
    (hm : lastMarks [op, op'] [b, c] = false := by with_unfolding_all rfl) : PE X (.Compare a [op, op'] [b, c] pos) (tChain r r' ta tb tc) := by
  intro pins s σ H Q I h
  refine Compare_chain (thn (ha pins s σ H _ I h) fun v s1 ⟨x, H1, I1, r1, q1⟩ => chain_link (thn (hb pins s1 σ H1 _ I1 q1) fun u s2 ⟨y, H2, I2, r2, q2⟩ =>
    thn (ho pins s2 σ H2 x y v u _ I2 r1 r2 q2) fun d s3 ⟨z, H3, I3, r3, k, e, q3⟩ => ?_)) hm
  subst e
  cases r3
  refine wpAny_truthy_bool ?_
  cases k with
  | false => exact ite_ff ⟨.bl false, H3, I3, rfl, q3⟩
  | true => exact ite_tt (chain_last (thn (hc pins s3 σ H3 _ I3 q3) fun w' s4 ⟨z', H4, I4, r4, q4⟩ => ho' pins s4 σ H4 y z' u w' Q I4 r2 r4 q4))
theorem pt_chain {op op' : CmpOp} {r r' : R2} (ho : OpR X (compareOp op) r) (ho' : OpR X (compareOp op') r') (ha : PE X a ta) (hb : PE X b tb) (hc : PE X c tc)
    (hm : lastMarks [op, op'] [b, c] = false := by with_unfolding_all rfl) : PT X (.Compare a [op, op'] [b, c] pos) (tTest (tChain r r' ta tb tc)) := by
  intro pins s σ H Q I h
  refine isTrue_chain (thn (ha pins s σ H _ I h) fun v s1 ⟨x, H1, I1, r1, q1⟩ => test_link (thn (hb pins s1 σ H1 _ I1 q1) fun u s2 ⟨y, H2, I2, r2, q2⟩ =>
    thn (ho pins s2 σ H2 x y v u _ I2 r1 r2 q2) fun d s3 ⟨z, H3, I3, r3, k, e, q3⟩ => ?_)) hm
  subst e
  cases r3
  refine wpAny_truthy_bool ?_
  cases k with
  | false =>
    obtain ⟨k', e', q'⟩ := q3
    cases e'
    exact ite_ff ⟨H3, I3, q'⟩
  | true =>
    refine ite_tt (test_last (thn (hc pins s3 σ H3 _ I3 q3) fun w' s4 ⟨z', H4, I4, r4, q4⟩ => thn (ho' pins s4 σ H4 y z' u w' _ I4 r2 r4 q4) fun d' s5 ⟨z2, H5, I5, r5, k2, e2, q5⟩ => ?_))
    subst e2
    cases r5
    exact wpAny_truthy_bool ⟨H5, I5, q5⟩

/-! ### truth -/
/-- a value's truth by the abstract heap -/
def TruV (K : PySem.W.Frag) (x : V) (H : Hp) (k : Bool) : Prop :=
  match x with
  | .non => k = false
  | .bl b => k = b
  | .int i => k = (i != 0)
  | .str y => y.length ≤ sizeLine ∧ k = ((y.length : Int) != 0)
  | .byt y => y.size ≤ sizeLine ∧ k = ((y.size : Int) != 0)
  | .ref p => (∃ xs, SqL K H p xs ∧ k = !xs.isEmpty) ∨ (∃ xs, SqT K H p xs ∧ k = !xs.isEmpty) ∨ ∃ kvs, H p = some (.dK kvs) ∧ k = !kvs.isEmpty
  | _ => False
theorem isEmpty_kv {κ : Type} {kvs : List (κ × V)} {vs : List (κ × Value)} (r : KV kvs vs) : (!vs.isEmpty) = !kvs.isEmpty := by
  cases r <;> rfl
theorem isEmpty_of {xs : List V} {its : List Value} (r : Vals xs its) : (!its.toArray.isEmpty) = !xs.isEmpty := by
  cases r <;> simp
theorem line63 : (sizeLine : Nat) < 2 ^ 63 := by rw [sizeLine_eq]; decide
theorem tru_ok : TruR X (fun x H Q => ∃ k, TruV X.K x H k ∧ Q k H) := by
  intro pins s σ H x v Q I rx h
  obtain ⟨k, e, q⟩ := h
  have hl := line63
  have hs : sizeLine = 16777216 := sizeLine_eq
  cases x with
  | non =>
    cases rx
    have e' : k = false := e
    subst e'
    exact truthy_none ⟨H, I, q⟩
  | bl b =>
    cases rx
    have e' : k = b := e
    subst e'
    exact wpAny_truthy_bool ⟨H, I, q⟩
  | int i =>
    obtain ⟨t, rfl⟩ := rx
    have e' : k = (i != 0) := e
    subst e'
    exact PySem.P.truthy_int ⟨H, I, q⟩
  | str y =>
    obtain ⟨t, rfl⟩ := rx
    obtain ⟨hy, e'⟩ : y.length ≤ sizeLine ∧ k = ((y.length : Int) != 0) := e
    subst e'
    exact PySem.P.truthy_str (by omega) ⟨H, I.tok _, q⟩
  | byt y =>
    obtain ⟨t, rfl⟩ := rx
    obtain ⟨hy, e'⟩ : y.size ≤ sizeLine ∧ k = ((y.size : Int) != 0) := e
    subst e'
    exact PySem.W.truthy_bytes (by omega) ⟨H, I.tok _, q⟩
  | ref p =>
    cases rx
    have e' : (∃ xs, SqL X.K H p xs ∧ k = !xs.isEmpty) ∨ (∃ xs, SqT X.K H p xs ∧ k = !xs.isEmpty) ∨ ∃ kvs, H p = some (.dK kvs) ∧ k = !kvs.isEmpty := e
    rcases e' with ⟨xs, hx, e'⟩ | ⟨xs, hx, e'⟩ | ⟨kvs, hx, e'⟩
    · subst e'
      obtain ⟨its, r, pl, hz⟩ := I.list hx
      have hlen := r.length
      exact wpAny_truthy_list pl.isList (by simp only [List.size_toArray]; omega) ⟨H, I.tok _, by rw [isEmpty_of r]; exact q⟩
    · subst e'
      obtain ⟨its, r, pl, hz⟩ := I.tuple hx
      have hlen := r.length
      exact truthy_tuple pl (by simp only [List.size_toArray]; omega) ⟨H, I.tok _, by rw [isEmpty_of r]; exact q⟩
    · subst e'
      obtain ⟨hz, hS, vs, r, m⟩ : kvs.length ≤ sizeLine ∧ (p == sysModules) = false ∧ ∃ vs, KV kvs vs ∧ s.heap.DictOf (mixKind X.prog X.w) p vs := I.hok p _ hx
      have hlen : kvs.length = vs.length := Paired.length r
      exact wpAny_truthy_dict hS m (by omega) ⟨H, I.tok _, by rw [isEmpty_kv r]; exact q⟩
  | _ => exact (show False from e).elim
/-- any expression whose test is its value's truth (a name, a call, a subscript, a field ..: he by fun _ => rfl) -/
theorem pt_truth (ha : PE X a ta) (he : ∀ whole, isTrue a X.env whole = (do let v ← whole; standAt a.pos; holding [v] (truthy v))) :
    PT X a (fun σ H Q => ta σ H fun x H' => ∃ k, TruV X.K x H' k ∧ Q k H') := by
  intro pins s σ H Q I h
  exact isTrue_plain (thn (ha pins s σ H _ I h) fun v s1 ⟨x, H1, I1, r1, q1⟩ => tru_ok pins s1 σ H1 x v Q I1 r1 q1) (he _)

/-! ### strs and bytes -/
theorem pe_byt {x : List UInt8} {k : Nat} : PE X (.Constant (.bytes x) k pos) (fun _ H Q => Q (.byt x.toArray) H) := fun _ _ _ H _ I h => PySem.W.Constant_bytes ⟨.byt x.toArray, H, I.tok _, ⟨_, rfl⟩, h⟩
theorem op_add_str : OpR X (binaryOp .Add) (fun x y H Q => ∃ i j, x = .str i ∧ y = .str j ∧ i.length + j.length ≤ sizeLine ∧ Q (.str (i ++ j)) H) := by
  intro pins s σ H x y v u Q I rx ry h
  obtain ⟨i, j, rfl, rfl, hz, q⟩ := h
  obtain ⟨t, rfl⟩ := rx
  obtain ⟨t', rfl⟩ := ry
  exact add_str (fun t' tk => ⟨.str (i ++ j), H, I.tok _, ⟨_, rfl⟩, q⟩) hz
theorem iop_add_str : OpR X (inplaceOp .Add) (fun x y H Q => ∃ i j, x = .str i ∧ y = .str j ∧ i.length + j.length ≤ sizeLine ∧ Q (.str (i ++ j)) H) := by
  intro pins s σ H x y v u Q I rx ry h
  obtain ⟨i, j, rfl, rfl, hz, q⟩ := h
  obtain ⟨t, rfl⟩ := rx
  obtain ⟨t', rfl⟩ := ry
  exact iadd_str (fun t' tk => ⟨.str (i ++ j), H, I.tok _, ⟨_, rfl⟩, q⟩) hz
theorem op_add_byt : OpR X (binaryOp .Add) (fun x y H Q => ∃ i j, x = .byt i ∧ y = .byt j ∧ i.size + j.size ≤ 16777216 ∧ Q (.byt (i ++ j)) H) := by
  intro pins s σ H x y v u Q I rx ry h
  obtain ⟨i, j, rfl, rfl, hz, q⟩ := h
  obtain ⟨t, rfl⟩ := rx
  obtain ⟨t', rfl⟩ := ry
  exact PySem.W.KBy.add_bytes hz (fun t' tk => ⟨.byt (i ++ j), H, I.tok _, ⟨_, rfl⟩, q⟩)

def PlainIxT (b : Expr) : Prop := ∀ o i, subscripted b false o i = operate [o, i] (getItem o i)
/-- s[i], 0 ≤ i < len -/
theorem pe_item_str (ha : PE X a ta) (hb : PE X b tb) (hs : PlainIxT b) :
    PE X (.Subscript a b pos) (tOp (fun x y H Q => ∃ z i c, x = .str z ∧ y = .int i ∧ 0 ≤ i ∧ i < 2 ^ 63 ∧ i < z.length ∧ z.cps[i.toNat]? = some c ∧ Q (.str ⟨#[c]⟩) H) ta tb) := by
  intro pins s σ H Q I h
  refine Subscript_ (binT ha hb I h fun v u s2 x y H2 I2 rx ry q => ?_)
  obtain ⟨z, i, c, rfl, rfl, h0, h63, h1, hc, q⟩ := q
  obtain ⟨t, rfl⟩ := rx
  obtain ⟨t', rfl⟩ := ry
  have e : seqIndex? i z.length = some i.toNat := PySem.StrLaws.seqIndex_nonneg h0 h1
  exact tail_any (typeIs_str s2 z t) slot_str_getitem.lookup (getItem_str (c := c) (by
    have e1 : decide (i < -(2 ^ 63 : Int)) = false := decide_eq_false (by omega)
    have e2 : decide (i ≥ 2 ^ 63) = false := decide_eq_false (by omega)
    rw [e1, e2] <;> rfl) (by rw [e]; exact hc) ⟨.str ⟨#[c]⟩, H2, I2.tok _, ⟨_, rfl⟩, q⟩) (hs _ _)
/-- b[i], 0 ≤ i < len -/
theorem pe_item_byt (ha : PE X a ta) (hb : PE X b tb) (hs : PlainIxT b) :
    PE X (.Subscript a b pos) (tOp (fun x y H Q => ∃ (z : List UInt8) (i : Int), x = .byt z.toArray ∧ y = .int i ∧ z.length ≤ sizeLine ∧ 0 ≤ i ∧ i < z.length ∧ Q (.int ((z.getD i.toNat 0).toNat : Nat)) H) ta tb) := by
  intro pins s σ H Q I h
  refine Subscript_ (binT ha hb I h fun v u s2 x y H2 I2 rx ry q => ?_)
  obtain ⟨z, i, rfl, rfl, hz, h0, h1, q⟩ := q
  obtain ⟨t, rfl⟩ := rx
  obtain ⟨t', rfl⟩ := ry
  have hl : sizeLine = 16777216 := sizeLine_eq
  exact tail_any (PySem.W.typeIs_bytes s2 z.toArray t) PySem.W.FB.slot_bytes_getitem.lookup (PySem.W.getItem_bytes (by omega) h0 h1 ⟨.int ((z.getD i.toNat 0).toNat : Nat), H2, I2.tok _, ⟨_, rfl⟩, q⟩) (hs _ _)

/-! ### scalar builtins, by CallR -/
theorem vals1 {x : V} {us : List Value} (r : Vals [x] us) : ∃ u, us = [u] ∧ RelV x u := by
  cases r with
  | cons r1 r2 => cases r2; exact ⟨_, rfl, r1⟩
theorem vals2 {x y : V} {us : List Value} (r : Vals [x, y] us) : ∃ u w', us = [u, w'] ∧ RelV x u ∧ RelV y w' := by
  cases r with
  | cons r1 r2 =>
    cases r2 with
    | cons r3 r4 => cases r4; exact ⟨_, _, rfl, r1, r3⟩
theorem call_abs : CallR X (.builtin "abs") (fun xs H Q => ∃ i, xs = [.int i] ∧ Q (.int (if i < 0 then -i else i)) H) := by
  intro pins s σ H xs us Q I r h
  obtain ⟨i, rfl, q⟩ := h
  obtain ⟨u, rfl, t, rfl⟩ := vals1 r
  exact call_abs_int fun u tk => ⟨.int (if i < 0 then -i else i), H, I.tok _, ⟨_, rfl⟩, q⟩
theorem call_max2 (hc : X.calm = true) : CallR X (.builtin "max") (fun xs H Q => ∃ i j, xs = [.int i, .int j] ∧ Q (.int (if j > i then j else i)) H) := by
  intro pins s σ H xs us Q I r h
  obtain ⟨i, j, rfl, q⟩ := h
  obtain ⟨u, w', rfl, ⟨t, rfl⟩, ⟨t', rfl⟩⟩ := vals2 r
  refine max_two_ints (I.ok.hd hc) fun h' tk k => ⟨_, H, I.kept k, ?_, q⟩
  by_cases hj : j > i
  · rw [if_pos hj, if_pos hj]; exact ⟨_, rfl⟩
  · rw [if_neg hj, if_neg hj]; exact ⟨_, rfl⟩
theorem call_min2 (hc : X.calm = true) : CallR X (.builtin "min") (fun xs H Q => ∃ i j, xs = [.int i, .int j] ∧ Q (.int (if j < i then j else i)) H) := by
  intro pins s σ H xs us Q I r h
  obtain ⟨i, j, rfl, q⟩ := h
  obtain ⟨u, w', rfl, ⟨t, rfl⟩, ⟨t', rfl⟩⟩ := vals2 r
  refine min_two_ints (I.ok.hd hc) fun h' tk k => ⟨_, H, I.kept k, ?_, q⟩
  by_cases hj : j < i
  · rw [if_pos hj, if_pos hj]; exact ⟨_, rfl⟩
  · rw [if_neg hj, if_neg hj]; exact ⟨_, rfl⟩
theorem call_int1 : CallR X (.type "int") (fun xs H Q => (∃ i, xs = [.int i] ∧ Q (.int i) H) ∨ ∃ k, xs = [.bl k] ∧ Q (.int (if k then 1 else 0)) H) := by
  intro pins s σ H xs us Q I r h
  rcases h with ⟨i, rfl, q⟩ | ⟨k, rfl, q⟩
  · obtain ⟨u, rfl, t, rfl⟩ := vals1 r
    exact call_int_int ⟨.int i, H, I, ⟨_, rfl⟩, q⟩
  · obtain ⟨u, rfl, r1⟩ := vals1 r
    cases r1
    exact call_int_bool ⟨.int (if k then 1 else 0), H, I.tok _, ⟨_, rfl⟩, q⟩
theorem call_bool1 : CallR X (.type "bool") (fun xs H Q => (∃ i, xs = [.int i] ∧ Q (.bl (i != 0)) H) ∨ ∃ k, xs = [.bl k] ∧ Q (.bl k) H) := by
  intro pins s σ H xs us Q I r h
  rcases h with ⟨i, rfl, q⟩ | ⟨k, rfl, q⟩
  · obtain ⟨u, rfl, t, rfl⟩ := vals1 r
    exact call_bool_int ⟨.bl (i != 0), H, I, rfl, q⟩
  · obtain ⟨u, rfl, r1⟩ := vals1 r
    cases r1
    exact call_bool_bool ⟨.bl k, H, I, rfl, q⟩
theorem call_str_int : CallR X (.type "str") (fun xs H Q => ∃ i, xs = [.int i] ∧ i.natAbs.log2 < 1920 ∧ Q (.str (toString i)) H) := by
  intro pins s σ H xs us Q I r h
  obtain ⟨i, rfl, hz, q⟩ := h
  obtain ⟨u, rfl, t, rfl⟩ := vals1 r
  exact PySem.P.str_of_int hz ⟨.str _, H, I.tok _, ⟨_, rfl⟩, q⟩
theorem call_ord : CallR X (.builtin "ord") (fun xs H Q => ∃ x, xs = [.str x] ∧ x.length = 1 ∧ Q (.int (x.cps.getD 0 0 : Nat)) H) := by
  intro pins s σ H xs us Q I r h
  obtain ⟨x, rfl, hz, q⟩ := h
  obtain ⟨u, rfl, t, rfl⟩ := vals1 r
  exact ord_of_one hz ⟨.int _, H, I.tok _, ⟨_, rfl⟩, q⟩
theorem call_chr : CallR X (.builtin "chr") (fun xs H Q => ∃ i, xs = [.int i] ∧ 0 ≤ i ∧ i ≤ 1114111 ∧ Q (.str ⟨#[i.toNat]⟩) H) := by
  intro pins s σ H xs us Q I r h
  obtain ⟨i, rfl, h0, h1, q⟩ := h
  obtain ⟨u, rfl, t, rfl⟩ := vals1 r
  exact chr_of_range h0 h1 ⟨.str _, H, I.tok _, ⟨_, rfl⟩, q⟩
/-- len of a str, a bytes, a list, a tuple -/
def LenV (K : PySem.W.Frag) (x : V) (H : Hp) (n : Nat) : Prop :=
  match x with
  | .str y => y.length ≤ sizeLine ∧ n = y.length
  | .byt y => y.size ≤ sizeLine ∧ n = y.size
  | .ref p => (∃ xs, SqL K H p xs ∧ n = xs.length) ∨ ∃ xs, SqT K H p xs ∧ n = xs.length
  | _ => False
theorem call_len : CallR X (.builtin "len") (fun xs H Q => ∃ x n, xs = [x] ∧ LenV X.K x H n ∧ Q (.int n) H) := by
  intro pins s σ H xs us Q I r h
  obtain ⟨x, n, rfl, e, q⟩ := h
  obtain ⟨u, rfl, rx⟩ := vals1 r
  have hl := line63
  have hs : sizeLine = 16777216 := sizeLine_eq
  cases x with
  | str y =>
    obtain ⟨t, rfl⟩ := rx
    obtain ⟨hy, e'⟩ : y.length ≤ sizeLine ∧ n = y.length := e
    subst e'
    exact len_str (by omega) ⟨.int _, H, I.tok _, ⟨_, rfl⟩, q⟩
  | byt y =>
    obtain ⟨t, rfl⟩ := rx
    obtain ⟨hy, e'⟩ : y.size ≤ sizeLine ∧ n = y.size := e
    subst e'
    exact PySem.W.len_bytes (by omega) ⟨.int _, H, I.tok _, ⟨_, rfl⟩, q⟩
  | ref p =>
    cases rx
    have e' : (∃ xs, SqL X.K H p xs ∧ n = xs.length) ∨ ∃ xs, SqT X.K H p xs ∧ n = xs.length := e
    rcases e' with ⟨xs, hx, e'⟩ | ⟨xs, hx, e'⟩
    · subst e'
      obtain ⟨its, r', pl, hz⟩ := I.list hx
      have hlen := r'.length
      exact Calls.call_len_list pl.isList (by simp only [List.size_toArray]; omega) ⟨.int xs.length, H, I.tok _, ⟨_, by simp only [List.size_toArray]; rw [hlen]⟩, q⟩
    · subst e'
      obtain ⟨its, r', pl, hz⟩ := I.tuple hx
      have hlen := r'.length
      exact len_tuple pl (by simp only [List.size_toArray]; omega) ⟨.int xs.length, H, I.tok _, ⟨_, by simp only [List.size_toArray]; rw [hlen]⟩, q⟩
  | _ => exact (show False from e).elim
/-- divmod: a new tuple -/
theorem call_divmod : CallR X (.builtin "divmod") (fun xs H Q => ∃ i j, xs = [.int i, .int j] ∧ CDiv i j ∧ ∀ p, H p = none → Q (.ref p) (upd H p (.tup [.int (i / j), .int (i % j)]))) := by
  intro pins s σ H xs us Q I r h
  obtain ⟨i, j, rfl, ⟨h1, h2⟩, q⟩ := h
  obtain ⟨u, w', rfl, ⟨t, rfl⟩, ⟨t', rfl⟩⟩ := vals2 r
  refine divmod_int (by omega) ?_ (.inl (PyProof.noPylong_small (by omega)))
  rw [Int.fdiv_eq_ediv_of_nonneg i (by omega), Int.fmod_eq_emod_of_nonneg i (by omega)]
  have hn : H s.heap.objs.size = none := I.hok.fresh (Nat.le_refl _)
  refine ⟨.ref s.heap.objs.size, _, ?_, rfl, q _ hn⟩
  refine I.laid (fun b o e => Heap.get?_push_of_some _ e) (Nat.le_refl _) ⟨by simp only [List.length_cons, List.length_nil]; rw [sizeLine_eq]; decide, [.int (i / j) s.toks, .int (i % j) (s.toks + 1)], .cons ⟨_, rfl⟩ (.cons ⟨_, rfl⟩ .nil), ?_⟩
  exact ⟨_, Heap.get?_push_size s.heap rfl, rfl, 0, rfl⟩
end
end L2

namespace L2
open PySem PySem.Spec PyProof.Rows

/-! ### an instance, its attributes a map -/
structure ObjM (h : Heap) (x dx C : Addr) (mA : Str → Option Value) : Prop where
  obj : h.get? x = some (PySem.W.instObj C dx)
  ns : h.Ns1 dx mA
  ne : dx ≠ x

theorem lookIn_ns {h : Heap} {dx : Addr} {mA : Str → Option Value} (n : h.Ns1 dx mA) : ∃ od, h.get? dx = some od ∧ ∀ name, PySem.W.lookIn name od = some (mA name) := by
  obtain ⟨o, es, ep, ho, hd, hk, _, hm⟩ := n
  refine ⟨o, ho, fun name => ?_⟩
  have e := hm name
  unfold nsFind findBy at e
  rw [← Array.find?_toList] at e
  unfold PySem.W.lookIn
  rw [hd]
  dsimp only
  split
  · rename_i y q
    rw [q] at e
    exact congrArg some e
  · rename_i q
    rw [q] at e
    have a : es.toList.any (·.refKey) = false := by
      rw [List.any_eq_false]
      intro y hy
      obtain ⟨z, t, hkey⟩ := hk y (Array.mem_toList_iff.mp hy)
      simp [DictEntry.refKey, hkey]
    have a' : ¬ es.toList.any (·.refKey) = true := by rw [a]; exact Bool.false_ne_true
    rw [if_neg a']
    exact congrArg some e

theorem ObjM.look {h : Heap} {x dx C : Addr} {mA : Str → Option Value} (I : ObjM h x dx C mA) : ∃ od, PySem.W.InstAt h x (PySem.W.instObj C dx) C (some od) ∧ ∀ name, PySem.W.lookIn name od = some (mA name) :=
  let ⟨od, ho, hl⟩ := lookIn_ns I.ns
  ⟨od, ⟨I.obj, rfl, rfl, ho⟩, hl⟩

section
variable {prog : Program} {w : World} {A : Around} {E : Value → Shared → Prop} {s : Shared} {K : PySem.W.Frag} {x dx C f : Addr} {mA : Str → Option Value} {name : Str} {v : Value}

theorem get_map {expr : Bool} {Q : Value → Shared → Prop} (X : K.In s.heap) (I : ObjM s.heap x dx C mA) (hg : PySem.W.plainGet K C name = true) (hh : PySem.W.hasDictIn K C = true)
    (ha : PySem.W.findIn K (.ref C) name = some none) (hv : mA name = some v) (hv' : PySem.W.handedIn v = true) (h : Q v { s with toks := s.toks + 1 }) :
    wpAny (model prog w) A (getAttr (.ref x) name expr) Q E s := by
  obtain ⟨od, J, hl⟩ := I.look
  exact PySem.W.get_value X J (PySem.W.plainGet_of hg).1 (PySem.W.findObj_own hh ha rfl (by rw [hl, hv])) hv' h

theorem get_const {expr : Bool} {a : Value} {Q : Value → Shared → Prop} (X : K.In s.heap) (I : ObjM s.heap x dx C mA) (hg : PySem.W.plainGet K C name = true) (hh : PySem.W.hasDictIn K C = true)
    (ha : PySem.W.findIn K (.ref C) name = some (some a)) (hn : PySem.W.specialIn K a "__get__" = some none) (hc : PySem.W.copiedNames.contains name = false) (hv : mA name = none) (hv' : PySem.W.handedIn a = true)
    (h : Q a { s with toks := s.toks + 1 }) : wpAny (model prog w) A (getAttr (.ref x) name expr) Q E s := by
  obtain ⟨od, J, hl⟩ := I.look
  exact PySem.W.get_value X J (PySem.W.plainGet_of hg).1 (PySem.W.findObj_cls hh ha hn hv' hc (by rw [hl, hv])) hv' h

theorem get_meth {pl : Sem Bool} {Q : Value × List Value → Shared → Prop} (X : K.In s.heap) (I : ObjM s.heap x dx C mA) (hg : PySem.W.plainGet K C name = true)
    (hf : PySem.W.findIn K (.ref C) name = some (some (.ref f))) (ht : PySem.W.isFn K (.ref f) = true) (hv : mA name = none) (h : Q (.ref f, [.ref x]) s) :
    wpAny (model prog w) A (getMethod (.ref x) name pl) Q E s := by
  obtain ⟨od, J, hl⟩ := I.look
  exact PySem.W.method_fn X J (PySem.W.plainGet_of hg).1 (PySem.W.plainGet_of hg).2 hf (beq_iff_eq.mp ht) (by show (PySem.W.lookIn name od).map (·.isSome) = some false; rw [hl, hv]; rfl) h

theorem set_map {ns : List Str} {Q : Unit → Shared → Prop} (X : K.In s.heap) (I : ObjM s.heap x dx C mA)
    (hs : PySem.W.findIn K (.ref C) "__setattr__" = some (some (.builtin "object.__setattr__"))) (hp : PySem.W.plainOver K C = true) (ht : PySem.W.takerIn K C name = some none) (hh : PySem.W.hasDictIn K C = true)
    (hw : PySem.Within mA ns) (hsz : ns.length ≤ sizeLine)
    (h : ∀ h', ObjM h' x dx C (fun y => if y = name then some v else mA y) → Heap.SameBut dx s.heap h' → Q () { s with heap := h', toks := s.toks + 2 }) :
    wpAny (model prog w) A (setAttr (.ref x) name v) Q E s := by
  obtain ⟨od, J, hl⟩ := I.look
  refine PySem.W.set_plain X J hs (PySem.W.osa_open (s := { s with toks := s.toks + 1 }) (r := none) X J hp ht fun b => ?_)
  obtain ⟨cd, hc, hd'⟩ := PySem.W.any_some hh
  have hx : s.heap.get? x = some ⟨.ref C, some dx, .plain, #[]⟩ := I.obj
  refine wpAny_bind (wpAny_pure (wpAny_bind (wpAny_bind (wpAny_loadPart hx (wpAny_bind (PySem.W.Looks.here (s := { s with toks := s.toks + 1 }) (PySem.W.looks_clsIn X hc) ?_))))))
  rw [hd']
  refine wpAny_pure (a := some dx) (wpAny_bind (wpAny_pure (wpAny_bind ?_)))
  refine wpAny_nsSet1 (s := { s with toks := s.toks + 1 }) I.ns fun h' hn2 hs2 => ?_
  obtain ⟨oD, esD, epD, hoD, hdD, hcD⟩ := hn2.count (PySem.Within.cons name v hw)
  refine wpAny_bind (wpAny_lookBehind hoD (by rw [hdD]; exact pastItsLine_dict (Nat.le_trans hcD (by rw [List.length_cons]; omega))) ?_)
  exact wpAny_pure (h _ ⟨(hs2.2 _ (Ne.symm I.ne)).trans I.obj, hn2, I.ne⟩ hs2)

/-- C(..): the dict at the heap's end, the instance behind it; then its __init__ -/
theorem make_map {R : Result → Shared → Prop} {vs : List Value} {kw : List (Str × Value)} (X : K.In s.heap) (hm : PySem.W.makesIn K C = true)
    (hi : PySem.W.findIn K (.ref C) "__init__" = some (some (.ref f))) (hf : PySem.W.typeIn K (.ref f) = some (.type "function"))
    (h : codeAny (model prog w) (A.under (.builtin "type.__call__" ⟨.ref C :: vs, kw⟩)) (.call (.ref f) ⟨.ref (s.heap.objs.size + 1) :: vs, kw⟩) (PySem.W.InitBack (s.heap.objs.size + 1) R)
      { s with heap := (s.heap.push PySem.W.emptyDict).push (PySem.W.instObj C s.heap.objs.size) }) :
    codeAny (model prog w) A (.call (.ref C) ⟨vs, kw⟩) R s := by
  obtain ⟨hh, g, d, t, os⟩ := s
  exact PySem.W.make_core (PySem.W.makes_of X hm) (PySem.W.looks_findIn X hi) (fun self => PySem.W.bind_fn X self hf) (.inl rfl) h
/-- C() where there is no __init__ but object's -/
theorem make_map0 {R : Result → Shared → Prop} (X : K.In s.heap) (hm : PySem.W.makesIn K C = true)
    (hi : PySem.W.findIn K (.ref C) "__init__" = some (some (.builtin "object.__init__")))
    (hb : ∀ self, PySem.W.Looks (model prog w) s.heap (bindSpecial (.builtin "object.__init__") self) (.builtin "object.__init__", [self]))
    (h : codeAny (model prog w) (A.under (.builtin "type.__call__" ⟨[.ref C], []⟩)) (.call (.builtin "object.__init__") ⟨[.ref (s.heap.objs.size + 1)], []⟩) (PySem.W.InitBack (s.heap.objs.size + 1) R)
      { s with heap := (s.heap.push PySem.W.emptyDict).push (PySem.W.instObj C s.heap.objs.size) }) :
    codeAny (model prog w) A (.call (.ref C) ⟨[], []⟩) R s := by
  obtain ⟨hh, g, d, t, os⟩ := s
  exact PySem.W.make_core (PySem.W.makes_of X hm) (PySem.W.looks_findIn X hi) hb (.inr ⟨rfl, rfl⟩) h
end

/-! ### the attributes as a list of pairs -/
def putF (f : Str) (v : V) : List (Str × V) → List (Str × V)
  | [] => [(f, v)]
  | (g, x) :: r => if g = f then (g, v) :: r else (g, x) :: putF f v r
theorem lookup_putF (f g : Str) (v : V) : ∀ fs : List (Str × V), (putF f v fs).lookup g = if g = f then some v else fs.lookup g
  | [] => by
    show List.lookup g [(f, v)] = _
    by_cases h : g = f
    · have hb : (g == f) = true := beq_iff_eq.mpr h
      simp only [List.lookup, hb, if_pos h]
    · have hb : (g == f) = false := beq_eq_false_iff_ne.mpr h
      simp only [List.lookup, hb, if_neg h]
  | (k, x) :: r => by
    have ih := lookup_putF f g v r
    rw [show putF f v ((k, x) :: r) = (if k = f then (k, v) :: r else (k, x) :: putF f v r) from rfl]
    by_cases hk : k = f
    · rw [if_pos hk]
      by_cases h : g = k
      · have hb : (g == k) = true := beq_iff_eq.mpr h
        simp only [List.lookup, hb, if_pos (h.trans hk)]
      · have hb : (g == k) = false := beq_eq_false_iff_ne.mpr h
        simp only [List.lookup, hb, if_neg (fun e : g = f => h (e.trans hk.symm))]
    · rw [if_neg hk]
      by_cases h : g = k
      · have hb : (g == k) = true := beq_iff_eq.mpr h
        simp only [List.lookup, hb, if_neg (fun e : g = f => hk (h.symm.trans e))]
      · have hb : (g == k) = false := beq_eq_false_iff_ne.mpr h
        simp only [List.lookup, hb]
        exact ih
theorem keys_putF (f : Str) (v : V) : ∀ fs : List (Str × V), f ∈ (putF f v fs).map (·.1) ∧ ∀ g, g ∈ fs.map (·.1) → g ∈ (putF f v fs).map (·.1)
  | [] => ⟨by simp [putF], fun g h => by simp at h⟩
  | (k, x) :: r => by
    obtain ⟨i1, i2⟩ := keys_putF f v r
    rw [show putF f v ((k, x) :: r) = (if k = f then (k, v) :: r else (k, x) :: putF f v r) from rfl]
    by_cases hk : k = f
    · rw [if_pos hk]
      subst hk
      exact ⟨by simp, fun g h => by simpa using h⟩
    · rw [if_neg hk]
      refine ⟨?_, fun g h => ?_⟩
      · rw [List.map_cons]
        exact List.mem_cons_of_mem _ i1
      · rw [List.map_cons] at h ⊢
        rcases List.mem_cons.mp h with e | e
        · exact List.mem_cons.mpr (.inl e)
        · exact List.mem_cons_of_mem _ (i2 g e)
theorem length_putF (f : Str) (v : V) : ∀ fs : List (Str × V), (putF f v fs).length ≤ fs.length + 1
  | [] => by simp [putF]
  | (k, x) :: r => by
    have ih := length_putF f v r
    rw [show putF f v ((k, x) :: r) = (if k = f then (k, v) :: r else (k, x) :: putF f v r) from rfl]
    by_cases hk : k = f
    · rw [if_pos hk, List.length_cons, List.length_cons]; omega
    · rw [if_neg hk, List.length_cons, List.length_cons]; omega

theorem RelO.some_of {v : V} {o : Option Value} (r : RelO (some v) o) : ∃ u, o = some u ∧ RelV v u := by
  cases o with
  | none => exact (show False from r).elim
  | some u => exact ⟨u, rfl, r⟩
theorem RelO.none_of {o : Option Value} (r : RelO none o) : o = none := by
  cases o with
  | none => rfl
  | some u => exact (show False from r).elim
theorem handed_of {v : V} {u : Value} (r : RelV v u) : PySem.W.handedIn u = true := by
  cases v with
  | non => cases (show u = Value.none from r); rfl
  | bl b => cases (show u = Value.bool b from r); rfl
  | int i => obtain ⟨t, e⟩ := (show ∃ t, u = Value.int i t from r); cases e; rfl
  | str x => obtain ⟨t, e⟩ := (show ∃ t, u = Value.str x t from r); cases e; rfl
  | byt b => obtain ⟨t, e⟩ := (show ∃ t, u = Value.bytes b t from r); cases e; rfl
  | flt b => obtain ⟨t, e⟩ := (show ∃ t, u = Value.float b t from r); cases e; rfl
  | ref a => cases (show u = Value.ref a from r); rfl
  | ty n => cases (show u = Value.type n from r); rfl

section
variable {P : Program} {w : World} {H H' : Hp} {h h' : Heap} {a C dx : Addr} {fs fs' : List (Str × V)}
theorem ins_get (hok : HOk P w H h) (e : H a = some (.ins C dx fs)) : ∃ mA, ObjM h a dx C mA ∧ (∀ f, RelO (fs.lookup f) (mA f)) ∧ PySem.Within mA (fs.map (·.1)) ∧ fs.length ≤ 1000 ∧ H dx = some (.own a) := by
  obtain ⟨d, z, ne, ob, mA, n, r, q⟩ := (show ObjOk P w H h a (.ins C dx fs) from hok a _ e)
  exact ⟨mA, ⟨ob, n, ne⟩, r, q, z, d⟩
end

/-! ### what of the text a class must have -/
structure Cls (K : PySem.W.Frag) (C : Addr) : Prop where
  pg : PySem.W.plainGet K C Str.empty = true
  hd : PySem.W.hasDictIn K C = true
  po : PySem.W.plainOver K C = true
  sa : PySem.W.findIn K (.ref C) "__setattr__" = some (some (.builtin "object.__setattr__"))
theorem Cls.get {K : PySem.W.Frag} {C : Addr} (c : Cls K C) (f : Str) : PySem.W.plainGet K C f = true := c.pg
/-- no class of it has the name -/
def NoAttr (K : PySem.W.Frag) (C : Addr) (f : Str) : Prop := PySem.W.findIn K (.ref C) f = some none
theorem NoAttr.taker {K : PySem.W.Frag} {C : Addr} {f : Str} (n : NoAttr K C f) : PySem.W.takerIn K C f = some none := by
  unfold PySem.W.takerIn
  rw [show PySem.W.findIn K (.ref C) f = some none from n]
  rfl
/-- a constant of the class -/
structure Con (K : PySem.W.Frag) (C : Addr) (f : Str) (v : V) (u : Value) : Prop where
  at_ : PySem.W.findIn K (.ref C) f = some (some u)
  rel : RelV v u
  get : PySem.W.specialIn K u "__get__" = some none
  cp : PySem.W.copiedNames.contains f = false
/-- a method: a plain def of the class or of one above it -/
structure Meth (K : PySem.W.Frag) (C : Addr) (m : Str) (f : Addr) : Prop where
  at_ : PySem.W.findIn K (.ref C) m = some (some (.ref f))
  fn : PySem.W.isFn K (.ref f) = true
  kp : PySem.W.keepIn K (.ref f) = true

section
variable {X : Cx} {pins : List (Addr × Obj)} {σ : St} {H : Hp} {s : Shared} {a C dx : Addr} {fs : List (Str × V)} {f : Str} {v : V} {A : Around} {E : Value → Shared → Prop}

theorem getattr_ok {b : Bool} {Q : Value → Shared → Prop} (I : Inv X pins σ H s) (e : H a = some (.ins C dx fs)) (c : Cls X.K C) (n : NoAttr X.K C f) (l : fs.lookup f = some v)
    (h : ∀ u s', Inv X pins σ H s' → RelV v u → Q u s') : wpAny (model X.prog X.w) A (getAttr (.ref a) f b) Q E s := by
  obtain ⟨mA, O, r, _, _, _⟩ := ins_get I.hok e
  obtain ⟨u, hu, ru⟩ := RelO.some_of (v := v) (o := mA f) (by rw [← l]; exact r f)
  exact get_map I.kIn O (c.get f) c.hd n hu (handed_of ru) (h u _ (I.tok _) ru)

theorem getcon_ok {b : Bool} {u : Value} {Q : Value → Shared → Prop} (I : Inv X pins σ H s) (e : H a = some (.ins C dx fs)) (c : Cls X.K C) (k : Con X.K C f v u) (l : fs.lookup f = none)
    (h : ∀ s', Inv X pins σ H s' → Q u s') : wpAny (model X.prog X.w) A (getAttr (.ref a) f b) Q E s := by
  obtain ⟨mA, O, r, _, _, _⟩ := ins_get I.hok e
  have hn : mA f = none := RelO.none_of (by rw [← l]; exact r f)
  exact get_const I.kIn O (c.get f) c.hd k.at_ k.get k.cp hn (handed_of k.rel) (h _ (I.tok _))

theorem getmeth_ok {m : Str} {g : Addr} {pl : Sem Bool} {Q : Value × List Value → Shared → Prop} (I : Inv X pins σ H s) (e : H a = some (.ins C dx fs)) (c : Cls X.K C) (k : Meth X.K C m g) (l : fs.lookup m = none)
    (h : Q (.ref g, [.ref a]) s) : wpAny (model X.prog X.w) A (getMethod (.ref a) m pl) Q E s := by
  obtain ⟨mA, O, r, _, _, _⟩ := ins_get I.hok e
  have hn : mA m = none := RelO.none_of (by rw [← l]; exact r m)
  exact get_meth I.kIn O (c.get m) k.at_ k.fn hn h

theorem setattr_ok {y : V} {u : Value} {Q : Unit → Shared → Prop} (I : Inv X pins σ H s) (e : H a = some (.ins C dx fs)) (c : Cls X.K C) (n : NoAttr X.K C f) (hl : fs.length < 1000) (ry : RelV y u)
    (h : ∀ s', Inv X pins σ (upd H a (.ins C dx (putF f y fs))) s' → Q () s') : wpAny (model X.prog X.w) A (setAttr (.ref a) f u) Q E s := by
  obtain ⟨mA, O, r, wi, _, ho⟩ := ins_get I.hok e
  have hz : (fs.map (·.1)).length ≤ sizeLine := by rw [List.length_map, sizeLine_eq]; omega
  refine set_map I.kIn O c.sa c.po n.taker c.hd wi hz fun h' O' sb => h _ ?_
  have hd : ∃ o, h'.get? dx = some o := let ⟨o, _, _, e', _⟩ := O'.ns; ⟨o, e'⟩
  refine I.write (x := a) (e := dx) (by rw [e]; exact True.intro) (.inr ho) (fun b q hb z => (sb.2 b hb).trans z) hd ?_
  refine ⟨by rw [upd_ne O.ne]; exact ho, ?_, O.ne, O'.obj, _, O'.ns, fun g => ?_, fun g hg => ?_⟩
  · have := length_putF f y fs; omega
  · show RelO ((putF f y fs).lookup g) (if g = f then some u else mA g)
    rw [lookup_putF]
    by_cases q : g = f
    · rw [if_pos q, if_pos q]; exact ry
    · rw [if_neg q, if_neg q]; exact r g
  · by_cases q : g = f
    · rw [q]; exact (keys_putF f y fs).1
    · refine (keys_putF f y fs).2 g (wi g fun z => hg ?_)
      show (if g = f then some u else mA g) = none
      rw [if_neg q]; exact z

/-- a new instance, tracked, without attributes -/
theorem Inv.made (I : Inv X pins σ H s) : Inv X pins σ (upd (upd H s.heap.objs.size (.own (s.heap.objs.size + 1))) (s.heap.objs.size + 1) (.ins C s.heap.objs.size []))
    { s with heap := (s.heap.push PySem.W.emptyDict).push (PySem.W.instObj C s.heap.objs.size) } := by
  have e1 : (s.heap.push PySem.W.emptyDict).get? s.heap.objs.size = some PySem.W.emptyDict := Heap.get?_push_size s.heap rfl
  have e2 : ((s.heap.push PySem.W.emptyDict).push (PySem.W.instObj C s.heap.objs.size)).get? (s.heap.objs.size + 1) = some (PySem.W.instObj C s.heap.objs.size) := by
    have := Heap.get?_push_size (s.heap.push PySem.W.emptyDict) (o := PySem.W.instObj C s.heap.objs.size) rfl
    rwa [Heap.size_push] at this
  have e3 : (s.heap.push PySem.W.emptyDict).Ns s.heap.objs.size (fun _ => none) := ⟨PySem.W.emptyDict, #[], _, e1, rfl, (fun e he => absurd he (by simp)), fun _ => rfl⟩
  have I1 := I.laid (a := s.heap.objs.size) (o := .own (s.heap.objs.size + 1)) (h' := s.heap.push PySem.W.emptyDict) (t' := s.toks) (fun b u q => Heap.get?_push_of_some _ q) (Nat.le_refl _) ⟨_, e1⟩
  refine I1.laid (a := s.heap.objs.size + 1) (o := .ins C s.heap.objs.size []) (t' := s.toks) (fun b u q => Heap.get?_push_of_some _ q) (Nat.le_of_eq (Heap.size_push _ _)) ?_
  have ne : s.heap.objs.size ≠ s.heap.objs.size + 1 := Nat.ne_of_lt (Nat.lt_succ_self _)
  refine ⟨by rw [upd_ne ne, upd_same], Nat.zero_le _, ne, e2, fun _ => none, (Heap.Ns1.of_empty e3).at fun o q => Heap.get?_push_of_some _ q, fun _ => True.intro, fun y hy => absurd rfl hy⟩

/-- e.f where nothing but the object is asked: through attributeBase (super) and the last hold -/
theorem attr_of {prog : Program} {w : World} {env : Env} {e : Expr} {f : Str} {pos : Pos} {s : Shared} {Q : Value → Shared → Prop} (hb : attributeBase e f env (eval e env) = eval e env)
    (h : wpAny (model prog w) A (eval e env) (fun o s₁ => wpAny (model prog w) A (getAttr o f true) Q E s₁) E s) : wpAny (model prog w) A (eval (.Attribute e f pos) env) Q E s :=
  Attribute_any_ h (by rw [arm_eval_Attribute, hb])
end

/-! ### readings and rules -/
/-- e.f, an attribute of the instance -/
def tFld (K : PySem.W.Frag) (ta : TE) (f : Str) : TE := fun σ H Q => ta σ H fun x H1 => ∃ a C dx fs v, x = .ref a ∧ H1 a = some (.ins C dx fs) ∧ Cls K C ∧ NoAttr K C f ∧ fs.lookup f = some v ∧ Q v H1
/-- e.f, a constant of the class -/
def tCon (K : PySem.W.Frag) (ta : TE) (f : Str) : TE := fun σ H Q => ta σ H fun x H1 => ∃ a C dx fs v u, x = .ref a ∧ H1 a = some (.ins C dx fs) ∧ Cls K C ∧ Con K C f v u ∧ fs.lookup f = none ∧ Q v H1
/-- e.f = value -/
def sFld (K : PySem.W.Frag) (ta tv : TE) (f : Str) : TS := fun D σ H => tv σ H fun y H1 => ta σ H1 fun x H2 => ∃ a C dx fs, x = .ref a ∧ H2 a = some (.ins C dx fs) ∧ Cls K C ∧ NoAttr K C f ∧ fs.length < 1000 ∧
  D.nx σ (upd H2 a (.ins C dx (putF f y fs)))
/-- an augmented operator on two values -/
def InOp (X : Cx) (op : Operator) (rd : V → V → Hp → VK → Prop) : Prop :=
  ∀ (pins : List (Addr × Obj)) (s : Shared) (σ : St) (H : Hp) (x y : V) (u v : Value) (Q : VK), Inv X pins σ H s → RelV x u → RelV y v → rd x y H Q → wpAny (model X.prog X.w) X.A (inplaceOp op u v) (EP X pins σ Q) X.xe s
/-- e.f op= value -/
def sFldAug (K : PySem.W.Frag) (ta tv : TE) (rd : V → V → Hp → VK → Prop) (f : Str) : TS := fun D σ H => ta σ H fun x H1 => ∃ a C dx fs v, x = .ref a ∧ H1 a = some (.ins C dx fs) ∧ Cls K C ∧ NoAttr K C f ∧ fs.lookup f = some v ∧
  tv σ H1 fun y H2 => rd v y H2 fun z H3 => ∃ dx' fs', H3 a = some (.ins C dx' fs') ∧ fs'.length < 1000 ∧ D.nx σ (upd H3 a (.ins C dx' (putF f z fs')))

section
variable {X : Cx} {o e value : Expr} {f : Str} {pos pos' tpos : Pos} {ta tv : TE}
theorem pe_fld (he : PE X e ta) (hb : attributeBase e f X.env (eval e X.env) = eval e X.env) : PE X (.Attribute e f pos) (tFld X.K ta f) := by
  intro pins s σ H Q I h
  refine attr_of hb (thn (he pins s σ H _ I h) fun u s1 ⟨x, H1, I1, rx, a, C, dx, fs, v, ex, ea, c, n, l, q⟩ => ?_)
  subst ex
  obtain rfl : u = Value.ref a := rx
  exact getattr_ok I1 ea c n l fun u' s2 I2 ru => ⟨v, H1, I2, ru, q⟩
theorem pe_con (he : PE X e ta) (hb : attributeBase e f X.env (eval e X.env) = eval e X.env) : PE X (.Attribute e f pos) (tCon X.K ta f) := by
  intro pins s σ H Q I h
  refine attr_of hb (thn (he pins s σ H _ I h) fun u s1 ⟨x, H1, I1, rx, a, C, dx, fs, v, u0, ex, ea, c, k, l, q⟩ => ?_)
  subst ex
  obtain rfl : u = Value.ref a := rx
  exact getcon_ok I1 ea c k l fun s2 I2 => ⟨v, H1, I2, k.rel, q⟩
theorem ps_fld (ha : PE X o ta) (hv : PE X value tv) (hs : swapsWith value (some (.Attribute o f pos')) pos.line X.env = pure false) : PS X (.Assign [.Attribute o f pos'] value pos) (sFld X.K ta tv f) := by
  intro pins s σ H D I h
  refine plainObj_wpAny_Assign_Attribute (thn (hv pins s σ H _ I h) fun u s1 ⟨y, H1, I1, ry, q⟩ => thn (ha pins s1 σ H1 _ I1 q) fun ov s2 ⟨x, H2, I2, rx, a, C, dx, fs, ex, ea, c, n, l, q2⟩ => ?_) hs
  subst ex
  obtain rfl : ov = Value.ref a := rx
  exact setattr_ok I2 ea c n l ry fun s3 I3 => ⟨σ, _, I3, q2⟩
theorem ps_fldaug {op : Operator} {rd : V → V → Hp → VK → Prop} (ha : PE X o ta) (hv : PE X value tv) (hop : InOp X op rd) : PS X (.AugAssign (.Attribute o f tpos) op value pos) (sFldAug X.K ta tv rd f) := by
  intro pins s σ H D I h
  refine wpAny_AugAssign_AttributeAny (thn (ha pins s σ H _ I h) fun ov s1 ⟨x, H1, I1, rx, a, C, dx, fs, v, ex, ea, c, n, l, q⟩ => ?_)
  subst ex
  obtain rfl : ov = Value.ref a := rx
  refine getattr_ok I1 ea c n l fun u s2 I2 ru => thn (hv pins s2 σ H1 _ I2 q) fun w3 s3 ⟨y, H2, I3, ry, q3⟩ => thn (hop pins s3 σ H2 v y u w3 _ I3 ru ry q3) fun w4 s4 ⟨z, H3, I4, rz, dx', fs', ea', l', q4⟩ => ?_
  exact setattr_ok I4 ea' c n l' rz fun s5 I5 => ⟨σ, _, I5, q4⟩
def rAdd : V → V → Hp → VK → Prop := fun x y H Q => ∃ i j, x = .int i ∧ y = .int j ∧ Q (.int (i + j)) H
def rSub : V → V → Hp → VK → Prop := fun x y H Q => ∃ i j, x = .int i ∧ y = .int j ∧ Q (.int (i - j)) H
theorem in_add : InOp X .Add rAdd := by
  rintro pins s σ H x y u v Q I rx ry ⟨i, j, rfl, rfl, q⟩
  obtain ⟨t, rfl⟩ := (show ∃ t, u = Value.int i t from rx)
  obtain ⟨t', rfl⟩ := (show ∃ t', v = Value.int j t' from ry)
  exact PyProof.Rows.iadd_int ⟨.int (i + j), H, I.tok _, ⟨_, rfl⟩, q⟩
theorem in_sub : InOp X .Sub rSub := by
  rintro pins s σ H x y u v Q I rx ry ⟨i, j, rfl, rfl, q⟩
  obtain ⟨t, rfl⟩ := (show ∃ t, u = Value.int i t from rx)
  obtain ⟨t', rfl⟩ := (show ∃ t', v = Value.int j t' from ry)
  exact PyProof.Rows.isub_int ⟨.int (i - j), H, I.tok _, ⟨_, rfl⟩, q⟩

/-- what is between an instance and its method: the tree of a method call -/
theorem methcall_of {pl : Sem Bool} {m : Str} {apos : Pos} {args : List Expr} {pins : List (Addr × Obj)} {s : Shared} {σ : St} {H : Hp} {Q : Value → Shared → Prop} {te : TE} (he : PE X e te) (I : Inv X pins σ H s)
    (h : te σ H fun x H1 => ∃ a C dx fs g, x = .ref a ∧ H1 a = some (.ins C dx fs) ∧ Cls X.K C ∧ Meth X.K C m g ∧ fs.lookup m = none ∧
      ∀ s1, Inv X pins σ H1 s1 → wpAny (model X.prog X.w) X.A (callWith pos (.ref g) [.ref a] (backTo pos (starEach args X.env)) (backToKw pos (keywordEach [] X.env))) Q X.xe s1)
    (ht : eval (.Call (.Attribute e m apos) args [] pos) X.env = (do
      let ov ← eval e X.env
      standAt apos.atName
      let (f, first) ← holding [ov] (getMethod ov m pl)
      callWith pos f first (backTo pos (starEach args X.env)) (backToKw pos (keywordEach [] X.env)))) :
    wpAny (model X.prog X.w) X.A (eval (.Call (.Attribute e m apos) args [] pos) X.env) Q X.xe s := by
  refine PySem.W.methodCall_KW (pl := pl) (thn (he pins s σ H _ I h) fun u s1 ⟨x, H1, I1, rx, a, C, dx, fs, g, ex, ea, c, k, l, q⟩ => ?_) ht
  subst ex
  obtain rfl : u = Value.ref a := rx
  exact getmeth_ok I1 ea c k l (q s1 I1)
end

/-! ### isinstance -/
section
variable {X : Cx} {pins : List (Addr × Obj)} {σ : St} {H : Hp} {s : Shared} {A : Around} {E : Value → Shared → Prop} {Q : Value → Shared → Prop} {c : Value} {b : Bool}
/-- the type of a value, as the fragment's deciders take it; for an instance its class -/
inductive TyOf (K : PySem.W.Frag) (H : Hp) : V → Value → Prop where
  | non : TyOf K H .non (.type "NoneType")
  | bl (x : Bool) : TyOf K H (.bl x) (.type "bool")
  | int (i : Int) : TyOf K H (.int i) (.type "int")
  | str (x : Str) : TyOf K H (.str x) (.type "str")
  | flt (x : UInt64) : TyOf K H (.flt x) (.type "float")
  | lst {a : Addr} {xs : List V} (e : H a = some (.lst xs)) : TyOf K H (.ref a) (.type "list")
  | frz {a : Addr} {o : Obj} {xs : List V} (e : H a = some (.frz o (.lst xs))) : TyOf K H (.ref a) (.type "list")
  | tup {a : Addr} {xs : List V} (e : H a = some (.tup xs)) : TyOf K H (.ref a) (.type "tuple")
  | dK {a : Addr} {kvs : List (Key × V)} (e : H a = some (.dK kvs)) : TyOf K H (.ref a) (.type "dict")
  | dT {a : Addr} {kvs : List (List Key × V)} (e : H a = some (.dT kvs)) : TyOf K H (.ref a) (.type "dict")
  | ins {a C dx : Addr} {fs : List (Str × V)} (e : H a = some (.ins C dx fs)) (cl : Cls K C) (ha : PySem.W.findIn K (.ref C) "__class__" = some (some (.builtin "object.__class__")))
      (hn : PySem.W.specialIn K (.builtin "object.__class__") "__get__" = some (some (.builtin "getset_descriptor.__get__"))) (htk : PySem.W.takesIn K (.builtin "object.__class__") = some true)
      (hm : PySem.W.mroIn K C (.type "object") = some true) : TyOf K H (.ref a) (.ref C)
/-- isinstance(x, c) for one class c, a built-in or an own one: kitOne's answer -/
theorem isinst_ok {x : V} {u t : Value} (I : Inv X pins σ H s) (rx : RelV x u) (ty : TyOf X.K H x t) (e : PySem.W.kitOne X.K t c = some b) (h : ∀ tk, Q (.bool b) { s with toks := tk }) :
    wpAny (model X.prog X.w) A (call (.builtin "isinstance") [u, c]) Q E s := by
  cases ty with
  | non => cases (show u = Value.none from rx); exact PySem.W.kia_one PySem.W.kitx_none I.kIn True.intro e (fun z => nomatch z) h
  | bl y => cases (show u = Value.bool y from rx); exact PySem.W.kia_one PySem.W.kitx_bool I.kIn True.intro e (fun z => nomatch z) h
  | int i => obtain ⟨t, q⟩ := (show ∃ t, u = Value.int i t from rx); cases q; exact PySem.W.kia_one PySem.W.kitx_int I.kIn True.intro e (fun z => nomatch z) h
  | str y => obtain ⟨t, q⟩ := (show ∃ t, u = Value.str y t from rx); cases q; exact PySem.W.kia_one PySem.W.kitx_str I.kIn True.intro e (fun z => nomatch z) h
  | flt y => obtain ⟨t, q⟩ := (show ∃ t, u = Value.float y t from rx); cases q; exact PySem.W.kia_one PySem.W.kitx_float I.kIn True.intro e (fun z => nomatch z) h
  | @lst a xs ea =>
    cases (show u = Value.ref a from rx)
    obtain ⟨_, _, n, _, h1⟩ := (show ObjOk X.prog X.w H s.heap a (.lst xs) from I.hok a _ ea)
    exact PySem.W.kia_one PySem.W.kitx_list I.kIn ⟨_, h1, rfl⟩ e (fun z => nomatch z) h
  | @frz a ob xs ea =>
    cases (show u = Value.ref a from rx)
    obtain ⟨_, _, _, n, _, h1⟩ := (show ObjOk X.prog X.w H s.heap a (.frz ob (.lst xs)) from I.hok a _ ea)
    exact PySem.W.kia_one PySem.W.kitx_list I.kIn ⟨_, h1, rfl⟩ e (fun z => nomatch z) h
  | @tup a xs ea =>
    cases (show u = Value.ref a from rx)
    obtain ⟨_, _, _, p⟩ := (show ObjOk X.prog X.w H s.heap a (.tup xs) from I.hok a _ ea)
    obtain ⟨o, h1, h2, _⟩ := p
    exact PySem.W.kia_one PySem.W.kitx_tuple I.kIn ⟨o, h1, h2⟩ e (fun z => nomatch z) h
  | @dK a kvs ea =>
    cases (show u = Value.ref a from rx)
    obtain ⟨_, _, vs, _, p⟩ := (show ObjOk X.prog X.w H s.heap a (.dK kvs) from I.hok a _ ea)
    obtain ⟨o, es, ep, h1, h2, _⟩ := p
    exact PySem.W.kia_one PySem.W.kitx_dict I.kIn ⟨o, h1, h2.1⟩ e (fun z => nomatch z) h
  | @dT a kvs ea =>
    cases (show u = Value.ref a from rx)
    obtain ⟨_, _, xs, _, o, es, ep, h1, h2, _⟩ := (show ObjOk X.prog X.w H s.heap a (.dT kvs) from I.hok a _ ea)
    exact PySem.W.kia_one PySem.W.kitx_dict I.kIn ⟨o, h1, h2.1⟩ e (fun z => nomatch z) h
  | @ins a C dx fs ea cl ha hn htk hm =>
    cases (show u = Value.ref a from rx)
    obtain ⟨mA, O, _⟩ := ins_get I.hok ea
    obtain ⟨od, J, _⟩ := O.look
    exact PySem.W.kia_one (PySem.W.kitx_own (cl.get _) cl.hd ha hn htk hm) I.kIn J e (fun z => nomatch z) h
end
end L2

namespace L2
open PySem PySem.Spec PyProof.Rows

/-! ### room -/
structure Room (k : Nat) (A : Around) : Prop where
  hd : A.handled = none
  dp : A.depth + 3 * k + 5 < recursionLimit
  un : A.units + 16 * k + 200 < cLine
theorem Room.mono {j k : Nat} {A : Around} (r : Room k A) (h : j ≤ k) : Room j A := ⟨r.hd, by have := r.dp; omega, by have := r.un; omega⟩
theorem Room.deeper {k : Nat} {A : Around} (r : Room (k + 1) A) (env : Env) : Room k (A.deeper env) :=
  ⟨r.hd, by have := r.dp; show A.depth + 1 + 3 * k + 5 < _; omega, by have := r.un; show A.units + 3 + 16 * k + 200 < _; omega⟩
theorem Room.in1 {k : Nat} {A : Around} (r : Room (k + 1) A) : Room k A.in1 :=
  ⟨r.hd, by have := r.dp; show A.depth + 3 * k + 5 < _; omega, by have := r.un; show A.units + 1 + 16 * k + 200 < _; omega⟩
theorem make_depth {A : Around} {C : Addr} {us : List Value} {kw : List (Str × Value)} : (A.under (.builtin "type.__call__" ⟨.ref C :: us, kw⟩)).depth = A.depth + 1 := by
  first | rfl | simp [Around.under, Code.weight, Code.isCreation, Code.isGuard, Code.isCaller, Code.frames, Code.isFrame, guardIds]
theorem make_units {A : Around} {C : Addr} {us : List Value} {kw : List (Str × Value)} : (A.under (.builtin "type.__call__" ⟨.ref C :: us, kw⟩)).units = A.units + 1 := by
  first | rfl | simp [Around.under, Code.cUnits, Code.frames, Code.isFrame]
theorem Room.make {k : Nat} {A : Around} (r : Room (k + 1) A) (C : Addr) (us : List Value) (kw : List (Str × Value)) : Room k (A.under (.builtin "type.__call__" ⟨.ref C :: us, kw⟩)) :=
  ⟨r.hd, by have := r.dp; rw [make_depth]; omega, by have := r.un; rw [make_units]; omega⟩
theorem Room.depth {k : Nat} {A : Around} (r : Room k A) : A.depth < recursionLimit := by have := r.dp; omega
theorem Room.units {k : Nat} {A : Around} (r : Room k A) : A.units + 64 < cLine := by have := r.un; omega
theorem Room.units0 {k : Nat} {A : Around} (r : Room k A) : A.units < cLine := by have := r.un; omega

/-! ### argument lists and displays -/
def tNil : TA := fun _ H Q => Q [] H
def tCons (ta : TE) (tr : TA) : TA := fun σ H Q => ta σ H fun x H1 => tr σ H1 fun xs H2 => Q (x :: xs) H2
section
variable {X : Cx} {e : Expr} {es : List Expr} {te : TE} {t : TA} {pos : Pos}
theorem pa_nil : PA X [] tNil := fun _ _ _ _ H Q I h => Calls.spliced_nil ⟨[], H, I, .nil, h⟩
theorem pa_cons (ha : PE X e te) (hr : PA X es t) (hs : starEach (e :: es) X.env = (false, eval e X.env) :: starEach es X.env := by rfl) : PA X (e :: es) (tCons te t) := by
  intro pos pins s σ H Q I h
  rw [hs]
  show wpAny _ _ (spliced ((false, eval e X.env) :: backTo pos (starEach es X.env))) _ _ s
  refine Calls.spliced_cons (thn (ha pins s σ H _ I h) fun u s1 ⟨x, H1, I1, r1, q1⟩ => ?_)
  exact thn (hr pos pins s1 σ H1 _ I1 q1) fun us s2 ⟨xs, H2, I2, r2, q2⟩ => ⟨x :: xs, H2, I2, .cons r1 r2, q2⟩

/-- a tuple, a list of written items -/
def tTup (t : TA) : TE := fun σ H Q => t σ H fun xs H1 => xs.length ≤ sizeLine ∧ ∀ p, H1 p = none → Q (.ref p) (upd H1 p (.tup xs))
def tLst (t : TA) : TE := fun σ H Q => t σ H fun xs H1 => xs.length ≤ sizeLine ∧ ∀ p, H1 p = none → Q (.ref p) (upd H1 p (.lst xs))
theorem pe_tup {x1} (h : PA X es t) : PE X (.Tuple es x1 pos) (tTup t) := by
  intro pins s σ H Q I hq
  refine wpAny_Tuple_spliced (thn (h pos pins s σ H _ I hq) fun us s1 ⟨xs, H1, I1, r, z, q⟩ => ⟨by rw [← r.length]; exact z, ?_⟩)
  have hf : H1 s1.heap.objs.size = none := I1.hok.fresh (Nat.le_refl _)
  refine ⟨.ref s1.heap.objs.size, upd H1 s1.heap.objs.size (.tup xs), I1.laid (t' := s1.toks) (fun b u e => Heap.get?_push_of_some _ e) (Nat.le_refl _) ?_, rfl, q _ hf⟩
  exact ⟨z, us, r, ⟨_, Heap.get?_push_size _ rfl, rfl, _, rfl⟩⟩
theorem pe_lst (h : PA X es t) : PE X (.List es pos) (tLst t) := by
  intro pins s σ H Q I hq
  refine wpAny_List_spliced (thn (h pos pins s σ H _ I hq) fun us s1 ⟨xs, H1, I1, r, z, q⟩ => ⟨by rw [← r.length]; exact z, ?_⟩)
  have hf : H1 s1.heap.objs.size = none := I1.hok.fresh (Nat.le_refl _)
  refine ⟨.ref s1.heap.objs.size, upd H1 s1.heap.objs.size (.lst xs), I1.laid (t' := s1.toks) (fun b u e => Heap.get?_push_of_some _ e) (Nat.le_refl _) ?_, rfl, q _ hf⟩
  exact ⟨z, us, 0, r, Heap.get?_push_size _ rfl⟩
end

/-! ### what a def promises -/
/-- a def's promise: the bound arguments in the parameters' order, the heap, the wanted end, the wanted exception -/
abbrev Sp := List V → Hp → VK → XK → Prop
/-- how an exception lies behind a call (file 08 gives it): the callers' frames, abstract heap and state ahead of the call, the wish, the exception, the state -/
abbrev CXT := List Env → Hp → Shared → XK → Value → Shared → Prop

/-- the state at a call -/
structure Env0 (P : Program) (w : World) (K : PySem.W.Frag) (mg : Str → Option Value) (base : Heap) (A : Around) (outer : List Env) (s : Shared) (H : Hp) : Prop where
  frames : A.frames = some outer
  mod : Mod K mg base
  bs : ∀ b o, base.get? b = some o → s.heap.get? b = some o ∧ H b = none
  bsz : base.objs.size ≤ s.heap.objs.size
  funs : s.heap.FunFrames base outer
  frf : ∀ b ∈ frs outer, H b = none
  hok : HOk P w H s.heap
  bare : AllBare s.gens
/-- a call's end -/
def CE (outer : List Env) (P : Program) (w : World) (H : Hp) (s : Shared) (Q : VK) (u : Value) (s' : Shared) : Prop :=
  ∃ v H', s'.os = s.os ∧ AllBare s'.gens ∧ Un (frs outer) [] H H' s.heap s'.heap ∧ HOk P w H' s'.heap ∧ RelV v u ∧ Q v H'
def CR (CX : CXT) (outer : List Env) (P : Program) (w : World) (H : Hp) (s : Shared) (Q : VK) (E : XK) (r : Result) (s' : Shared) : Prop :=
  match r with
  | .ok (.ret u) => CE outer P w H s Q u s'
  | .ok _ => False
  | .error e => CX outer H s E e s'
structure FnOk (P : Program) (w : World) (K : PySem.W.Frag) (mg : Str → Option Value) (base : Heap) (CX : CXT) (k : Nat) (f : Addr) (fd : FuncData) (ps : List Str) (sp : Sp) : Prop where
  len : ∀ vs H Q E, sp vs H Q E → vs.length = ps.length
  run : ∀ (A : Around) (outer : List Env) (s : Shared) (H : Hp) (args : Args) (us : List Value) (vs : List V) (Q : VK) (E : XK), Room k A → Env0 P w K mg base A outer s H → BindsTo s fd args (ps.zip us) → Vals vs us → sp vs H Q E →
    codeAny (model P w) A (.call (.ref f) args) (CR CX outer P w H s Q E) s
theorem FnOk.mono {P : Program} {w : World} {K : PySem.W.Frag} {mg : Str → Option Value} {base : Heap} {CX : CXT} {j k : Nat} {f : Addr} {fd : FuncData} {ps : List Str} {sp : Sp} (F : FnOk P w K mg base CX j f fd ps sp) (h : j ≤ k) :
    FnOk P w K mg base CX k f fd ps sp := ⟨F.len, fun A outer s H args us vs Q E hr => F.run A outer s H args us vs Q E (hr.mono h)⟩
/-- a weaker promise -/
theorem FnOk.imp {P : Program} {w : World} {K : PySem.W.Frag} {mg : Str → Option Value} {base : Heap} {CX : CXT} {k : Nat} {f : Addr} {fd : FuncData} {ps : List Str} {sp sp' : Sp} (F : FnOk P w K mg base CX k f fd ps sp)
    (h : ∀ vs H Q E, sp' vs H Q E → sp vs H Q E) : FnOk P w K mg base CX k f fd ps sp' :=
  ⟨fun vs H Q E q => F.len vs H Q E (h _ _ _ _ q), fun A outer s H args us vs Q E hr he hb hv hs => F.run A outer s H args us vs Q E hr he hb hv (h _ _ _ _ hs)⟩

theorem Env0.make {P : Program} {w : World} {K : PySem.W.Frag} {mg : Str → Option Value} {base : Heap} {A : Around} {outer : List Env} {s : Shared} {H : Hp} (e : Env0 P w K mg base A outer s H) (C : Addr) (us : List Value) (kw : List (Str × Value)) :
    Env0 P w K mg base (A.under (.builtin "type.__call__" ⟨.ref C :: us, kw⟩)) outer s H := ⟨by first | exact e.frames | (simpa [Around.under, Code.envs, Code.isFrame, pushEnvs] using e.frames), e.mod, e.bs, e.bsz, e.funs, e.frf, e.hok, e.bare⟩
theorem Env0.in1 {P : Program} {w : World} {K : PySem.W.Frag} {mg : Str → Option Value} {base : Heap} {A : Around} {outer : List Env} {s : Shared} {H : Hp} (e : Env0 P w K mg base A outer s H) :
    Env0 P w K mg base A.in1 outer s H := ⟨e.frames, e.mod, e.bs, e.bsz, e.funs, e.frf, e.hok, e.bare⟩

section
variable {X : Cx} {pins : List (Addr × Obj)} {σ : St} {H : Hp} {s s' : Shared}
/-- from a body: what a callee wants -/
theorem Inv.env0 (I : Inv X pins σ H s) : Env0 X.prog X.w X.K X.mg X.base X.A X.stack s H :=
  ⟨I.ok.frames, I.ok.mod, I.bs, Nat.le_trans I.ok.bsz I.sz, I.stack, I.stkFree, I.hok, I.bare⟩
/-- behind a call -/
theorem Inv.after {Q : VK} {u : Value} (I : Inv X pins σ H s) (h : CE X.stack X.prog X.w H s Q u s') : EP X pins σ Q u s' := by
  obtain ⟨v, H', os, bare, un, hok, r, q⟩ := h
  obtain ⟨hh, g, d, t, os'⟩ := s'
  obtain rfl : os' = s.os := os
  exact ⟨v, H', I.call (h' := hh) (g' := g) (d' := d) (t' := t) (ch := []) un hok bare (fun b z => absurd z (by simp)), r, q⟩
end

/-! ### calls -/
/-- f(..): the written arguments, then the defaults dvs; E: what is wanted of an exception -/
def tCall (sp : Sp) (dvs : List V) (E : XK) (t : TA) : TE := fun σ H Q => t σ H fun vs H1 => sp (vs ++ dvs) H1 Q E
/-- o.m(..) of an instance of the class at C -/
def tMeth (C : Addr) (m : Str) (sp : Sp) (dvs : List V) (E : XK) (ta : TE) (t : TA) : TE := fun σ H Q => ta σ H fun x H1 => ∃ a dx fs, x = .ref a ∧ H1 a = some (.ins C dx fs) ∧ fs.lookup m = none ∧
  t σ H1 fun vs H2 => sp (x :: (vs ++ dvs)) H2 Q E
/-- C(..): a new instance and its dict, then __init__ -/
def tMake (C : Addr) (sp : Sp) (dvs : List V) (E : XK) (t : TA) : TE := fun σ H Q => t σ H fun vs H1 => ∀ x dx, H1 x = none → H1 dx = none → dx ≠ x →
  sp (.ref x :: (vs ++ dvs)) (upd (upd H1 dx (.own x)) x (.ins C dx [])) (fun v H2 => v = .non ∧ Q (.ref x) H2) E

/-- how the parameters are bound: us the positional arguments, kw the keywords' values by name, ds the defaults that fill up -/
def Binds (K : PySem.W.Frag) (fd : FuncData) (ps : List Str) (ds : List Value) : Prop :=
  ∀ (s : Shared) (us : List Value), K.In s.heap → (us ++ ds).length = ps.length → BindsTo s fd ⟨us, []⟩ (ps.zip (us ++ ds))
/-- every parameter is given -/
theorem Binds.all {K : PySem.W.Frag} {fd : FuncData} {ps : List Str} (h : ∀ us : List Value, us.length = ps.length → bindArgs fd ⟨us, []⟩ = pure (ps.zip us)) : Binds K fd ps [] := fun s us _ hl => by
  rw [List.append_nil] at hl ⊢
  exact .of_eq (h us hl)

/-- an exception of a callee reaches what this body wants of exceptions -/
def Passes (CX : CXT) (X : Cx) (E : XK) : Prop := ∀ (pins : List (Addr × Obj)) (σ : St) (H : Hp) (s : Shared) (e : Value) (s' : Shared), Inv X pins σ H s → CX X.stack H s E e s' → X.xe e s'

section
variable {X : Cx} {CX : CXT} {k : Nat} {f C : Addr} {fd : FuncData} {ps : List Str} {sp : Sp} {dvs : List V} {ds : List Value} {E : XK} {x m : Str} {p pos apos : Pos} {e o : Expr} {es : List Expr} {ta : TE} {t : TA}

/-- the callee runs -/
theorem run_fn {pins : List (Addr × Obj)} {σ : St} {H : Hp} {s : Shared} {Q : VK} {us : List Value} {vs : List V} (F : FnOk X.prog X.w X.K X.mg X.base CX k f fd ps sp) (hr : Room k X.A) (hb : Binds X.K fd ps ds) (hd : Vals dvs ds) (hx : Passes CX X E)
    (I : Inv X pins σ H s) (r : Vals vs us) (h : sp (vs ++ dvs) H Q E) : wpAny (model X.prog X.w) X.A (call (.ref f) us) (EP X pins σ Q) X.xe s := by
  have r2 : Vals (vs ++ dvs) (us ++ ds) := r.append hd
  have hl : (us ++ ds).length = ps.length := by rw [← r2.length]; exact F.len _ _ _ _ h
  refine wpAny_call (codeAny_mono (F.run X.A X.stack s H ⟨us, []⟩ (us ++ ds) (vs ++ dvs) Q E hr I.env0 (hb s us I.kIn hl) r2 h) fun r s' hq => ?_)
  cases r with
  | error e => exact hx pins σ H s e s' I hq
  | ok fl =>
    cases fl with
    | ret u => exact I.after hq
    | next => exact False.elim hq
    | brk => exact False.elim hq
    | cont => exact False.elim hq

theorem pe_call (F : FnOk X.prog X.w X.K X.mg X.base CX k f fd ps sp) (hr : Room k X.A) (hg : Gl X x) (hm : X.mg x = some (.ref f)) (hk : PySem.W.keepIn X.K (.ref f) = true) (hb : Binds X.K fd ps ds) (hd : Vals dvs ds) (hx : Passes CX X E)
    (ha : PA X (e :: es) t) (hdb : (x == ("__debug__" : Str)) = false := by decide) (he : starEach (e :: es) X.env = (false, eval e X.env) :: starEach es X.env := by rfl) (hpl : (backTo pos (starEach es X.env)).any (·.1) = false := by rfl) :
    PE X (.Call (.Name x p) (e :: es) [] pos) (tCall sp dvs E t) := by
  intro pins s σ H Q I h
  refine wpAny_Call_Name_kw (ld_glob I hg hm ?_ hdb)
  refine PySem.W.callWith_K (h₀ := X.base) I.ok.mod.kin hk (thn (ha pos pins s σ H _ I h) fun us s1 ⟨vs, H1, I1, r, q⟩ => ⟨I1.kIn, ?_⟩) he hpl
  exact run_fn F hr hb hd hx I1 r q
theorem pe_call0 (F : FnOk X.prog X.w X.K X.mg X.base CX k f fd ps sp) (hr : Room k X.A) (hg : Gl X x) (hm : X.mg x = some (.ref f)) (hk : PySem.W.keepIn X.K (.ref f) = true) (hb : Binds X.K fd ps ds) (hd : Vals dvs ds) (hx : Passes CX X E)
    (hdb : (x == ("__debug__" : Str)) = false := by decide) : PE X (.Call (.Name x p) [] [] pos) (tCall sp dvs E tNil) := by
  intro pins s σ H Q I h
  refine wpAny_Call_Name_kw (ld_glob I hg hm ?_ hdb)
  exact PySem.W.callWith_K0 I.kIn hk (run_fn (us := []) F hr hb hd hx I .nil h)

/-- o.m(e, ..) -/
theorem pe_meth {pl : Sem Bool} (he : PE X o ta) (c : Cls X.K C) (hm : Meth X.K C m f) (F : FnOk X.prog X.w X.K X.mg X.base CX k f fd ps sp) (hr : Room k X.A) (hb : Binds X.K fd ps ds) (hd : Vals dvs ds) (hx : Passes CX X E) (ha : PA X (e :: es) t)
    (hst : starEach (e :: es) X.env = (false, eval e X.env) :: starEach es X.env := by rfl) (hpl : (backTo pos (starEach es X.env)).any (·.1) = false := by rfl)
    (ht : eval (.Call (.Attribute o m apos) (e :: es) [] pos) X.env = (do
      let ov ← eval o X.env
      standAt apos.atName
      let (f, first) ← holding [ov] (getMethod ov m pl)
      callWith pos f first (backTo pos (starEach (e :: es) X.env)) (backToKw pos (keywordEach [] X.env))) := by rfl) :
    PE X (.Call (.Attribute o m apos) (e :: es) [] pos) (tMeth C m sp dvs E ta t) := by
  intro pins s σ H Q I h
  refine PySem.W.methodCall_KW (pl := pl) (thn (he pins s σ H _ I h) fun u s1 ⟨x, H1, I1, rx, a, dx, fs, ex, ea, l, q⟩ => ?_) ht
  subst ex
  obtain rfl : u = Value.ref a := rx
  refine getmeth_ok I1 ea c hm l ?_
  refine PySem.W.callWith_K (first := [.ref a]) (h₀ := X.base) I.ok.mod.kin hm.kp (thn (ha pos pins s1 σ H1 _ I1 q) fun us s2 ⟨vs, H2, I2, r, q2⟩ => ⟨I2.kIn, ?_⟩) hst hpl
  exact run_fn (us := .ref a :: us) (vs := .ref a :: vs) F hr hb hd hx I2 (.cons rfl r) q2
/-- o.m() -/
theorem pe_meth0 {pl : Sem Bool} (he : PE X o ta) (c : Cls X.K C) (hm : Meth X.K C m f) (F : FnOk X.prog X.w X.K X.mg X.base CX k f fd ps sp) (hr : Room k X.A) (hb : Binds X.K fd ps ds) (hd : Vals dvs ds) (hx : Passes CX X E)
    (ht : eval (.Call (.Attribute o m apos) [] [] pos) X.env = (do
      let ov ← eval o X.env
      standAt apos.atName
      let (f, first) ← holding [ov] (getMethod ov m pl)
      callWith pos f first (backTo pos (starEach [] X.env)) (backToKw pos (keywordEach [] X.env))) := by rfl) :
    PE X (.Call (.Attribute o m apos) [] [] pos) (tMeth C m sp dvs E ta tNil) := by
  intro pins s σ H Q I h
  refine PySem.W.methodCall_KW (pl := pl) (thn (he pins s σ H _ I h) fun u s1 ⟨x, H1, I1, rx, a, dx, fs, ex, ea, l, q⟩ => ?_) ht
  subst ex
  obtain rfl : u = Value.ref a := rx
  refine getmeth_ok I1 ea c hm l ?_
  exact PySem.W.callWith_K0 (first := [.ref a]) I1.kIn hm.kp (run_fn (us := [.ref a]) (vs := [.ref a]) F hr hb hd hx I1 (.cons rfl .nil) q)

/-- what a class must have to be made -/
structure Mk (K : PySem.W.Frag) (C f : Addr) : Prop where
  makes : PySem.W.makesIn K C = true
  init : PySem.W.findIn K (.ref C) "__init__" = some (some (.ref f))
  fn : PySem.W.isFn K (.ref f) = true
  kp : PySem.W.keepIn K (.ref C) = true

theorem run_make {pins : List (Addr × Obj)} {σ : St} {H : Hp} {s : Shared} {Q : VK} {us : List Value} {vs : List V} (M : Mk X.K C f) (F : FnOk X.prog X.w X.K X.mg X.base CX k f fd ps sp) (hr : Room (k + 1) X.A) (hb : Binds X.K fd ps ds) (hd : Vals dvs ds)
    (hx : Passes CX X E) (I : Inv X pins σ H s) (r : Vals vs us)
    (h : ∀ x dx, H x = none → H dx = none → dx ≠ x → sp (.ref x :: (vs ++ dvs)) (upd (upd H dx (.own x)) x (.ins C dx [])) (fun v H2 => v = .non ∧ Q (.ref x) H2) E) :
    wpAny (model X.prog X.w) X.A (call (.ref C) us) (EP X pins σ Q) X.xe s := by
  have hq := h (s.heap.objs.size + 1) s.heap.objs.size (I.hok.fresh (Nat.le_succ _)) (I.hok.fresh (Nat.le_refl _)) (Nat.ne_of_lt (Nat.lt_succ_self _))
  have I2 := Inv.made (C := C) I
  have r2 : Vals (V.ref (s.heap.objs.size + 1) :: (vs ++ dvs)) (Value.ref (s.heap.objs.size + 1) :: (us ++ ds)) := .cons rfl (r.append hd)
  have hl : (Value.ref (s.heap.objs.size + 1) :: us ++ ds).length = ps.length := by
    have e := r2.length
    rw [F.len _ _ _ _ hq] at e
    exact e.symm
  refine wpAny_call (make_map (f := f) I.kIn M.makes M.init (beq_iff_eq.mp M.fn) (codeAny_mono (F.run _ X.stack _ _ ⟨Value.ref (s.heap.objs.size + 1) :: us, []⟩ (Value.ref (s.heap.objs.size + 1) :: (us ++ ds)) _ _ E (hr.make C us [])
    (I2.env0.make C us []) (hb _ (Value.ref (s.heap.objs.size + 1) :: us) I2.kIn hl) r2 hq) fun r s' hq' => ?_))
  cases r with
  | error e => exact hx pins σ _ _ e s' I2 hq'
  | ok fl =>
    cases fl with
    | ret u =>
      obtain ⟨v, H', I3, rv, ev, q3⟩ := I2.after hq'
      subst ev
      exact ⟨rv, ⟨V.ref (s.heap.objs.size + 1), H', I3, rfl, q3⟩⟩
    | next => exact False.elim hq'
    | brk => exact False.elim hq'
    | cont => exact False.elim hq'
theorem pe_make (M : Mk X.K C f) (F : FnOk X.prog X.w X.K X.mg X.base CX k f fd ps sp) (hr : Room (k + 1) X.A) (hg : Gl X x) (hm : X.mg x = some (.ref C)) (hb : Binds X.K fd ps ds) (hd : Vals dvs ds) (hx : Passes CX X E)
    (ha : PA X (e :: es) t) (hdb : (x == ("__debug__" : Str)) = false := by decide) (he : starEach (e :: es) X.env = (false, eval e X.env) :: starEach es X.env := by rfl) (hpl : (backTo pos (starEach es X.env)).any (·.1) = false := by rfl) :
    PE X (.Call (.Name x p) (e :: es) [] pos) (tMake C sp dvs E t) := by
  intro pins s σ H Q I h
  refine wpAny_Call_Name_kw (ld_glob I hg hm ?_ hdb)
  refine PySem.W.callWith_K (h₀ := X.base) I.ok.mod.kin M.kp (thn (ha pos pins s σ H _ I h) fun us s1 ⟨vs, H1, I1, r, q⟩ => ⟨I1.kIn, ?_⟩) he hpl
  exact run_make M F hr hb hd hx I1 r q
theorem pe_make0 (M : Mk X.K C f) (F : FnOk X.prog X.w X.K X.mg X.base CX k f fd ps sp) (hr : Room (k + 1) X.A) (hg : Gl X x) (hm : X.mg x = some (.ref C)) (hb : Binds X.K fd ps ds) (hd : Vals dvs ds) (hx : Passes CX X E)
    (hdb : (x == ("__debug__" : Str)) = false := by decide) : PE X (.Call (.Name x p) [] [] pos) (tMake C sp dvs E tNil) := by
  intro pins s σ H Q I h
  refine wpAny_Call_Name_kw (ld_glob I hg hm ?_ hdb)
  exact PySem.W.callWith_K0 I.kIn M.kp (run_make (us := []) M F hr hb hd hx I .nil h)
end

/-! ### keywords -/
/-- the values of the keywords, from the left -/
def PK (X : Cx) (kws : List Keyword) (t : TA) : Prop :=
  ∀ (pos : Pos) (pins : List (Addr × Obj)) (s : Shared) (σ : St) (H : Hp) (Q : List V → Hp → Prop), Inv X pins σ H s → t σ H Q → wpAny (model X.prog X.w) X.A (evalAll ((backToKw pos (keywordEach kws X.env)).map (·.2))) (AP X pins σ Q) X.xe s
section
variable {X : Cx} {CX : CXT} {k : Nat} {f C : Addr} {fd : FuncData} {ps ks : List Str} {sp : Sp} {E : XK} {x m : Str} {p pos apos kpos : Pos} {e o : Expr} {es : List Expr} {kws : List Keyword} {te ta : TE} {t tk : TA} {nm : Option Str}
theorem pk_nil : PK X [] tNil := fun _ _ _ _ H Q I h => wpAny_evalAll_nil ⟨[], H, I, .nil, h⟩
theorem pk_cons (ha : PE X e te) (hr : PK X kws t) : PK X (⟨nm, e, kpos⟩ :: kws) (tCons te t) := by
  intro pos pins s σ H Q I h
  show wpAny _ _ (evalAll ((do let v ← eval e X.env; standAt pos; pure v) :: (backToKw pos (keywordEach kws X.env)).map (·.2))) _ _ s
  refine wpAny_evalAll_cons (wpAny_bind (thn (ha pins s σ H _ I h) fun u s1 ⟨x, H1, I1, r1, q1⟩ => wpAny_bind (wpAny_standAt (wpAny_pure ?_))))
  exact thn (hr pos pins s1 σ H1 _ I1 q1) fun us s2 ⟨xs, H2, I2, r2, q2⟩ => ⟨x :: xs, H2, I2, .cons r1 r2, q2⟩

/-- how a call with keywords binds: g puts the positional values us and the keywords' values ws (names ks) in the parameters' order, defaults among them -/
structure KBinds (K : PySem.W.Frag) (fd : FuncData) (ps ks : List Str) (g : List Value → List Value → List Value) (gV : List V → List V → List V) : Prop where
  to : ∀ (s : Shared) (us ws : List Value), K.In s.heap → (g us ws).length = ps.length → BindsTo s fd ⟨us, ks.zip ws⟩ (ps.zip (g us ws))
  rel : ∀ {vs : List V} {us : List Value} {zs : List V} {ws : List Value}, Vals vs us → Vals zs ws → Vals (gV vs zs) (g us ws)
def tCallK (sp : Sp) (gV : List V → List V → List V) (E : XK) (t tk : TA) : TE := fun σ H Q => t σ H fun vs H1 => tk σ H1 fun zs H2 => sp (gV vs zs) H2 Q E
variable {g : List Value → List Value → List Value} {gV : List V → List V → List V}
theorem run_fnk {pins : List (Addr × Obj)} {σ : St} {H : Hp} {s : Shared} {Q : VK} {us ws : List Value} {vs zs : List V} (F : FnOk X.prog X.w X.K X.mg X.base CX k f fd ps sp) (hr : Room k X.A) (hb : KBinds X.K fd ps ks g gV) (hx : Passes CX X E)
    (I : Inv X pins σ H s) (r : Vals vs us) (rz : Vals zs ws) (h : sp (gV vs zs) H Q E) : wpAny (model X.prog X.w) X.A (call (.ref f) us (ks.zip ws)) (EP X pins σ Q) X.xe s := by
  have r2 := hb.rel r rz
  have hl : (g us ws).length = ps.length := by rw [← r2.length]; exact F.len _ _ _ _ h
  refine wpAny_call (codeAny_mono (F.run X.A X.stack s H ⟨us, ks.zip ws⟩ (g us ws) (gV vs zs) Q E hr I.env0 (hb.to s us ws I.kIn hl) r2 h) fun r s' hq => ?_)
  cases r with
  | error e => exact hx pins σ H s e s' I hq
  | ok fl =>
    cases fl with
    | ret u => exact I.after hq
    | next => exact False.elim hq
    | brk => exact False.elim hq
    | cont => exact False.elim hq
/-- f(e, .., k = v, ..) -/
theorem pe_callK (F : FnOk X.prog X.w X.K X.mg X.base CX k f fd ps sp) (hr : Room k X.A) (hg : Gl X x) (hm : X.mg x = some (.ref f)) (hk : PySem.W.keepIn X.K (.ref f) = true) (hb : KBinds X.K fd ps ks g gV) (hx : Passes CX X E)
    (ha : PA X (e :: es) t) (hkw : PK X kws tk) (hall : (backToKw pos (keywordEach kws X.env)).all (·.1.isSome) = true := by rfl) (hks : (backToKw pos (keywordEach kws X.env)).filterMap (·.1) = ks := by rfl)
    (hdb : (x == ("__debug__" : Str)) = false := by decide) (he : starEach (e :: es) X.env = (false, eval e X.env) :: starEach es X.env := by rfl)
    (hpl : ((backTo pos (starEach (e :: es) X.env)).any (·.1) || (backToKw pos (keywordEach kws X.env)).any (·.1.isNone)) = false := by rfl) :
    PE X (.Call (.Name x p) (e :: es) kws pos) (tCallK sp gV E t tk) := by
  intro pins s σ H Q I h
  refine wpAny_Call_Name_kw (ld_glob I hg hm ?_ hdb)
  refine PySem.W.callWith_KW (h₀ := X.base) I.ok.mod.kin hk hall (thn (ha pos pins s σ H _ I h) fun us s1 ⟨vs, H1, I1, r, q⟩ => ?_) hpl he
  refine thn (hkw pos pins s1 σ H1 _ I1 q) fun ws s2 ⟨zs, H2, I2, rz, q2⟩ => ⟨I2.kIn, ?_⟩
  rw [hks]
  exact run_fnk F hr hb hx I2 r rz q2
end

/-! ### a def's body keeps its promise -/
/-- names: the parameters first -/
structure FnScope (N P : List Str) (sc : Scope) : Prop where
  kind : sc.kind = .function
  co : sc.isCoroutine = false
  gen : sc.isGenerator = false
  nd : N.Nodup
  pre : N.take P.length = P
  par : ∀ x ∈ P, sc.names.lookup x = some .local ∨ sc.names.lookup x = some .cell
  nofree : ∀ y ∈ sc.names, y.2 ≠ .free

theorem bindL_out {kindOf : Str → Option NameKind} {x : Str} : ∀ {binds : List (Str × Value)} {m : Str → Option Value}, (∀ v, (x, v) ∉ binds) → bindL kindOf binds m x = m x
  | [], _, _ => rfl
  | (n, v) :: r, m, h => by
    unfold bindL
    rw [bindL_out fun w hw => h w (List.mem_cons_of_mem _ hw)]
    split
    · have : x ≠ n := by rintro rfl; exact h v List.mem_cons_self
      simp [this]
    · rfl
theorem bindC_out {kindOf : Str → Option NameKind} {x : Str} : ∀ {binds : List (Str × Value)} {m : Str → Option Value}, (∀ v, (x, v) ∉ binds) → bindC kindOf binds m x = m x
  | [], _, _ => rfl
  | (n, v) :: r, m, h => by
    unfold bindC
    rw [bindC_out fun w hw => h w (List.mem_cons_of_mem _ hw)]
    split
    · rfl
    · have : x ≠ n := by rintro rfl; exact h v List.mem_cons_self
      simp [this]
theorem bindL_get {kindOf : Str → Option NameKind} {x : Str} {v : Value} : ∀ {P : List Str} {vs : List Value} {i : Nat} {m : Str → Option Value}, P.Nodup → P[i]? = some x → vs[i]? = some v → kindOf x = some .local →
    bindL kindOf (P.zip vs) m x = some v
  | [], _, _, _, _, h, _, _ => by simp at h
  | _ :: _, [], _, _, _, _, h, _ => by simp at h
  | p :: P, w :: vs, 0, m, nd, h1, h2, hk => by
    simp at h1 h2; subst h1; subst h2
    show bindL kindOf ((p, w) :: P.zip vs) m p = _
    unfold bindL
    rw [bindL_out fun v hv => (List.nodup_cons.mp nd).1 (List.of_mem_zip hv).1, if_pos hk]
    simp
  | p :: P, w :: vs, i + 1, m, nd, h1, h2, hk => by
    show bindL kindOf ((p, w) :: P.zip vs) m x = _
    unfold bindL
    exact bindL_get (i := i) (List.nodup_cons.mp nd).2 (by simpa using h1) (by simpa using h2) hk
theorem bindC_get {kindOf : Str → Option NameKind} {x : Str} {v : Value} : ∀ {P : List Str} {vs : List Value} {i : Nat} {m : Str → Option Value}, P.Nodup → P[i]? = some x → vs[i]? = some v → kindOf x ≠ some .local →
    bindC kindOf (P.zip vs) m x = some v
  | [], _, _, _, _, h, _, _ => by simp at h
  | _ :: _, [], _, _, _, _, h, _ => by simp at h
  | p :: P, w :: vs, 0, m, nd, h1, h2, hk => by
    simp at h1 h2; subst h1; subst h2
    show bindC kindOf ((p, w) :: P.zip vs) m p = _
    unfold bindC
    rw [bindC_out fun v hv => (List.nodup_cons.mp nd).1 (List.of_mem_zip hv).1, if_neg hk]
    simp
  | p :: P, w :: vs, i + 1, m, nd, h1, h2, hk => by
    show bindC kindOf ((p, w) :: P.zip vs) m x = _
    unfold bindC
    exact bindC_get (i := i) (List.nodup_cons.mp nd).2 (by simpa using h1) (by simpa using h2) hk

/-- the names' values at the entry -/
def start (N : List Str) (vs : List V) : St := vs.map some ++ List.replicate (N.length - vs.length) none

/-- the context of a def's body, at its entry; an exception leaves the frame, then lies as CX says -/
def cxOf (CX : CXT) (P : Program) (w : World) (K : PySem.W.Frag) (mg : Str → Option Value) (base : Heap) (N : List Str) (qual : Str) (scope : Scope) (f : Addr) (cd : Value) (A : Around) (outer : List Env) (s : Shared) (H : Hp) (E : XK) : Cx where
  prog := P
  w := w
  K := K
  mg := mg
  base := base
  A := A.deeper (envOfC qual scope s.heap.objs.size f cd)
  N := N
  s₀ := s
  H₀ := H
  env := envOfC qual scope s.heap.objs.size f cd
  outer := outer
  stack := envOfC qual scope s.heap.objs.size f cd :: outer
  ex := []
  calm := true
  fn := fun _ => true
  pn := []
  xe := fun e s' => wpAny (model P w) (A.deeper (envOfC qual scope s.heap.objs.size f cd)) (leaving (envOfC qual scope s.heap.objs.size f cd) e) (fun _ s'' => CX outer H s E e s'') (fun e' s'' => CX outer H s E e' s'') s'

theorem cell_has {sc : Scope} {n : Nat} {x : Str} (h : sc.names.lookup x = some .cell) : ∃ c, (cellsFrom n sc.names []).lookup x = some c := by
  have q := PySem.W.cellsFrom_some sc.names n [] (.inl h)
  exact Option.isSome_iff_exists.mp q

theorem inv_start {CX : CXT} {P : Program} {w : World} {K : PySem.W.Frag} {mg : Str → Option Value} {base : Heap} {N ps : List Str} {qual : Str} {scope : Scope} {f : Addr} {cd : Value} {A : Around} {outer : List Env} {s s1 : Shared} {H : Hp} {E : XK} {us : List Value} {vs : List V}
    (S : FnScope N ps scope) (hd : A.handled = none) (e0 : Env0 P w K mg base A outer s H) (hl : vs.length = ps.length) (r : Vals vs us)
    (x : InCallC s s.heap.objs.size (bindL (envOfC qual scope s.heap.objs.size f cd).kindOf (ps.zip us) fun _ => none) (cellsFrom (s.heap.objs.size + 1) scope.names []) (bindC (envOfC qual scope s.heap.objs.size f cd).kindOf (ps.zip us) fun _ => none) s1) :
    Inv (cxOf CX P w K mg base N qual scope f cd A outer s H E) [] (start N vs) H s1 := by
  have hpl : ps.length ≤ N.length := by have := congrArg List.length S.pre; rw [List.length_take] at this; omega
  obtain ⟨h1, tk, rfl, hk⟩ := x.done
  have noA : ∀ b : Addr, b ∉ (cxOf CX P w K mg base N qual scope f cd A outer s H E).ex := fun b z => absurd (show b ∈ ([] : List Addr) from z) (by simp)
  refine ⟨⟨e0.mod, S.kind, rfl, rfl, Nat.le_refl _, fun y z c h1 h2 => ?_, fun y hy => ?_, fun y c _ h => ?_, fun _ => hd, Around.frames_deeper e0.frames, .inr ⟨rfl, rfl⟩, fun b z => absurd z (noA b), e0.bs, e0.bsz, fun b _ _ => noA b, fun b z => absurd z (noA b), e0.funs, e0.frf⟩,
    rfl, e0.bare, Un.kept hk, ⟨_, x.toInCall.ns, fun i y v h1 h2 h3 => ?_⟩, fun y c h => ⟨_, x.cell y c h⟩, e0.hok.fresh (Nat.le_refl _), fun y c h => ?_, fun p hp => absurd (show p ∈ ([] : List (Addr × Obj)) from hp) (by simp), e0.hok.kept hk, ?_⟩
  · exact name_of_addr x.apart (PySem.mem_of_lookup h1) (PySem.mem_of_lookup h2)
  · have hy : scope.names.lookup y = some .cell ∨ scope.names.lookup y = some .free := hy
    rcases hy with hy | hy
    · exact cell_has hy
    · exact absurd rfl (S.nofree _ (PySem.mem_of_lookup hy))
  · exact Nat.le_of_lt (x.above y c (PySem.mem_of_lookup h))
  · have hi : i < vs.length := by
      unfold start at h2
      by_cases hi : i < vs.length
      · exact hi
      · rw [List.getElem?_append_right (by simpa using hi)] at h2
        rw [List.getElem?_replicate] at h2
        split at h2 <;> cases h2
    have ha : vs[i]? = some v := by
      unfold start at h2
      rw [List.getElem?_append_left (by simpa using hi), List.getElem?_map] at h2
      cases e : vs[i]? with
      | none => rw [e] at h2; cases h2
      | some a => rw [e] at h2; cases h2; rfl
    obtain ⟨u, hu, rv⟩ := r.get ha
    have hp : ps[i]? = some y := by
      rw [← S.pre, List.getElem?_take_of_lt (by omega)]; exact h1
    have ndP : ps.Nodup := by rw [← S.pre]; exact S.nd.sublist (List.take_sublist _ _)
    refine ⟨u, rv, ?_⟩
    rcases S.par y (List.mem_of_getElem? hp) with k | k
    · exact .inl ⟨k, bindL_get ndP hp hu k⟩
    · obtain ⟨c, e⟩ := cell_has (n := s.heap.objs.size + 1) k
      refine .inr ⟨.inl k, c, e, ?_⟩
      have q := x.cell y c e
      rw [bindC_get ndP hp hu (by show scope.names.lookup y ≠ _; rw [k]; decide)] at q
      exact q
  · exact e0.hok.fresh (Nat.le_of_lt (x.above y c (PySem.mem_of_lookup h)))
  · unfold start
    show _ = N.length
    rw [List.length_append, List.length_map, List.length_replicate]
    omega

/-- THE RULE: a def (or a method) of the text, by its body. The body's reading t is chosen for each entry; it is run at the parameters' values -/
theorem fn_of {CX : CXT} {P : Program} {w : World} {K : PySem.W.Frag} {mg : Str → Option Value} {base : Heap} {k : Nat} {f : Addr} {name qual : Str} {params : Arguments} {body : List Stmt} {scope : Scope} {dV kV doc pm cdv ct oc : Value} {an od : Option Addr}
    {osl : Array (Option Value)} {N ps : List Str} {sp : Sp} (lk : K.lookup f = some ⟨oc, od, .func (PySem.W.fnOf name qual params body scope dV kV doc pm an cdv ct), osl⟩) (hcd : PySem.W.codeIn K cdv qual = true) (S : FnScope N ps scope)
    (len : ∀ vs H Q E, sp vs H Q E → vs.length = ps.length)
    (hbody : ∀ (A : Around) (outer : List Env) (s : Shared) (H : Hp) (vs : List V) (Q : VK) (E : XK), Room k (A.deeper (envOfC qual scope s.heap.objs.size f cdv)) → sp vs H Q E →
      ∃ t, PSs (cxOf CX P w K mg base N qual scope f cdv A outer s H E) body t ∧ t { nx := fun _ H' => Q .non H', rt := Q } (start N vs) H) :
    FnOk P w K mg base CX (k + 1) f (PySem.W.fnOf name qual params body scope dV kV doc pm an cdv ct) ps sp := by
  refine ⟨len, fun A outer s H args us vs Q E hr e0 hb r hsp => ?_⟩
  have hl := len _ _ _ _ hsp
  have KX : K.In s.heap := e0.mod.kin.keeps fun b o e => (e0.bs b o e).1
  have lim : s.heap.NoLimit := e0.mod.nolimit.keeps fun b o e => (e0.bs b o e).1
  have hkind : ∀ y ∈ ps.zip us, scope.names.lookup y.1 = some .local ∨ (scope.names.lookup y.1 = some .cell ∧ ((cellsFrom (s.heap.objs.size + 1) scope.names []).lookup y.1).isSome = true) := fun ⟨n, v⟩ hy => by
    rcases S.par n (List.of_mem_zip hy).1 with q | q
    · exact .inl q
    · exact .inr ⟨q, PySem.W.cellsFrom_some _ _ _ (.inl q)⟩
  refine codeAny_call_function hr.depth (KX _ _ lk) rfl S.co S.gen rfl (PySem.W.codeRec_of KX hcd) (hb _ _ _ _ ?_)
  refine wpAny_newFunctionEnv_cells S.kind hkind fun env he s1 x => ?_
  subst he
  refine ⟨lim.keeps x.toInCall.keep, codeAny_func ?_⟩
  obtain ⟨t, ht, hq⟩ := hbody A outer s H vs Q E (hr.deeper _) hsp
  have I : Inv (cxOf CX P w K mg base N qual scope f cdv A outer s H E) [] (start N vs) H s1 := inv_start S hr.hd e0 hl r x
  refine wpAny_mono (ht [] s1 (start N vs) H _ I hq) (fun fl s' hs => ?_) fun e s' hs => hs
  have fin : ∀ {σ' : St} {H' : Hp} {v : V} {u : Value}, Inv (cxOf CX P w K mg base N qual scope f cdv A outer s H E) [] σ' H' s' → RelV v u → Q v H' → CE outer P w H s Q u s' :=
    fun {σ' H' v u} J rv q => ⟨v, H', J.os, J.bare, J.base, J.hok, rv, q⟩
  cases fl with
  | ret u =>
    obtain ⟨v, σ', H', J, rv, q⟩ := hs
    exact fin J rv q
  | next =>
    obtain ⟨σ', H', J, q⟩ := hs
    exact fin (v := V.non) (u := Value.none) J rfl q
  | brk =>
    obtain ⟨_, _, _, q⟩ := hs
    exact False.elim q
  | cont =>
    obtain ⟨_, _, _, q⟩ := hs
    exact False.elim q
end L2

namespace L2
open PySem PySem.Spec PyProof.Rows
section
variable {X : Cx} {x : Str} {p pos : Pos} {e : Expr} {es : List Expr} {t : TA} {id T : String} {r : List V → Hp → VK → Prop}

def tCB (r : List V → Hp → VK → Prop) (t : TA) : TE := fun σ H Q => t σ H fun vs H1 => r vs H1 Q
/-- f(e, ..), f a built-in function -/
theorem pe_callB (hc : CallR X (.builtin id) r) (hg : Gl X x) (hm : X.mg x = none) (hv : bootBuiltins x = some (.builtin id)) (ha : PA X (e :: es) t) (hn : x ≠ "__name__" := by decide) (hdb : (x == ("__debug__" : Str)) = false := by decide)
    (he : starEach (e :: es) X.env = (false, eval e X.env) :: starEach es X.env := by rfl) (hpl : (backTo pos (starEach es X.env)).any (·.1) = false := by rfl) : PE X (.Call (.Name x p) (e :: es) [] pos) (tCB r t) := by
  intro pins s σ H Q I h
  refine wpAny_Call_Name_kw (ld_blt I hg hm hv ?_ hn hdb)
  exact PyProof.Rows.callWith_builtin1 (thn (ha pos pins s σ H _ I h) fun us s1 ⟨vs, H1, I1, r1, q1⟩ => hc pins s1 σ H1 vs us Q I1 r1 q1) he hpl
/-- T(e, ..), T a built-in type -/
theorem pe_callTy (hc : CallR X (.type T) r) (hg : Gl X x) (hm : X.mg x = none) (hv : bootBuiltins x = some (.type T)) (ha : PA X (e :: es) t) (hn : x ≠ "__name__" := by decide) (hdb : (x == ("__debug__" : Str)) = false := by decide)
    (he : starEach (e :: es) X.env = (false, eval e X.env) :: starEach es X.env := by rfl) (hpl : (backTo pos (starEach es X.env)).any (·.1) = false := by rfl) : PE X (.Call (.Name x p) (e :: es) [] pos) (tCB r t) := by
  intro pins s σ H Q I h
  refine wpAny_Call_Name_kw (ld_blt I hg hm hv ?_ hn hdb)
  exact PyProof.Rows.callWith_type1 (thn (ha pos pins s σ H _ I h) fun us s1 ⟨vs, H1, I1, r1, q1⟩ => hc pins s1 σ H1 vs us Q I1 r1 q1) he hpl
/-- T() -/
theorem pe_callTy0 (hc : CallR X (.type T) r) (hg : Gl X x) (hm : X.mg x = none) (hv : bootBuiltins x = some (.type T)) (hn : x ≠ "__name__" := by decide) (hdb : (x == ("__debug__" : Str)) = false := by decide) :
    PE X (.Call (.Name x p) [] [] pos) (tCB r tNil) := by
  intro pins s σ H Q I h
  refine wpAny_Call_Name_kw (ld_blt I hg hm hv ?_ hn hdb)
  exact PyProof.Rows.callWith_type0 (hc pins s σ H [] [] Q I .nil h)
end
end L2

namespace HT
open PySem PyProof.Rows

/-- t < u of tuples of ints -/
def lexLt : List Int → List Int → Bool
  | [], [] => false
  | [], _ :: _ => true
  | _ :: _, [] => false
  | x :: xs, y :: ys => if x = y then lexLt xs ys else decide (x < y)
theorem lexLt_cons (x y : Int) (xs ys : List Int) : lexLt (x :: xs) (y :: ys) = if x = y then lexLt xs ys else decide (x < y) := rfl
theorem lexLt_nil_nil : lexLt [] [] = false := rfl
theorem lexLt_nil_cons (y : Int) (ys : List Int) : lexLt [] (y :: ys) = true := rfl
theorem lexLt_cons_nil (x : Int) (xs : List Int) : lexLt (x :: xs) [] = false := rfl

theorem eqAt_int (A : Around) (s : Shared) (a : Int) (t : Tok) (c : Int) (u : Tok) : ∃ e, SeqAt.EqAt A s (.int a t) (.int c u) e ∧ (e = true ↔ a = c) :=
  ⟨(a == c), SeqAt.EqAt.int_int a t c u, by simp⟩
theorem rcLt_int (A : Around) (s : Shared) (a : Int) (t : Tok) (c : Int) (u : Tok) (prog : Program) (w : World) (E : Value → Shared → Prop) (Q : Value → Shared → Prop) (h : Q (.bool (decide (a < c))) s) :
    wpAny (model prog w) A (richCompare .Lt (.int a t) (.int c u)) Q E s :=
  (PyProof.Rows.lt_int h : wpAny (model prog w) A (compareOp .Lt (.int a t) (.int c u)) Q E s)

section
open PySem.SeqAt
open PySem.AutoSeq1 (wpAny_loadPart')
open PySem.MeetsSeq PySem.MeetsSeq2 PySem.MeetsSeq3

theorem tuple_lt_ints (l b : Addr) (items items2 : Array Value) (n n2 : Nat) (dd dd2 : Option Addr) (sl sl2 : Array (Option Value)) (ns ms : List Int) (hi : IntsAre items.toList ns) (hj : IntsAre items2.toList ms) :
    Meets (Builtin.«tuple.__lt__» ⟨[.ref l, .ref b], []⟩)
      (fun _ R s => s.heap.get? l = some { cls := .type "tuple", dict := dd, data := .seq items n, slots := sl } ∧ s.heap.get? b = some { cls := .type "tuple", dict := dd2, data := .seq items2 n2, slots := sl2 } ∧
        R (.ok (.ret (.bool (lexLt ns ms)))) s) :=
  .of_wp fun prog w A R s h => by
    obtain ⟨hp, g, d, tk, os⟩ := s; obtain ⟨hl, hb, h⟩ := h
    have f2 := AutoSeq1.sub_tuple_tuple
    have z1 : items.size = ns.length := by rw [← hi.length]; simp
    have z2 : items2.size = ms.length := by rw [← hj.length]; simp
    wp_walk using wpAny_loadPart' hl, wpAny_loadPart' hb, wpAny_forIn_list _ (fun rest b s' => b.1 = none ∧ s' = ⟨hp, g, d, tk, os⟩ ∧ ∃ (vs ws : List Value) (ns' ms' : List Int), rest = vs.zip ws ∧
      IntsAre vs ns' ∧ IntsAre ws ms' ∧ ns'.length + items2.size = ms'.length + items.size ∧ R (.ok (.ret (.bool (lexLt ns' ms')))) ⟨hp, g, d, tk, os⟩) _
    case turn =>
      rintro ⟨y, x⟩ rest b s' ⟨hb', rfl, vs, ws, ns', ms', hz, hvi, hwi, hlen, hR⟩
      cases hvi with
      | nil => rw [List.zip_nil_left] at hz; cases hz
      | cons a t hvi' =>
        cases hwi with
        | nil => rw [List.zip_nil_right] at hz; cases hz
        | cons c u hwi' =>
          rw [List.zip_cons_cons] at hz
          injection hz with hyx hrest
          injection hyx with hy hx
          subst hy hx
          rw [lexLt_cons] at hR
          simp only [List.length_cons] at hlen
          obtain ⟨e, he, hiff⟩ := eqAt_int A.in1 ⟨hp, g, d, tk, os⟩ a t c u
          refine wpAny_bind (he prog w _ _ ?_)
          cases e with
          | true =>
            rw [if_pos (hiff.mp rfl)] at hR
            wp_walk
            exact ⟨rfl, rfl, _, _, _, _, hrest, hvi', hwi', by omega, hR⟩
          | false =>
            rw [if_neg (fun q => absurd (hiff.mpr q) Bool.false_ne_true)] at hR
            have hri := rcLt_int A.in1 ⟨hp, g, d, tk, os⟩ a t c u prog w
            wp_walk using hri
            exact ⟨_, rfl, by simpa using hR⟩
    case fin =>
      rintro ⟨b1, b2⟩ s' ⟨hb', rfl, vs, ws, ns', ms', hz, hvi, hwi, hlen, hR⟩
      simp only at hb'
      subst hb'
      have hv : lexLt ns' ms' = decide (items.size < items2.size) := by
        cases hvi with
        | nil =>
          cases hwi with
          | nil =>
            simp only [List.length_nil] at hlen
            rw [lexLt_nil_nil]
            exact (decide_eq_false (by omega)).symm
          | cons c u hw =>
            simp only [List.length_nil, List.length_cons] at hlen
            rw [lexLt_nil_cons]
            exact (decide_eq_true (by omega)).symm
        | cons a t hv =>
          cases hwi with
          | nil =>
            simp only [List.length_nil, List.length_cons] at hlen
            rw [lexLt_cons_nil]
            exact (decide_eq_false (by omega)).symm
          | cons c u hw =>
            rw [List.zip_cons_cons] at hz
            cases hz
      rw [hv] at hR
      wp_walk
      exact ⟨_, rfl, by simpa [Builtin.Tuple.tupleCompareSizes] using hR⟩
    case h =>
      exact ⟨rfl, rfl, items.toList, items2.toList, ns, ms, rfl, hi, hj, by omega, h⟩
end

section
variable {prog : Program} {w : World} {A : Around} {E : Value → Shared → Prop} {s : Shared}

theorem lt_tupInts {l b : Addr} {items items2 : Array Value} {ns ms : List Int} {Q : Value → Shared → Prop} (hl : IsTup s.heap l items) (hb : IsTup s.heap b items2) (hi : IntsAre items.toList ns) (hj : IntsAre items2.toList ms)
    (hu : A.units < cLine) (h : Q (.bool (lexLt ns ms)) s) : wpAny (model prog w) A (compareOp .Lt (.ref l) (.ref b)) Q E s := by
  obtain ⟨⟨cls, dd, data, sl⟩, ho, hc, n, hd⟩ := id hl
  obtain ⟨⟨cls2, dd2, data2, sl2⟩, ho2, hc2, n2, hd2⟩ := id hb
  simp only at hc hd hc2 hd2
  subst hc hd hc2 hd2
  exact richCompare_meets_room (op := .Lt) ⟨_, ho, rfl⟩ ⟨_, ho2, rfl⟩ PySem.F.slot_tuple_lt PySem.F.entry_tuple_lt (PySem.F.args_tuple_lt_2 _ _) (tuple_lt_ints l b items items2 n n2 dd dd2 sl sl2 ns ms hi hj)
    ⟨ho, ho2, show Value.bool (lexLt ns ms) ≠ Value.notImplemented ∧ Q (.bool (lexLt ns ms)) s from ⟨(fun x => nomatch x), h⟩⟩ hu

/-- t + u, t not empty -/
theorem cat_tup {t b : Addr} {vs ws : List Value} {Q : Value → Shared → Prop} (ht : IsTup s.heap t vs.toArray) (hb : IsTup s.heap b ws.toArray) (hv : vs ≠ [])
    (h1 : ws = [] → Q (.ref t) s) (h2 : ws ≠ [] → Q (.ref s.heap.objs.size) { s with heap := s.heap.push { cls := .type "tuple", data := .seq (vs ++ ws).toArray } })
    (hsz : vs.length + ws.length ≤ sizeLine) : wpAny (model prog w) A (binaryOp .Add (.ref t) (.ref b)) Q E s := by
  obtain ⟨⟨cls, dd, data, sl⟩, ho, hc, n, hd⟩ := id ht
  obtain ⟨⟨cls2, dd2, data2, sl2⟩, ho2, hc2, n2, hd2⟩ := id hb
  simp only at hc hd hc2 hd2
  subst hc hd hc2 hd2
  have e : vs.toArray ++ ws.toArray = (vs ++ ws).toArray := by simp
  by_cases hw : ws = []
  · exact concat_meets ⟨_, ho, rfl⟩ ⟨_, ho2, rfl⟩ noFill_tuple_add seq_tuple_add PySem.F.slot_tuple_add PySem.F.entry_tuple_add (PySem.F.args_tuple_add_2 _ _)
      (tuple_addW1 t b vs.toArray ws.toArray n n2 dd dd2 sl sl2 (by simpa using hv) (by simp [hw])) ⟨ho, ho2, h1 hw⟩
  · refine concat_meets ⟨_, ho, rfl⟩ ⟨_, ho2, rfl⟩ noFill_tuple_add seq_tuple_add PySem.F.slot_tuple_add PySem.F.entry_tuple_add (PySem.F.args_tuple_add_2 _ _)
      (tuple_addW2 t b vs.toArray ws.toArray n n2 dd dd2 sl sl2 (by simpa using hv) (by simpa using hw) (by rw [List.size_toArray, List.size_toArray]; exact hsz)) ⟨ho, ho2, ?_⟩
    rw [e]
    exact h2 hw

/-! ### t[a:b], not the whole -/
/-- a slice's bound as a place among n (d where it is left out) -/
def sIx (n d : Nat) : Option Int → Nat
  | none => d
  | some v => if v < 0 then (v + (n : Int)).toNat else min v.toNat n
theorem sIx_none (n d : Nat) : sIx n d none = d := rfl
theorem sIx_nat (n d k : Nat) : sIx n d (some (k : Int)) = min k n := by
  show (if (k : Int) < 0 then ((k : Int) + (n : Int)).toNat else min (k : Int).toNat n) = min k n
  rw [if_neg (by omega), Int.toNat_natCast]
theorem sIx_le (n d : Nat) (hd : d ≤ n) (o : Option Int) : sIx n d o ≤ n := by
  cases o with
  | none => exact hd
  | some v =>
    show (if v < 0 then (v + (n : Int)).toNat else min v.toNat n) ≤ n
    by_cases hv : v < 0
    · rw [if_pos hv]; omega
    · rw [if_neg hv]; exact Nat.min_le_right _ _
theorem clip_eq (v : Int) (n d : Nat) : (if v < 0 then max (v + (n : Int)) 0 else min v (n : Int)) = ((sIx n d (some v) : Nat) : Int) := by
  show (if v < 0 then max (v + (n : Int)) 0 else min v (n : Int)) = (((if v < 0 then (v + (n : Int)).toNat else min v.toNat n) : Nat) : Int)
  by_cases hv : v < 0
  · simp only [if_pos hv]; omega
  · simp only [if_neg hv]; omega
theorem adjust_gen (lo hi : Option Int) (n : Nat) : Builtin.Slice.sliceAdjust lo hi 1 (n : Int) = (((sIx n 0 lo : Nat) : Int), ((sIx n n hi : Nat) : Int)) := by
  have h1 : ¬ ((1 : Int) < 0) := by omega
  unfold Builtin.Slice.sliceAdjust
  simp only [h1, if_false]
  refine Prod.ext ?_ ?_
  · cases lo with
    | none => rfl
    | some v => exact clip_eq v n 0
  · cases hi with
    | none => rfl
    | some v => exact clip_eq v n n
theorem places_gen (i j : Nat) : Builtin.Slice.slicePlaces (i : Int) (j : Int) 1 = j - i := by
  unfold Builtin.Slice.slicePlaces
  have h1 : (1 : Int) > 0 := by omega
  simp only [h1, if_true, Int.ediv_one]
  split <;> omega
theorem slicePart_ {v : Value} {o : Option Int} {Q : Option Int → Shared → Prop} (p : IsPart v o) (h : Q o s) : wpAny (model prog w) A (Builtin.Slice.slicePartIndex v) Q E s := by
  cases p with
  | none => exact slicePart_none h
  | int i t => exact slicePart_int h
theorem sliceApplied_gen {sl : Addr} {vl vu : Value} {lo hi : Option Int} {n : Nat} {Q : Int × Int × Nat → Shared → Prop} (hs : s.heap.IsSliceOf sl vl vu .none) (pl : IsPart vl lo) (pu : IsPart vu hi)
    (h : Q (((sIx n 0 lo : Nat) : Int), 1, sIx n n hi - sIx n 0 lo) s) : wpAny (model prog w) A (Builtin.Slice.sliceApplied (.ref sl) (pure (n : Int))) Q E s := by
  obtain ⟨os, hos, hcs, hds⟩ := id hs
  unfold Builtin.Slice.sliceApplied Builtin.Slice.sliceFields
  refine wpAny_bind (wpAny_bind (wpAny_field hos hds (x := vl) rfl (wpAny_bind (wpAny_field hos hds (x := vu) rfl (wpAny_bind (wpAny_field hos hds (x := .none) rfl (wpAny_pure ?_)))))))
  refine wpAny_bind (slicePart_none ?_)
  show wpAny _ _ (if ((1 : Int) == 0) = true then _ else _) _ _ s
  rw [if_neg (by decide)]
  refine wpAny_bind (slicePart_ pl (wpAny_bind (slicePart_ pu (wpAny_bind (wpAny_pure ?_)))))
  show wpAny _ _ (match Builtin.Slice.sliceAdjust lo hi 1 (n : Int) with | (lo, hi) => pure (lo, (1 : Int), Builtin.Slice.slicePlaces lo hi 1)) _ _ s
  rw [adjust_gen lo hi n]
  show wpAny _ _ (pure (((sIx n 0 lo : Nat) : Int), (1 : Int), Builtin.Slice.slicePlaces ((sIx n 0 lo : Nat) : Int) ((sIx n n hi : Nat) : Int) 1)) _ _ s
  rw [places_gen]
  exact wpAny_pure h
theorem pick_gen (xs : Array Value) (i k : Nat) : ((List.range k).filterMap fun (m : Nat) => xs[((i : Int) + (m : Int) * 1).toNat]?).toArray = ((xs.toList.drop i).take k).toArray := by
  have e : (fun (m : Nat) => xs[((i : Int) + (m : Int) * 1).toNat]?) = fun m => xs[i + m]? := by
    funext m
    have : ((i : Int) + (m : Int) * 1).toNat = i + m := by omega
    rw [this]
  rw [e]
  have := pick_run xs i k
  rw [List.filterMap_map] at this
  have e2 : ((fun x => xs[x]?) ∘ fun x => i + x) = fun m => xs[i + m]? := rfl
  rw [e2] at this
  rw [this]

theorem getItem_tuple_cut {t sl : Addr} {items : Array Value} {vl vu : Value} {lo hi : Option Int} {Q : Value → Shared → Prop} (ht : IsTup s.heap t items) (hs : s.heap.IsSliceOf sl vl vu .none) (pl : IsPart vl lo) (pu : IsPart vu hi)
    (hw : ¬ (sIx items.size 0 lo = 0 ∧ sIx items.size items.size hi = items.size))
    (h : Q (.ref s.heap.objs.size) { s with heap := s.heap.push { cls := .type "tuple", data := .seq ((items.toList.drop (sIx items.size 0 lo)).take (sIx items.size items.size hi - sIx items.size 0 lo)).toArray } })
    (hsz : items.size ≤ sizeLine) : wpAny (model prog w) A (getItem (.ref t) (.ref sl)) Q E s := by
  have htake : sizeOk (.seq ((items.toList.drop (sIx items.size 0 lo)).take (sIx items.size items.size hi - sIx items.size 0 lo)).toArray) := by
    show ((items.toList.drop (sIx items.size 0 lo)).take (sIx items.size items.size hi - sIx items.size 0 lo)).toArray.size ≤ sizeLine
    rw [List.size_toArray, List.length_take, List.length_drop, Array.length_toList]
    omega
  have hj : sIx items.size items.size hi ≤ items.size := sIx_le _ _ (Nat.le_refl _) hi
  obtain ⟨os, hos, hcs, hds⟩ := id hs
  have hTs : s.TypeIs (.ref sl) "slice" := ⟨os, hos, hcs⟩
  unfold getItem
  try with_reducible refine wpAny_holding ?_
  first | refine wpAny_bind (wpAny_pure ?_) | skip
  refine wpAny_bind (wpAny_sequenceKey ht.typeIs (by decide) ?_)
  refine wpAny_bind (wpAny_callSpecial?_slot (name := Str.ofString "__getitem__") ht.typeIs PyProof.Rows.slot_tuple_getitem
    (wpAny_call_entry PyProof.Rows.slot_tuple_getitem ht.typeIs entry_tuple_getitem ?_ (args_tuple_getitem _ _)))
  show wpAny _ _ (Builtin.Tuple.tupleItemsOf (.ref t) >>= _) _ _ s
  refine wpAny_bind (tupleItemsOf_ ht ?_)
  refine wpAny_bind (wpAny_typeOf hTs ?_)
  rw [if_pos (by decide)]
  refine wpAny_bind (sliceApplied_gen hs pl pu ?_)
  have hno : ¬ ((((sIx items.size 0 lo : Nat) : Int) == 0 && (1 : Int) == 1 && (sIx items.size items.size hi - sIx items.size 0 lo) == items.size) = true) := by
    intro q
    rw [Bool.and_eq_true, Bool.and_eq_true] at q
    have q1 : ((sIx items.size 0 lo : Nat) : Int) = 0 := eq_of_beq q.1.1
    have q2 : sIx items.size items.size hi - sIx items.size 0 lo = items.size := eq_of_beq q.2
    exact hw ⟨by omega, by omega⟩
  show wpAny _ _ (if (((sIx items.size 0 lo : Nat) : Int) == 0 && (1 : Int) == 1 && (sIx items.size items.size hi - sIx items.size 0 lo) == items.size) = true then _ else _) _ _ s
  rw [if_neg hno, pick_gen]
  first
    | exact wpAny_bind (m := Builtin.Tuple.tupleExact _) (wpAny_newObj_type (wpAny_pure ⟨_, rfl, wpAny_pure h⟩) htake)
    | exact wpAny_bind (m := Builtin.Tuple.tupleExact _) (wpAny_newObj_type (wpAny_bind (wpAny_pure (wpAny_pure ⟨_, rfl, wpAny_pure h⟩))) htake)
    | exact wpAny_bind (wpAny_bind (m := Builtin.Tuple.tupleExact _) (wpAny_newObj_type (wpAny_pure (wpAny_pure ⟨_, rfl, wpAny_pure h⟩)) htake))
    | exact wpAny_bind (wpAny_bind (m := Builtin.Tuple.tupleExact _) (wpAny_newObj_type (wpAny_pure ⟨_, rfl, wpAny_pure h⟩) htake))
end
end HT

namespace L2
open PySem PySem.Spec PyProof.Rows

/-! ### the parts of a slice -/
abbrev TO := St → Hp → (Option Int → Hp → Prop) → Prop
/-- a slice's part (left out, or an int) -/
def PO (X : Cx) (e : Option Expr) (t : TO) : Prop :=
  ∀ (pins : List (Addr × Obj)) (s : Shared) (σ : St) (H : Hp) (Q : Option Int → Hp → Prop), Inv X pins σ H s → t σ H Q →
    wpAny (model X.prog X.w) X.A (evalPart e X.env) (fun u s' => ∃ o H', Inv X pins σ H' s' ∧ IsPart u o ∧ Q o H') X.xe s
def tNoPart : TO := fun _ H Q => Q none H
def tPart (t : TE) : TO := fun σ H Q => t σ H fun x H1 => ∃ i, x = .int i ∧ Q (some i) H1

theorem intsAre_of {ns : List Int} : ∀ {us : List Value}, Vals (ns.map V.int) us → IntsAre us ns := by
  induction ns with
  | nil => intro us r; rw [List.map_nil] at r; cases r; exact .nil
  | cons n ns ih =>
    intro us r
    rw [List.map_cons] at r
    cases r with
    | cons r1 r2 =>
      obtain ⟨t, e⟩ := r1
      subst e
      exact .cons n t (ih r2)

section
variable {X : Cx} {e : Expr} {te : TE} {lo hi : Option Expr} {tl th : TO} {pos p2 : Pos}

theorem po_none : PO X none tNoPart := by
  intro pins s σ H Q I h
  rw [evalPart_none]
  exact wpAny_pure ⟨none, H, I, .none, h⟩
theorem po_some (h : PE X e te) : PO X (some e) (tPart te) := by
  intro pins s σ H Q I hw
  rw [evalPart_some]
  refine thn (h pins s σ H _ I hw) fun u s1 ⟨x, H1, I1, r1, q1⟩ => ?_
  obtain ⟨i, rfl, q⟩ := q1
  obtain ⟨t, rfl⟩ := r1
  exact ⟨some i, H1, I1, .int i t, q⟩

/-- what a slice of a value is, by values: the slice object stands at sl -/
def SlR (X : Cx) (r : V → Option Int → Option Int → Hp → VK → Prop) : Prop :=
  ∀ (pins : List (Addr × Obj)) (s : Shared) (σ : St) (H : Hp) (x : V) (v vl vu : Value) (lo hi : Option Int) (sl : Addr) (Q : VK), Inv X pins σ H s → RelV x v → s.heap.IsSliceOf sl vl vu .none → IsPart vl lo → IsPart vu hi → r x lo hi H Q →
    ∃ T id, typeLookup (.type T) "__getitem__" = pure (some (.builtin id)) ∧ s.TypeIs v T ∧ wpAny (model X.prog X.w) X.A (getItem v (.ref sl)) (EP X pins σ Q) X.xe s
theorem SlR.or {r r' : V → Option Int → Option Int → Hp → VK → Prop} (h : SlR X r) (h' : SlR X r') : SlR X (fun x lo hi H Q => r x lo hi H Q ∨ r' x lo hi H Q) := by
  intro pins s σ H x v vl vu lo hi sl Q I rx hs pl pu q
  rcases q with q | q
  · exact h pins s σ H x v vl vu lo hi sl Q I rx hs pl pu q
  · exact h' pins s σ H x v vl vu lo hi sl Q I rx hs pl pu q
def tSl (r : V → Option Int → Option Int → Hp → VK → Prop) (te : TE) (tl th : TO) : TE := fun σ H Q => te σ H fun x H1 => tl σ H1 fun l H2 => th σ H2 fun u H3 => r x l u H3 Q
/-- a[lo:hi], any a -/
theorem pe_slice {r : V → Option Int → Option Int → Hp → VK → Prop} (hr : SlR X r) (he : PE X e te) (hl : PO X lo tl) (hu : PO X hi th) : PE X (.Subscript e (.Slice lo hi none p2) pos) (tSl r te tl th) := by
  intro pins s σ H Q I h
  refine Subscript_ (thn (he pins s σ H _ I h) fun v s1 ⟨x, H1, I1, r1, q1⟩ => ?_)
  refine wpAny_Slice (thn (hl pins s1 σ H1 _ I1 q1) fun vl s2 ⟨l, H2, I2, pl, q2⟩ => thn (hu pins s2 σ H2 _ I2 q2) fun vu s3 ⟨u, H3, I3, pu, q3⟩ => ?_)
  rw [evalPart_none]
  refine wpAny_pure ?_
  have I4 : Inv X pins σ H3 { s3 with heap := s3.heap.push { cls := .type "slice", data := .fields #[vl, vu, .none] } } := I3.kept (t' := s3.toks) fun b ob q => Heap.get?_push_of_some _ q
  obtain ⟨T, id, hT, ht, hg⟩ := hr pins { s3 with heap := s3.heap.push { cls := .type "slice", data := .fields #[vl, vu, .none] } } σ H3 x v vl vu l u s3.heap.objs.size Q I4 r1 (Heap.IsSliceOf.new ..) pl pu q3
  show wpAny (model X.prog X.w) X.A (subscriptTail e (.Slice lo hi none p2) v (.ref s3.heap.objs.size)) (EP X pins σ Q) X.xe { s3 with heap := s3.heap.push { cls := .type "slice", data := .fields #[vl, vu, .none] } }
  exact tail_any (ops := [.ref s3.heap.objs.size, v]) ht hT hg (by with_unfolding_all rfl)

/-- the items of xs[lo:hi] -/
def cutV (xs : List V) (lo hi : Option Int) : List V := (xs.drop (HT.sIx xs.length 0 lo)).take (HT.sIx xs.length xs.length hi - HT.sIx xs.length 0 lo)
theorem cutV_length (xs : List V) (lo hi : Option Int) : (cutV xs lo hi).length ≤ xs.length := by
  unfold cutV
  rw [List.length_take, List.length_drop]
  omega
/-- t[lo:hi], not the whole of it (the whole would be t itself) -/
def rSlT (K : PySem.W.Frag) : V → Option Int → Option Int → Hp → VK → Prop := fun x lo hi H Q => ∃ a xs, x = .ref a ∧ SqT K H a xs ∧
  ¬ (HT.sIx xs.length 0 lo = 0 ∧ HT.sIx xs.length xs.length hi = xs.length) ∧ ∀ p, H p = none → Q (.ref p) (upd H p (.tup (cutV xs lo hi)))
theorem sl_tup : SlR X (rSlT X.K) := by
  intro pins s σ H x v vl vu lo hi sl Q I rx hs pl pu h
  obtain ⟨a, xs, rfl, hx, hw, q⟩ := h
  cases rx
  obtain ⟨its, r, ht, hz⟩ := I.tuple hx
  have hlen : its.toArray.size = xs.length := by rw [List.size_toArray]; exact r.length.symm
  refine ⟨"tuple", _, PyProof.Rows.slot_tuple_getitem.lookup, ht.typeIs, ?_⟩
  refine HT.getItem_tuple_cut ht hs pl pu (by rw [hlen]; exact hw) ?_ (by rw [hlen]; exact hz)
  rw [hlen]
  refine ⟨.ref s.heap.objs.size, _, I.laid (t' := s.toks) (o := .tup (cutV xs lo hi)) (fun b ob q => Heap.get?_push_of_some _ q) (Nat.le_refl _) ?_, rfl, q _ (I.hok.fresh (Nat.le_refl _))⟩
  exact ⟨Nat.le_trans (cutV_length xs lo hi) hz, _, (r.drop (HT.sIx xs.length 0 lo)).take (HT.sIx xs.length xs.length hi - HT.sIx xs.length 0 lo), IsTup.new _ _⟩

/-! ### t < u, t + u -/
def rLtT (K : PySem.W.Frag) : R2 := fun x y H Q => ∃ a b ns ms, x = .ref a ∧ y = .ref b ∧ SqT K H a (ns.map V.int) ∧ SqT K H b (ms.map V.int) ∧ Q (.bl (HT.lexLt ns ms)) H
theorem op_ltT (hu : X.A.units < cLine) : OpR X (compareOp .Lt) (rLtT X.K) := by
  intro pins s σ H x y v u Q I rx ry h
  obtain ⟨a, b, ns, ms, rfl, rfl, ha, hb, q⟩ := h
  cases rx
  cases ry
  obtain ⟨its, r1, p1, _⟩ := I.tuple ha
  obtain ⟨its2, r2, p2, _⟩ := I.tuple hb
  have i1 : IntsAre its.toArray.toList ns := intsAre_of r1
  have i2 : IntsAre its2.toArray.toList ms := intsAre_of r2
  exact HT.lt_tupInts p1 p2 i1 i2 hu ⟨.bl (HT.lexLt ns ms), H, I, rfl, q⟩
/-- t + u, t not empty: u empty gives t itself -/
def rCatT (K : PySem.W.Frag) : R2 := fun x y H Q => ∃ a b xs ys, x = .ref a ∧ y = .ref b ∧ SqT K H a xs ∧ SqT K H b ys ∧ xs ≠ [] ∧ xs.length + ys.length ≤ sizeLine ∧
  (ys = [] → Q (.ref a) H) ∧ (ys ≠ [] → ∀ p, H p = none → Q (.ref p) (upd H p (.tup (xs ++ ys))))
theorem Vals.nil_iff {xs : List V} {us : List Value} (r : Vals xs us) : us = [] ↔ xs = [] := by
  cases r with
  | nil => simp
  | cons _ _ => simp
theorem op_catT : OpR X (binaryOp .Add) (rCatT X.K) := by
  intro pins s σ H x y v u Q I rx ry h
  obtain ⟨a, b, xs, ys, rfl, rfl, ha, hb, hx, hz, q1, q2⟩ := h
  cases rx
  cases ry
  obtain ⟨its, r1, p1, _⟩ := I.tuple ha
  obtain ⟨its2, r2, p2, _⟩ := I.tuple hb
  refine HT.cat_tup p1 p2 (fun z => hx (r1.nil_iff.mp z)) (fun z => ⟨.ref a, H, I, rfl, q1 (r2.nil_iff.mp z)⟩) (fun z => ?_) (by rw [← r1.length, ← r2.length]; exact hz)
  refine ⟨.ref s.heap.objs.size, _, I.laid (t' := s.toks) (o := .tup (xs ++ ys)) (fun b ob q => Heap.get?_push_of_some _ q) (Nat.le_refl _) ?_, rfl, q2 (fun w => z (r2.nil_iff.mpr w)) _ (I.hok.fresh (Nat.le_refl _))⟩
  exact ⟨by rw [List.length_append]; exact hz, _, r1.append r2, IsTup.new _ _⟩
/-- tuple(t) -/
theorem call_tupleT : CallR X (.type "tuple") (fun xs H Q => ∃ a ys, xs = [.ref a] ∧ SqT X.K H a ys ∧ Q (.ref a) H) := by
  intro pins s σ H xs us Q I r h
  obtain ⟨a, ys, rfl, ha, q⟩ := h
  obtain ⟨u, rfl, ru⟩ := vals1 r
  cases ru
  obtain ⟨its, _, p1, _⟩ := I.tuple ha
  exact call_tuple_same (items := its.toArray) p1 ⟨.ref a, H, I, rfl, q⟩
end
end L2

namespace L2
open PySem PySem.Spec PyProof.Rows

/-! ### places -/
/-- the place that an index of any sign means -/
def ixN (n : Nat) (i : Int) : Option Nat := if 0 ≤ i then (if i < n then some i.toNat else none) else if -(n : Int) ≤ i then some (i + n).toNat else none
def atI {α : Type} (xs : List α) (i : Int) : Option α := (ixN xs.length i).bind fun j => xs[j]?
theorem ixN_seq {n : Nat} {i : Int} {j : Nat} (h : ixN n i = some j) : seqIndex? i n = some j ∧ j < n ∧ -(n : Int) ≤ i ∧ i < n := by
  unfold ixN at h
  by_cases h0 : 0 ≤ i
  · rw [if_pos h0] at h
    by_cases h1 : i < n
    · rw [if_pos h1] at h
      have e : i.toNat = j := Option.some.inj h
      exact ⟨by rw [seqIndex_of h0 h1, e], by omega, by omega, h1⟩
    · rw [if_neg h1] at h; cases h
  · rw [if_neg h0] at h
    by_cases h1 : -(n : Int) ≤ i
    · rw [if_pos h1] at h
      have e : (i + n).toNat = j := Option.some.inj h
      exact ⟨by rw [seqIndex_neg (by omega) h1, e], by omega, h1, by omega⟩
    · rw [if_neg h1] at h; cases h
theorem atI_get {α : Type} {xs : List α} {i : Int} {v : α} (h : atI xs i = some v) : ∃ j, seqIndex? i xs.length = some j ∧ xs[j]? = some v ∧ j < xs.length ∧ -(xs.length : Int) ≤ i ∧ i < xs.length := by
  unfold atI at h
  cases e : ixN xs.length i with
  | none => rw [e] at h; cases h
  | some j =>
    rw [e] at h
    obtain ⟨h1, h2, h3, h4⟩ := ixN_seq e
    exact ⟨j, h1, h, h2, h3, h4⟩
theorem atI_nat {α : Type} {xs : List α} {j : Nat} {v : α} (h : xs[j]? = some v) : atI xs (j : Int) = some v := by
  have hj : j < xs.length := (List.getElem?_eq_some_iff.mp h).1
  have e : ixN xs.length (j : Int) = some j := by
    unfold ixN
    rw [if_pos (by omega), if_pos (by omega)]; simp
  unfold atI; rw [e]; exact h
theorem atI_last {α : Type} (xs : List α) (v : α) : atI (xs ++ [v]) (-1) = some v := by
  have hl : (xs ++ [v]).length = xs.length + 1 := by simp
  have e : ixN (xs ++ [v]).length (-1) = some xs.length := by
    unfold ixN
    rw [hl, if_neg (by decide), if_pos (by omega)]
    congr 1
    omega
  unfold atI
  rw [e]
  show (xs ++ [v])[xs.length]? = some v
  simp

/-! ### what may be subscripted -/
/-- what stands as an index of a plain subscript -/
def PlainIx (b : Expr) : Prop := ∀ o i, subscripted b false o i = operate [o, i] (getItem o i)
/-- a subscript by values -/
def IxR (X : Cx) (r : R2) : Prop :=
  ∀ (value slice : Expr) (pins : List (Addr × Obj)) (s : Shared) (σ : St) (H : Hp) (x y : V) (v u : Value) (Q : VK), Inv X pins σ H s → RelV x v → RelV y u → r x y H Q →
    subscripted slice false v u = operate [v, u] (getItem v u) → wpAny (model X.prog X.w) X.A (subscriptTail value slice v u) (EP X pins σ Q) X.xe s
/-- a call of a builtin's method by values: the receiver, the arguments -/
def MtR (X : Cx) (id : String) (r : V → List V → Hp → VK → Prop) : Prop :=
  ∀ (pins : List (Addr × Obj)) (s : Shared) (σ : St) (H : Hp) (x : V) (xs : List V) (v : Value) (us : List Value) (Q : VK), Inv X pins σ H s → RelV x v → Vals xs us → r x xs H Q →
    wpAny (model X.prog X.w) X.A (call (.builtin id) (v :: us)) (EP X pins σ Q) X.xe s
section
variable {X : Cx} {a b : Expr} {ta tb : TE} {pos : Pos}
theorem IxR.or {r r' : R2} (h : IxR X r) (h' : IxR X r') : IxR X (fun x y H Q => r x y H Q ∨ r' x y H Q) := by
  intro value slice pins s σ H x y v u Q I rx ry q hs
  rcases q with q | q
  · exact h value slice pins s σ H x y v u Q I rx ry q hs
  · exact h' value slice pins s σ H x y v u Q I rx ry q hs
theorem MtR.or {id : String} {r r' : V → List V → Hp → VK → Prop} (h : MtR X id r) (h' : MtR X id r') : MtR X id (fun x xs H Q => r x xs H Q ∨ r' x xs H Q) := by
  intro pins s σ H x xs v us Q I rx rs q
  rcases q with q | q
  · exact h pins s σ H x xs v us Q I rx rs q
  · exact h' pins s σ H x xs v us Q I rx rs q
/-- a[b] -/
theorem pe_ix {r : R2} (hr : IxR X r) (ha : PE X a ta) (hb : PE X b tb) (hs : PlainIx b) : PE X (.Subscript a b pos) (tOp r ta tb) := by
  intro pins s σ H Q I h
  exact Subscript_ (binT ha hb I h fun v u s2 x y H2 I2 rx ry q => hr a b pins s2 σ H2 x y v u Q I2 rx ry q (hs _ _))

def rIxL (K : PySem.W.Frag) : R2 := fun x y H Q => ∃ p xs i v, x = .ref p ∧ y = .int i ∧ SqL K H p xs ∧ atI xs i = some v ∧ Q v H
def rIxT (K : PySem.W.Frag) : R2 := fun x y H Q => ∃ p xs i v, x = .ref p ∧ y = .int i ∧ SqT K H p xs ∧ atI xs i = some v ∧ Q v H
def rIxS : R2 := fun x y H Q => ∃ z i c, x = .str z ∧ y = .int i ∧ z.length ≤ sizeLine ∧ atI z.cps.toList i = some c ∧ Q (.str ⟨#[c]⟩) H
theorem ix_list : IxR X (rIxL X.K) := by
  intro value slice pins s σ H x y v u Q I rx ry h hs
  obtain ⟨p, xs, i, z, rfl, rfl, hq, he, q⟩ := h
  cases rx
  obtain ⟨t, rfl⟩ := ry
  obtain ⟨its, r, pl, hz⟩ := I.list hq
  obtain ⟨j, h1, h2, h3, h4, h5⟩ := atI_get he
  obtain ⟨w, ew, rw'⟩ := r.get h2
  have hl := r.length
  have hn := line63
  have fin : EP X pins σ Q w s := ⟨z, H, I, rw', q⟩
  by_cases h0 : 0 ≤ i
  · have hj : i.toNat = j := by
      rw [seqIndex_of h0 h5] at h1
      exact Option.some.inj h1
    exact item_listR pl.isList h0 (by omega) (by rw [hj]; simpa using ew) fin hs
  · have hj : (i + (its.toArray.size : Int)).toNat = j := by
      rw [seqIndex_neg (by omega) h4] at h1
      rw [List.size_toArray, ← hl]
      exact Option.some.inj h1
    exact subscriptTail_builtinR (x := w) pl.isList.typeIs slot_list_getitem.lookup
      (wpAny_getItem_list_neg (Q := fun r s' => r = w ∧ EP X pins σ Q r s') pl.isList (by omega) (by rw [List.size_toArray] <;> omega) (by omega) (by rw [hj]; simpa using ew) ⟨rfl, fin⟩) hs
theorem ix_tup : IxR X (rIxT X.K) := by
  intro value slice pins s σ H x y v u Q I rx ry h hs
  obtain ⟨p, xs, i, z, rfl, rfl, hq, he, q⟩ := h
  cases rx
  obtain ⟨t, rfl⟩ := ry
  obtain ⟨its, r, pl, hz⟩ := I.tuple hq
  obtain ⟨j, h1, h2, h3, h4, h5⟩ := atI_get he
  obtain ⟨w, ew, rw'⟩ := r.get h2
  have hl := r.length
  have hn := line63
  have fin : EP X pins σ Q w s := ⟨z, H, I, rw', q⟩
  exact subscriptTail_builtinR (x := w) pl.typeIs slot_tuple_getitem.lookup
    (getItem_tuple (j := j) (Q := fun r s' => r = w ∧ EP X pins σ Q r s') pl (by omega) (by omega) (by rw [List.size_toArray, ← hl]; exact h1) (by simpa using ew) ⟨rfl, fin⟩) hs
theorem ix_str : IxR X rIxS := by
  intro value slice pins s σ H x y v u Q I rx ry h hs
  obtain ⟨z, i, c, rfl, rfl, hz, he, q⟩ := h
  obtain ⟨t, rfl⟩ := rx
  obtain ⟨t', rfl⟩ := ry
  obtain ⟨j, h1, h2, h3, h4, h5⟩ := atI_get he
  have hl : z.cps.toList.length = z.length := by simp [Str.length]
  rw [hl] at h1 h4 h5
  have hn := line63
  exact tail_any (typeIs_str s z t) slot_str_getitem.lookup (getItem_str (c := c) (by
    have e1 : decide (i < -(2 ^ 63 : Int)) = false := decide_eq_false (by omega)
    have e2 : decide (i ≥ 2 ^ 63) = false := decide_eq_false (by omega)
    rw [e1, e2, Bool.or_false]) (by rw [h1]; simpa using h2) ⟨.str ⟨#[c]⟩, H, I.tok _, ⟨_, rfl⟩, q⟩) hs
/-- list, tuple or str -/
def rIx (K : PySem.W.Frag) : R2 := fun x y H Q => rIxL K x y H Q ∨ rIxT K x y H Q ∨ rIxS x y H Q
theorem ix_seq : IxR X (rIx X.K) := ix_list.or (ix_tup.or ix_str)

/-! ### xs[i] = v, any sign -/
/-- the list's object behind a store -/
theorem mapSeq_set (its : List Value) (n j : Nat) (u : Value) : Obj.mapSeq (·.setIfInBounds j u) { cls := .type "list", data := .seq its.toArray n } = { cls := .type "list", data := .seq (its.set j u).toArray n } := by
  simp [Obj.mapSeq]
theorem Inv.lst {pins : List (Addr × Obj)} {σ : St} {H : Hp} {s : Shared} {p : Addr} {xs : List V} (I : Inv X pins σ H s) (h : H p = some (.lst xs)) :
    ∃ (its : List Value) (n : Nat), Vals xs its ∧ s.heap.get? p = some { cls := .type "list", data := .seq its.toArray n } ∧ xs.length ≤ sizeLine := by
  obtain ⟨z, its, n, r, e⟩ := I.hok p _ h
  exact ⟨its, n, r, e, z⟩
/-- the list at p is written by an update of its object -/
theorem Inv.lstUpd {pins : List (Addr × Obj)} {σ : St} {H : Hp} {s : Shared} {p : Addr} {xs ys : List V} {its its' : List Value} {n n' : Nat} {f : Obj → Obj} (I : Inv X pins σ H s) (h : H p = some (.lst xs))
    (ho : s.heap.get? p = some { cls := .type "list", data := .seq its.toArray n }) (hf : f { cls := .type "list", data := .seq its.toArray n } = { cls := .type "list", data := .seq its'.toArray n' }) (r : Vals ys its') (hz : ys.length ≤ sizeLine) (t : Nat) :
    Inv X pins σ (upd H p (.lst ys)) { s with heap := s.heap.update p f, toks := t } := by
  have e : (s.heap.update p f).get? p = some { cls := .type "list", data := .seq its'.toArray n' } := by
    rw [Heap.get?_update_self f ho (by rw [hf] <;> rfl), hf]
  refine I.write (x := p) (e := p) (by rw [h]; trivial) (.inl rfl) (fun b u hb q => (Heap.get?_update_other _ _ (Ne.symm hb)).trans q) ⟨_, e⟩ ?_
  exact ⟨hz, its', n', r, e⟩
def rSetL : V → V → V → Hp → (Hp → Prop) → Prop := fun o i v H Q => ∃ p xs k j, o = .ref p ∧ i = .int k ∧ H p = some (.lst xs) ∧ ixN xs.length k = some j ∧ Q (upd H p (.lst (xs.set j v)))
theorem set_list : PSet X rSetL := by
  intro pins s σ H o i v ov iv u Q I ro ri rv h
  obtain ⟨p, xs, k, j, rfl, rfl, hp, hj, q⟩ := h
  cases ro
  obtain ⟨t, rfl⟩ := ri
  obtain ⟨its, n, r, ho, hz⟩ := I.lst hp
  obtain ⟨h1, h2, h3, h4⟩ := ixN_seq hj
  have hl := r.length
  have hn := line63
  have I' : Inv X pins σ (upd H p (.lst (xs.set j v))) { s with heap := s.heap.update p (Obj.mapSeq (·.setIfInBounds j u)) } :=
    I.lstUpd hp ho (mapSeq_set its n j u) (r.set rv j) (by rw [List.length_set]; exact hz) s.toks
  by_cases h0 : 0 ≤ k
  · have hk : k.toNat = j := by
      rw [seqIndex_of h0 h4] at h1
      exact Option.some.inj h1
    exact PySem.W.ki_setAt ho h0 (by omega) (by rw [List.size_toArray, ← hl]; exact h4) (by rw [hk]; exact ⟨_, I', q⟩)
  · have hk : (k + (its.toArray.size : Int)).toNat = j := by
      rw [seqIndex_neg (by omega) h3] at h1
      rw [List.size_toArray, ← hl]
      exact Option.some.inj h1
    exact PySem.W.ki_setBack ho (by omega) (by rw [List.size_toArray, ← hl]; exact h3) (by omega) (by rw [hk]; exact ⟨_, I', q⟩)

/-! ### slices -/
theorem slice_bounds (lo hi : Option Int) (n : Nat) : (sliceBounds lo hi none n).1 = ((HT.sIx n 0 lo : Nat) : Int) ∧ (sliceBounds lo hi none n).2.1 = ((HT.sIx n n hi : Nat) : Int) ∧ (sliceBounds lo hi none n).2.2 = 1 := by
  refine ⟨?_, ?_, rfl⟩
  · cases lo with
    | none => simp [sliceBounds, HT.sIx]
    | some i =>
      simp only [sliceBounds, HT.sIx, Option.getD_none, show (1 : Int) > 0 by decide, if_true]
      by_cases h : i < 0
      · simp only [h, if_true] <;> omega
      · simp only [h, if_false] <;> omega
  · cases hi with
    | none => simp [sliceBounds, HT.sIx]
    | some i =>
      simp only [sliceBounds, HT.sIx, Option.getD_none, show (1 : Int) > 0 by decide, if_true]
      by_cases h : i < 0
      · simp only [h, if_true] <;> omega
      · simp only [h, if_false] <;> omega
theorem slicePick_cut (its : List Value) (lo hi : Option Int) : slicePick its.toArray lo hi none = ((its.drop (HT.sIx its.length 0 lo)).take (HT.sIx its.length its.length hi - HT.sIx its.length 0 lo)).toArray := by
  obtain ⟨h1, h2, h3⟩ := slice_bounds lo hi its.toArray.size
  unfold slicePick
  rw [h1, h2, h3]
  simp only [sliceRange_one, pick_run, List.size_toArray] <;> rfl
/-- xs[lo:hi] of a list: a new list -/
def rSlL (K : PySem.W.Frag) : V → Option Int → Option Int → Hp → VK → Prop := fun x lo hi H Q => ∃ a xs, x = .ref a ∧ SqL K H a xs ∧ ∀ p, H p = none → Q (.ref p) (upd H p (.lst (cutV xs lo hi)))
theorem sl_list : SlR X (rSlL X.K) := by
  intro pins s σ H x v vl vu lo hi sl Q I rx hs pl pu h
  obtain ⟨a, xs, rfl, hx, q⟩ := h
  cases rx
  obtain ⟨its, r, ht, hz⟩ := I.list hx
  have hlen := r.length
  refine ⟨"list", _, slot_list_getitem.lookup, ht.isList.typeIs, ?_⟩
  refine wpAny_getItem_list_slice ht.isList hs pl pu .none (by simp) ?_ (by rw [List.size_toArray] <;> omega)
  rw [slicePick_cut, ← hlen]
  refine ⟨.ref s.heap.objs.size, _, I.laid (t' := s.toks) (o := .lst (cutV xs lo hi)) (fun b ob q => Heap.get?_push_of_some _ q) (Nat.le_refl _) ?_, rfl, q _ (I.hok.fresh (Nat.le_refl _))⟩
  exact ⟨Nat.le_trans (cutV_length xs lo hi) hz, _, 0, (r.drop (HT.sIx xs.length 0 lo)).take (HT.sIx xs.length xs.length hi - HT.sIx xs.length 0 lo), Heap.get?_push_size _ rfl⟩

/-! ### in, not in: flat items -/
def flatV : V → Bool
  | .non => true
  | .bl _ => true
  | .int _ => true
  | .str _ => true
  | _ => false
/-- == of flat values -/
def eqV : V → V → Bool
  | .non, .non => true
  | .bl a, .bl b => a == b
  | .bl a, .int b => (if a then 1 else 0) == b
  | .int a, .bl b => a == (if b then 1 else 0)
  | .int a, .int b => a == b
  | .str a, .str b => a == b
  | _, _ => false
theorem eqAt_V {A : Around} {s : Shared} {y x : V} {u v : Value} (ry : RelV y u) (rx : RelV x v) (fy : flatV y = true) (fx : flatV x = true) : SeqAt.EqAt A s u v (eqV y x) := by
  cases y with
  | non =>
    cases ry
    cases x with
    | non => cases rx; exact SeqAt.EqAt.same _
    | bl b => cases rx; exact SeqAt.EqAt.none_bool b
    | int b => obtain ⟨t, rfl⟩ := rx; exact SeqAt.EqAt.none_int b t
    | str b => obtain ⟨t, rfl⟩ := rx; exact SeqAt.EqAt.none_str b t
    | _ => exact absurd (show false = true from fx) Bool.false_ne_true
  | bl a =>
    cases ry
    cases x with
    | non => cases rx; exact SeqAt.EqAt.bool_none a
    | bl b => cases rx; exact SeqAt.EqAt.bool_bool a b
    | int b => obtain ⟨t, rfl⟩ := rx; exact SeqAt.EqAt.bool_int a b t
    | str b => obtain ⟨t, rfl⟩ := rx; exact SeqAt.EqAt.bool_str a b t
    | _ => exact absurd (show false = true from fx) Bool.false_ne_true
  | int a =>
    obtain ⟨t', rfl⟩ := ry
    cases x with
    | non => cases rx; exact SeqAt.EqAt.int_none a t'
    | bl b => cases rx; exact SeqAt.EqAt.int_bool a t' b
    | int b => obtain ⟨t, rfl⟩ := rx; exact SeqAt.EqAt.int_int a t' b t
    | str b => obtain ⟨t, rfl⟩ := rx; exact SeqAt.EqAt.int_str a t' b t
    | _ => exact absurd (show false = true from fx) Bool.false_ne_true
  | str a =>
    obtain ⟨t', rfl⟩ := ry
    cases x with
    | non => cases rx; exact SeqAt.EqAt.str_none a t'
    | bl b => cases rx; exact SeqAt.EqAt.str_bool a t' b
    | int b => obtain ⟨t, rfl⟩ := rx; exact SeqAt.EqAt.str_int a t' b t
    | str b => obtain ⟨t, rfl⟩ := rx; exact SeqAt.EqAt.str_str a t' b t
    | _ => exact absurd (show false = true from fx) Bool.false_ne_true
  | _ => exact absurd (show false = true from fy) Bool.false_ne_true
/-- the items' answers, read off the values (a value's own answer does not lean on its token) -/
def eqU (x : V) (u : Value) : Bool := match u with
  | .none => eqV .non x
  | .bool b => eqV (.bl b) x
  | .int i _ => eqV (.int i) x
  | .str z _ => eqV (.str z) x
  | _ => false
theorem eqU_of {x y : V} {u : Value} (r : RelV y u) (f : flatV y = true) : eqU x u = eqV y x := by
  cases y with
  | non => cases r; rfl
  | bl b => cases r; rfl
  | int i => obtain ⟨t, rfl⟩ := r; rfl
  | str z => obtain ⟨t, rfl⟩ := r; rfl
  | _ => exact absurd (show false = true from f) Bool.false_ne_true
theorem any_eqU {x : V} : ∀ {xs : List V} {us : List Value}, Vals xs us → xs.all flatV = true → us.any (eqU x) = xs.any fun y => eqV y x
  | _, _, .nil, _ => rfl
  | y :: xs, u :: us, .cons r t, f => by
    rw [List.all_cons, Bool.and_eq_true] at f
    rw [List.any_cons, List.any_cons, eqU_of r f.1, any_eqU t f.2]
theorem mem_eqAt {A : Around} {s : Shared} {x : V} {v : Value} (rx : RelV x v) (fx : flatV x = true) : ∀ {xs : List V} {us : List Value}, Vals xs us → xs.all flatV = true → ∀ u ∈ us, SeqAt.EqAt A s u v (eqU x u)
  | _, _, .nil, _ => fun u hu => by cases hu
  | y :: xs, u :: us, .cons r t, f => fun u' hu => by
    rw [List.all_cons, Bool.and_eq_true] at f
    rcases List.mem_cons.mp hu with rfl | hu
    · rw [eqU_of r f.1]; exact eqAt_V r rx f.1 fx
    · exact mem_eqAt rx fx t f.2 u' hu
def inV (x : V) (xs : List V) : Bool := xs.any fun y => eqV y x
/-- x in a list or tuple of flat items -/
def rIn (K : PySem.W.Frag) (neg : Bool) : R2 := fun x y H Q => ∃ p xs, y = .ref p ∧ (SqL K H p xs ∨ SqT K H p xs) ∧ flatV x = true ∧ xs.all flatV = true ∧ Q (.bl (if neg then !inV x xs else inV x xs)) H
theorem op_in_seq : OpR X (compareOp .In) (rIn X.K false) := by
  intro pins s σ H x y v u Q I rx ry h
  obtain ⟨p, xs, rfl, hq, fx, fs, q⟩ := h
  cases ry
  rcases hq with hq | hq
  · obtain ⟨its, r, pl, hz⟩ := I.list hq
    refine SeqAt.in_listAt (eqU x) pl.isList (fun w hw => mem_eqAt rx fx r fs w (by simpa using hw)) ⟨.bl _, H, I, rfl, ?_⟩
    rw [show its.toArray.any (eqU x) = its.any (eqU x) by simp, any_eqU r fs]
    exact q
  · obtain ⟨its, r, pl, hz⟩ := I.tuple hq
    refine SeqAt.in_tupleAt (eqU x) pl (fun w hw => mem_eqAt rx fx r fs w (by simpa using hw)) ⟨.bl _, H, I, rfl, ?_⟩
    rw [show its.toArray.any (eqU x) = its.any (eqU x) by simp, any_eqU r fs]
    exact q
theorem op_notIn_seq : OpR X (compareOp .NotIn) (rIn X.K true) := by
  intro pins s σ H x y v u Q I rx ry h
  obtain ⟨p, xs, rfl, hq, fx, fs, q⟩ := h
  cases ry
  rcases hq with hq | hq
  · obtain ⟨its, r, pl, hz⟩ := I.list hq
    refine SeqAt.notIn_listAt (eqU x) pl.isList (fun w hw => mem_eqAt rx fx r fs w (by simpa using hw)) ⟨.bl _, H, I, rfl, ?_⟩
    rw [show its.toArray.any (eqU x) = its.any (eqU x) by simp, any_eqU r fs]
    exact q
  · obtain ⟨its, r, pl, hz⟩ := I.tuple hq
    refine SeqAt.notIn_tupleAt (eqU x) pl (fun w hw => mem_eqAt rx fx r fs w (by simpa using hw)) ⟨.bl _, H, I, rfl, ?_⟩
    rw [show its.toArray.any (eqU x) = its.any (eqU x) by simp, any_eqU r fs]
    exact q
theorem op_notIn_str : OpR X (compareOp .NotIn) (fun x y H Q => ∃ i j, x = .str i ∧ y = .str j ∧ Q (.bl (!(!(Builtin.Str.occurrences j i 0 j.length 1).isEmpty))) H) := by
  intro pins s σ H x y v u Q I rx ry h
  obtain ⟨i, j, rfl, rfl, q⟩ := h
  obtain ⟨t, rfl⟩ := rx
  obtain ⟨t', rfl⟩ := ry
  exact notIn_str ⟨.bl _, H, I, rfl, q⟩

/-! ### len, list(x), tuple(x) of any list or tuple that is read -/
theorem call_len_seq : CallR X (.builtin "len") (fun xs H Q => ∃ p ys, xs = [.ref p] ∧ (SqL X.K H p ys ∨ SqT X.K H p ys) ∧ Q (.int ys.length) H) := by
  intro pins s σ H xs us Q I r h
  obtain ⟨p, ys, rfl, hq, q⟩ := h
  obtain ⟨u, rfl, rx⟩ := vals1 r
  cases rx
  have hn := line63
  rcases hq with hq | hq
  · obtain ⟨its, r', pl, hz⟩ := I.list hq
    have hlen := r'.length
    exact Calls.call_len_list pl.isList (by simp only [List.size_toArray] <;> omega) ⟨.int ys.length, H, I.tok _, ⟨s.toks + 1, by rw [List.size_toArray, hlen]⟩, q⟩
  · obtain ⟨its, r', pl, hz⟩ := I.tuple hq
    have hlen := r'.length
    exact len_tuple pl (by simp only [List.size_toArray] <;> omega) ⟨.int ys.length, H, I.tok _, ⟨s.toks + 1, by rw [List.size_toArray, hlen]⟩, q⟩
theorem call_len_str : CallR X (.builtin "len") (fun xs H Q => ∃ z, xs = [.str z] ∧ z.length ≤ sizeLine ∧ Q (.int z.length) H) := by
  intro pins s σ H xs us Q I r h
  obtain ⟨z, rfl, hz, q⟩ := h
  obtain ⟨u, rfl, t, rfl⟩ := vals1 r
  have hn := line63
  exact len_str (by omega) ⟨.int z.length, H, I.tok _, ⟨_, rfl⟩, q⟩
theorem CallR.or {f : Value} {r r' : List V → Hp → VK → Prop} (h : CallR X f r) (h' : CallR X f r') : CallR X f (fun xs H Q => r xs H Q ∨ r' xs H Q) := by
  intro pins s σ H xs us Q I rs q
  rcases q with q | q
  · exact h pins s σ H xs us Q I rs q
  · exact h' pins s σ H xs us Q I rs q
theorem call_list_of : CallR X (.type "list") (fun xs H Q => ∃ p ys, xs = [.ref p] ∧ (SqL X.K H p ys ∨ SqT X.K H p ys) ∧ ∀ l, H l = none → Q (.ref l) (upd H l (.lst ys))) := by
  intro pins s σ H xs us Q I r h
  obtain ⟨p, ys, rfl, hq, q⟩ := h
  obtain ⟨u, rfl, rx⟩ := vals1 r
  cases rx
  have fin : ∀ (its : List Value), Vals ys its → ys.length ≤ sizeLine → ∀ (h' : Heap) (c' : Nat), (∀ b o', s.heap.get? b = some o' → h'.get? b = some o') →
      h'.get? s.heap.objs.size = some { cls := .type "list", dict := none, data := .seq its.toArray c', slots := #[] } → EP X pins σ Q (.ref s.heap.objs.size) { s with heap := h' } := fun its r' hz h' c' kp e =>
    ⟨.ref s.heap.objs.size, _, I.laid (t' := s.toks) kp (Nat.le_refl _) (show ObjOk X.prog X.w _ h' _ (.lst ys) from ⟨hz, its, c', r', e⟩), rfl, q _ (I.hok.fresh (Nat.le_refl _))⟩
  rcases hq with hq | hq
  · obtain ⟨its, r', pl, hz⟩ := I.list hq
    have hlen := r'.length
    obtain ⟨o, ho, hc, n, hd⟩ := pl.isList
    exact call_list_seq p (.inl rfl) ho hc hd (fun h' c' kp e => fin its r' hz h' c' kp e) (by simp only [List.size_toArray] <;> omega)
  · obtain ⟨its, r', pl, hz⟩ := I.tuple hq
    have hlen := r'.length
    obtain ⟨o, ho, hc, n, hd⟩ := pl
    exact call_list_seq p (.inr rfl) ho hc hd (fun h' c' kp e => fin its r' hz h' c' kp e) (by simp only [List.size_toArray] <;> omega)
theorem call_tuple_of : CallR X (.type "tuple") (fun xs H Q => ∃ p ys, xs = [.ref p] ∧ ((SqL X.K H p ys ∧ ∀ l, H l = none → Q (.ref l) (upd H l (.tup ys))) ∨ (SqT X.K H p ys ∧ Q (.ref p) H))) := by
  intro pins s σ H xs us Q I r h
  obtain ⟨p, ys, rfl, h⟩ := h
  obtain ⟨u, rfl, rx⟩ := vals1 r
  cases rx
  rcases h with ⟨hq, q⟩ | ⟨hq, q⟩
  · obtain ⟨its, r', pl, hz⟩ := I.list hq
    have hlen := r'.length
    refine call_tuple_list pl.isList (fun h' kp => ?_) (by simp only [List.size_toArray] <;> omega)
    have I1 : Inv X pins σ H { s with heap := h' } := I.kept (t' := s.toks) kp
    have I2 : Inv X pins σ (upd H h'.objs.size (.tup ys)) { s with heap := h'.push { cls := .type "tuple", data := .seq its.toArray } } :=
      I1.laid (t' := s.toks) (fun b o e => Heap.get?_push_of_some _ e) (Nat.le_refl _) (show ObjOk X.prog X.w _ _ _ (.tup ys) from ⟨hz, its, r', IsTup.new _ _⟩)
    exact ⟨.ref h'.objs.size, _, I2, rfl, q _ (I1.hok.fresh (Nat.le_refl _))⟩
  · obtain ⟨its, r', pl, hz⟩ := I.tuple hq
    exact call_tuple_same pl ⟨.ref p, H, I, rfl, q⟩

/-! ### the call of a builtin's method: o.m(..) -/
/-- the value is of that builtin type -/
def tyV (K : PySem.W.Frag) (T : String) (x : V) (H : Hp) : Prop := match x with
  | .str _ => T = "str"
  | .int _ => T = "int"
  | .ref p => (T = "list" ∧ ∃ xs, SqL K H p xs) ∨ (T = "tuple" ∧ ∃ o, K.lookup p = some o ∧ o.cls = .type "tuple" ∧ o.dict = none) ∨
      (T = "dict" ∧ ((∃ kvs, H p = some (.dK kvs)) ∨ ∃ kvs, H p = some (.dT kvs))) ∨ (T = "set" ∧ ∃ S n, H p = some (.set S n))
  | _ => False
theorem tyV_is {pins : List (Addr × Obj)} {σ : St} {H : Hp} {s : Shared} {T : String} {x : V} {v : Value} (I : Inv X pins σ H s) (r : RelV x v) (ty : tyV X.K T x H) :
    s.TypeIs v T ∧ ∀ a, v = .ref a → ∃ ob, s.heap.get? a = some ob ∧ ob.dict = none := by
  cases x with
  | str z =>
    obtain ⟨t, rfl⟩ := r
    cases (show T = "str" from ty)
    exact ⟨typeIs_str s z t, fun _ e => nomatch e⟩
  | int i =>
    obtain ⟨t, rfl⟩ := r
    cases (show T = "int" from ty)
    exact ⟨typeIs_int s i t, fun _ e => nomatch e⟩
  | ref p =>
    cases r
    rcases ty with ⟨rfl, xs, hq⟩ | ⟨rfl, o, hk, hc, hd⟩ | ⟨rfl, hk⟩ | ⟨rfl, S, n, hk⟩
    · obtain ⟨its, _, pl, _⟩ := I.list hq
      refine ⟨pl.isList.typeIs, fun a e => ?_⟩
      cases e
      obtain ⟨o, n, e, c, hd, _⟩ := pl
      exact ⟨o, e, hd⟩
    · refine ⟨⟨o, I.kIn p o hk, hc⟩, fun a e => ?_⟩
      cases e
      exact ⟨o, I.kIn _ o hk, hd⟩
    · have z : ∃ o, s.heap.get? p = some o ∧ o.ExactDict := by
        rcases hk with ⟨kvs, hk⟩ | ⟨kvs, hk⟩
        · obtain ⟨_, _, _, _, o, _, _, e, ex, _⟩ := I.hok p _ hk
          exact ⟨o, e, ex⟩
        · obtain ⟨_, _, _, _, o, _, _, e, ex, _⟩ := I.hok p _ hk
          exact ⟨o, e, ex⟩
      obtain ⟨o, e, ex⟩ := z
      refine ⟨⟨o, e, ex.1⟩, fun a e2 => ?_⟩
      cases e2
      exact ⟨o, e, ex.2.1⟩
    · obtain ⟨o, _, _, _, e, ex, _⟩ := I.hok p _ hk
      refine ⟨⟨o, e, ex.1⟩, fun a e2 => ?_⟩
      cases e2
      exact ⟨o, e, ex.2.1⟩
  | _ => exact False.elim ty
def tBM0 (K : PySem.W.Frag) (T : String) (r : V → List V → Hp → VK → Prop) (to : TE) : TE := fun σ H Q => to σ H fun x H1 => tyV K T x H1 ∧ r x [] H1 Q
def tBM (K : PySem.W.Frag) (T : String) (r : V → List V → Hp → VK → Prop) (to : TE) (t : TA) : TE := fun σ H Q => to σ H fun x H1 => tyV K T x H1 ∧ t σ H1 fun xs H2 => r x xs H2 Q
variable {o e : Expr} {es : List Expr} {to : TE} {t : TA} {name : Str} {apos cpos : Pos} {T id : String} {r : V → List V → Hp → VK → Prop}
theorem pe_bm0 (pa : PlainAttrs T) (slot : Slot T name id) (hty : typeOf (.builtin id) = pure (.type "method_descriptor")) (hm : MtR X id r) (ho : PE X o to)
    (hbase : attributeBase o name X.env (eval o X.env) = eval o X.env := by rfl) (hline : (apos.endLine == cpos.line) = true := by rfl) : PE X (.Call (.Attribute o name apos) [] [] cpos) (tBM0 X.K T r to) := by
  intro pins s σ H Q I h
  refine wpAny_Call_method0_late hbase hline (thn (ho pins s σ H _ I h) fun v s1 ⟨x, H1, I1, r1, ty, q1⟩ => ?_)
  obtain ⟨h1, h2⟩ := tyV_is I1 r1 ty
  exact ⟨T, id, pa, slot, hty, h1, h2, Calls.callWith_builtin rfl (PySem.evalArgs_none (hm pins s1 σ H1 x [] v [] Q I1 r1 .nil q1))⟩
theorem pe_bm (pa : PlainAttrs T) (slot : Slot T name id) (hty : typeOf (.builtin id) = pure (.type "method_descriptor")) (hm : MtR X id r) (ho : PE X o to) (ha : PA X (e :: es) t)
    (hbase : attributeBase o name X.env (eval o X.env) = eval o X.env := by rfl)
    (hfew : ((backTo cpos (starEach (e :: es) X.env)).all (fun x => !x.1) && (backToKw cpos (keywordEach [] X.env)).all (fun x => x.1.isSome)
      && decide ((e :: es).length + ([] : List Keyword).length + (if ([] : List Keyword).isEmpty then 0 else 1) < 30)) = true := by rfl)
    (hline : (apos.endLine == cpos.line) = true := by rfl) (hs : starEach (e :: es) X.env = (false, eval e X.env) :: starEach es X.env := by rfl) (hplain : (backTo cpos (starEach es X.env)).any (·.1) = false := by rfl) :
    PE X (.Call (.Attribute o name apos) (e :: es) [] cpos) (tBM X.K T r to t) := by
  intro pins s σ H Q I h
  refine wpAny_Call_method_late hbase hfew hline rfl (thn (ho pins s σ H _ I h) fun v s1 ⟨x, H1, I1, r1, ty, q1⟩ => ?_)
  obtain ⟨h1, h2⟩ := tyV_is I1 r1 ty
  refine ⟨T, id, pa, slot, hty, h1, h2, ?_⟩
  have hA := ha cpos pins s1 σ H1 _ I1 q1
  rw [hs] at hA ⊢
  refine Calls.callWith_builtin (by show (false || (backTo cpos (starEach es X.env)).any (·.1)) = false; rw [hplain] <;> rfl) (Calls.evalArgs_plain ?_)
  exact thn hA fun us s2 ⟨vs, H2, I2, r2, q2⟩ => hm pins s2 σ H2 x vs v us Q I2 r1 r2 q2
/- xs.append(e), list.index on a module's tuple .. are MtR facts of 06m -/
end
end L2

namespace L2
open PySem PySem.Spec PyProof.Rows

def MtM (X : Cx) (id : String) (r : V → List V → Hp → VK → Prop) : Prop :=
  ∀ (pins : List (Addr × Obj)) (s : Shared) (σ : St) (H : Hp) (x : V) (xs : List V) (v : Value) (us : List Value) (Q : VK), Inv X pins σ H s → RelV x v → Vals xs us → r x xs H Q →
    wpAny (model X.prog X.w) X.A (call (.builtin id) (v :: us)) (EP X pins σ Q) X.xe s

/-! ### lists of values -/
theorem Vals.one : ∀ {x : V} {us : List Value}, Vals [x] us → ∃ u, us = [u] ∧ RelV x u
  | _, _, .cons r .nil => ⟨_, rfl, r⟩
theorem Vals.two : ∀ {x y : V} {us : List Value}, Vals [x, y] us → ∃ u v, us = [u, v] ∧ RelV x u ∧ RelV y v
  | _, _, _, .cons r (.cons q .nil) => ⟨_, _, rfl, r, q⟩
theorem Vals.zero : ∀ {us : List Value}, Vals [] us → us = []
  | _, .nil => rfl
theorem Vals.dropLast {xs : List V} {us : List Value} (h : Vals xs us) : Vals xs.dropLast us.dropLast := by
  induction h with
  | nil => exact .nil
  | cons r t ih =>
    cases t with
    | nil => exact .nil
    | cons q t' => exact .cons r ih
theorem Vals.eraseIdx : ∀ {xs : List V} {us : List Value} (i : Nat), Vals xs us → Vals (xs.eraseIdx i) (us.eraseIdx i)
  | _, _, _, .nil => .nil
  | _, _, 0, .cons _ t => t
  | _, _, i + 1, .cons r t => .cons r (Vals.eraseIdx i t)
theorem Vals.reverse {xs : List V} {us : List Value} (h : Vals xs us) : Vals xs.reverse us.reverse := by
  induction h with
  | nil => exact .nil
  | cons r t ih => rw [List.reverse_cons, List.reverse_cons]; exact Vals.append ih (.cons r .nil)
theorem Vals.rep {xs : List V} {us : List Value} (h : Vals xs us) : ∀ k : Nat, Vals (List.replicate k xs).flatten (List.replicate k us).flatten
  | 0 => .nil
  | k + 1 => by
    rw [List.replicate_succ, List.replicate_succ, List.flatten_cons, List.flatten_cons]
    exact Vals.append h (Vals.rep h k)
theorem erase_last {α : Type} (l : List α) : l.eraseIdx (l.length - 1) = l.dropLast := by
  induction l with
  | nil => rfl
  | cons a r ih =>
    cases r with
    | nil => rfl
    | cons b r =>
      have e : (a :: b :: r).length - 1 = ((b :: r).length - 1) + 1 := by
        have h1 : (a :: b :: r).length = r.length + 2 := rfl
        have h2 : (b :: r).length = r.length + 1 := rfl
        omega
      rw [e, List.eraseIdx_cons_succ, ih]
      all_goals rfl
theorem len_erase {α : Type} : ∀ (l : List α) (i : Nat), (l.eraseIdx i).length ≤ l.length
  | [], _ => Nat.le_refl _
  | _ :: _, 0 => Nat.le_succ _
  | _ :: r, i + 1 => Nat.succ_le_succ (len_erase r i)
theorem foldl_rep (its : List Value) : ∀ (k : Nat) (acc : List Value),
    List.foldl (fun x1 x2 => x1 ++ x2) acc.toArray (List.replicate k its.toArray) = (acc ++ (List.replicate k its).flatten).toArray
  | 0, acc => by simp
  | k + 1, acc => by
    have e : acc.toArray ++ its.toArray = (acc ++ its).toArray := by simp
    have e2 : (acc ++ its) ++ (List.replicate k its).flatten = acc ++ (List.replicate (k + 1) its).flatten := by
      rw [List.replicate_succ, List.flatten_cons, List.append_assoc]
    rw [← e2, ← foldl_rep its k (acc ++ its), ← e, List.replicate_succ, List.foldl_cons]

section
variable {X : Cx} {pins : List (Addr × Obj)} {σ : St} {H : Hp} {s : Shared} {l b : Addr} {xs ys zs : List V}

/-! ### the two steps: a tracked list is rewritten, a new list is laid -/
theorem Inv.lset {its its' : List Value} {n : Nat} {f : Array Value → Array Value} {t' : Nat} (I : Inv X pins σ H s) (hH : H l = some (.lst xs))
    (e : s.heap.get? l = some { cls := .type "list", data := .seq its.toArray n }) (hf : f its.toArray = its'.toArray) (hv : Vals ys its') (hz : ys.length ≤ sizeLine) :
    Inv X pins σ (upd H l (.lst ys)) { s with heap := s.heap.update l (Obj.mapSeq f), toks := t' } := by
  have q := PySem.IsL.update e f
  rw [hf] at q
  refine I.write (x := l) (e := l) (by rw [hH]; exact trivial) (.inl rfl) (fun b' u hb hu => (Heap.get?_update_other s.heap (Obj.mapSeq f) (Ne.symm hb)).trans hu) ⟨_, q⟩ ?_
  exact ⟨hz, its', _, hv, q⟩
theorem Inv.lnew {its : List Value} {t' : Nat} (I : Inv X pins σ H s) (hv : Vals ys its) (hz : ys.length ≤ sizeLine) :
    Inv X pins σ (upd H s.heap.objs.size (.lst ys)) { s with heap := s.heap.push { cls := .type "list", data := .seq its.toArray }, toks := t' } :=
  I.laid (fun _ _ q => Heap.get?_push_of_some _ q) (Nat.le_refl _) ⟨hz, its, 0, hv, Heap.get?_push_size _ rfl⟩
theorem Inv.fresh (I : Inv X pins σ H s) : H s.heap.objs.size = none := I.hok.fresh (Nat.le_refl _)
theorem Inv.lstM (I : Inv X pins σ H s) (hH : H l = some (.lst xs)) : xs.length ≤ sizeLine ∧ ∃ (its : List Value) (n : Nat), Vals xs its ∧ xs.length = its.length ∧ s.heap.get? l = some { cls := .type "list", data := .seq its.toArray n } := by
  obtain ⟨z, its, n, r, e⟩ := I.hok l _ hH
  exact ⟨z, its, n, r, r.length, e⟩

theorem notLongL {n : Nat} (h : n ≤ sizeLine) : Builtin.List.listTooLong n = false := by
  unfold Builtin.List.listTooLong
  exact decide_eq_false (by omega)
end

section
variable {X : Cx}

/-! ### methods -/
def rAppend : V → List V → Hp → VK → Prop := fun x vs H Q => ∃ l xs y, x = .ref l ∧ vs = [y] ∧ H l = some (.lst xs) ∧ xs.length < sizeLine ∧ Q .non (upd H l (.lst (xs ++ [y])))
theorem mt_append : MtM X "list.append" rAppend := by
  intro pins s σ H x vs v us Q I rx rv h
  obtain ⟨l, xs, y, rfl, rfl, hH, hz, q⟩ := h
  cases rx
  obtain ⟨u, rfl, ru⟩ := rv.one
  obtain ⟨z, its, n, r, hl, e⟩ := I.lstM hH
  refine call_meets F.slot_list_append ⟨_, e, rfl⟩ F.entry_list_append (F.args_list_append_2 _ _) (PySem.list_append l its.toArray n u (by rw [List.size_toArray]; omega)) ⟨e, ?_⟩
  refine ⟨.non, _, I.lset (its' := its ++ [u]) hH e (by simp) (r.append (.cons ru .nil)) ?_, rfl, q⟩
  rw [List.length_append, List.length_singleton]
  omega

def rExtend : V → List V → Hp → VK → Prop := fun x vs H Q => ∃ l b xs zs, x = .ref l ∧ vs = [.ref b] ∧ H l = some (.lst xs) ∧ H b = some (.lst zs) ∧ xs.length + zs.length ≤ sizeLine ∧ Q .non (upd H l (.lst (xs ++ zs)))
theorem mt_extend : MtM X "list.extend" rExtend := by
  intro pins s σ H x vs v us Q I rx rv h
  obtain ⟨l, b, xs, zs, rfl, rfl, hH, hB, hz, q⟩ := h
  cases rx
  obtain ⟨u, rfl, ru⟩ := rv.one
  cases ru
  obtain ⟨z, its, n, r, hl, e⟩ := I.lstM hH
  obtain ⟨z2, its2, n2, r2, hl2, e2⟩ := I.lstM hB
  have hsz : its.toArray.size + its2.toArray.size ≤ sizeLine := by rw [List.size_toArray, List.size_toArray]; omega
  have hlong : ¬ (!its.toArray.isEmpty && Builtin.List.listTooLong (its.toArray.size + its2.toArray.size)) = true := by
    rw [notLongL hsz, Bool.and_false]
    exact Bool.false_ne_true
  refine call_meets F.slot_list_extend ⟨_, e, rfl⟩ F.entry_list_extend (F.args_list_extend_2 _ _)
    (AutoSeq1.list_extend_list_list_0 l its.toArray n b its2.toArray n2 hlong (by rw [List.size_toArray]; omega) (by omega)) ⟨e, e2, ?_⟩
  refine ⟨.non, _, I.lset (its' := its ++ its2) hH e (by simp) (r.append r2) ?_, rfl, q⟩
  rw [List.length_append]
  omega

def rPop : V → List V → Hp → VK → Prop := fun x vs H Q => ∃ l xs y, x = .ref l ∧ vs = [] ∧ H l = some (.lst xs) ∧ xs[xs.length - 1]? = some y ∧ Q y (upd H l (.lst xs.dropLast))
theorem mt_pop : MtM X "list.pop" rPop := by
  intro pins s σ H x vs v us Q I rx rv h
  obtain ⟨l, xs, y, rfl, rfl, hH, hy, q⟩ := h
  cases rx
  have hus := rv.zero
  subst hus
  obtain ⟨z, its, n, r, hl, e⟩ := I.lstM hH
  obtain ⟨u, hu, ru⟩ := r.get hy
  have hy' : its.toArray[its.toArray.size - 1]? = some u := by
    show its.toArray[its.length - 1]? = some u
    rw [← Array.getElem?_toList, ← hl]
    exact hu
  refine call_meets F.slot_list_pop ⟨_, e, rfl⟩ F.entry_list_pop (F.args_list_pop_1 _) (MeetsSeq.list_pop_last l its.toArray n u hy' (by rw [List.size_toArray]; omega)) ⟨e, ?_⟩
  refine ⟨y, _, I.lset (its' := its.dropLast) hH e ?_ r.dropLast ?_, ru, q⟩
  · show its.toArray.eraseIdxIfInBounds (its.toArray.size - 1) = its.dropLast.toArray
    rw [List.size_toArray, List.eraseIdxIfInBounds_toArray, erase_last]
  · rw [List.length_dropLast]
    omega

def rPopAt : V → List V → Hp → VK → Prop := fun x vs H Q => ∃ l xs i k y, x = .ref l ∧ vs = [.int i] ∧ H l = some (.lst xs) ∧ -(2 ^ 63) ≤ i ∧ i < 2 ^ 63 ∧ seqIndex? i xs.length = some k ∧ xs[k]? = some y ∧ Q y (upd H l (.lst (xs.eraseIdx k)))
theorem mt_popAt : MtM X "list.pop" rPopAt := by
  intro pins s σ H x vs v us Q I rx rv h
  obtain ⟨l, xs, i, k, y, rfl, rfl, hH, h1, h2, hk, hy, q⟩ := h
  cases rx
  obtain ⟨u, rfl, ru⟩ := rv.one
  obtain ⟨t, rfl⟩ := ru
  obtain ⟨z, its, n, r, hl, e⟩ := I.lstM hH
  obtain ⟨w, hw, rw'⟩ := r.get hy
  refine call_meets F.slot_list_pop ⟨_, e, rfl⟩ F.entry_list_pop (F.args_list_pop_2 _ _)
    (MeetsSeq.list_pop_at l its.toArray n i t k w (fitsIndex_both h1 h2) (by rw [List.size_toArray, ← hl]; exact hk) (by rw [← Array.getElem?_toList]; exact hw) (by rw [List.size_toArray]; omega)) ⟨e, ?_⟩
  refine ⟨y, _, I.lset (its' := its.eraseIdx k) hH e ?_ (r.eraseIdx k) ?_, rw', q⟩
  · show its.toArray.eraseIdxIfInBounds k = (its.eraseIdx k).toArray
    rw [List.eraseIdxIfInBounds_toArray]
  · have := len_erase xs k
    omega

def rReverse : V → List V → Hp → VK → Prop := fun x vs H Q => ∃ l xs, x = .ref l ∧ vs = [] ∧ H l = some (.lst xs) ∧ Q .non (upd H l (.lst xs.reverse))
theorem mt_reverse : MtM X "list.reverse" rReverse := by
  intro pins s σ H x vs v us Q I rx rv h
  obtain ⟨l, xs, rfl, rfl, hH, q⟩ := h
  cases rx
  have hus := rv.zero
  subst hus
  obtain ⟨z, its, n, r, hl, e⟩ := I.lstM hH
  refine call_meets F.slot_list_reverse ⟨_, e, rfl⟩ F.entry_list_reverse (F.args_list_reverse_1 _) (AutoSeq1.list_reverse_list_0 l its.toArray n (by rw [List.size_toArray]; omega)) ⟨e, ?_⟩
  refine ⟨.non, _, I.lset (its' := its.reverse) hH e (by simp) r.reverse ?_, rfl, q⟩
  rw [List.length_reverse]
  omega

def rClear : V → List V → Hp → VK → Prop := fun x vs H Q => ∃ l xs, x = .ref l ∧ vs = [] ∧ H l = some (.lst xs) ∧ Q .non (upd H l (.lst []))
theorem mt_clear : MtM X "list.clear" rClear := by
  intro pins s σ H x vs v us Q I rx rv h
  obtain ⟨l, xs, rfl, rfl, hH, q⟩ := h
  cases rx
  have hus := rv.zero
  subst hus
  obtain ⟨z, its, n, r, hl, e⟩ := I.lstM hH
  refine call_meets F.slot_list_clear ⟨_, e, rfl⟩ F.entry_list_clear (F.args_list_clear_1 _) (AutoSeq1.list_clear_list_0 l its.toArray n (by rw [List.size_toArray]; omega)) ⟨e, ?_⟩
  exact ⟨.non, _, I.lset (its' := []) (ys := []) hH e rfl .nil (Nat.zero_le _), rfl, q⟩

/-! ### list + list, list += list, list * int -/
def rCat : R2 := fun x y H Q => ∃ l b xs zs, x = .ref l ∧ y = .ref b ∧ H l = some (.lst xs) ∧ H b = some (.lst zs) ∧ xs.length + zs.length ≤ sizeLine ∧ ∀ p, H p = none → Q (.ref p) (upd H p (.lst (xs ++ zs)))
theorem op_cat : OpR X (binaryOp .Add) rCat := by
  intro pins s σ H x y v u Q I rx ry h
  obtain ⟨l, b, xs, zs, rfl, rfl, hH, hB, hz, q⟩ := h
  cases rx
  cases ry
  obtain ⟨z, its, n, r, hl, e⟩ := I.lstM hH
  obtain ⟨z2, its2, n2, r2, hl2, e2⟩ := I.lstM hB
  refine PySem.P.add_list e e2 ?_ (by rw [List.size_toArray, List.size_toArray]; omega)
  have ea : its.toArray ++ its2.toArray = (its ++ its2).toArray := by simp
  rw [ea]
  exact ⟨.ref _, _, I.lnew (t' := s.toks) (r.append r2) (by rw [List.length_append]; omega), rfl, q _ I.fresh⟩
/-- a list times an int (a negative one is nothing) -/
def rRep : R2 := fun x y H Q => ∃ l k xs, x = .ref l ∧ y = .int k ∧ H l = some (.lst xs) ∧ -(2 ^ 63) ≤ k ∧ k < 2 ^ 63 ∧ xs.length * k.toNat ≤ sizeLine ∧
  ∀ p, H p = none → Q (.ref p) (upd H p (.lst (List.replicate k.toNat xs).flatten))
theorem len_rep {α : Type} (xs : List α) (k : Nat) : (List.replicate k xs).flatten.length = k * xs.length := by
  induction k with
  | zero => simp
  | succ k ih => rw [List.replicate_succ, List.flatten_cons, List.length_append, ih, Nat.succ_mul, Nat.add_comm]
theorem op_rep : OpR X (binaryOp .Mult) rRep := by
  intro pins s σ H x y v u Q I rx ry h
  obtain ⟨l, k, xs, rfl, rfl, hH, h1, h2, hz, q⟩ := h
  cases rx
  obtain ⟨t, rfl⟩ := ry
  obtain ⟨z, its, n, r, hl, e⟩ := I.lstM hH
  have hlen : its.toArray.size * k.toNat ≤ sizeLine := by rw [List.size_toArray, ← hl]; exact hz
  have hcap : ¬ its.toArray.size * k.toNat > (2 ^ 63 - 1) / 8 := by
    have : (sizeLine : Nat) ≤ (2 ^ 63 - 1) / 8 := by decide
    omega
  have hfit : ¬ (!Builtin.List.listFitsIndex k) = true := by
    rw [fitsIndex_both h1 h2]
    exact Bool.false_ne_true
  have hlong : ¬ Builtin.List.listTooLong (its.toArray.size * k.toNat) = true := by
    rw [notLongL hlen]
    exact Bool.false_ne_true
  have hnew : List.foldl (fun x1 x2 => x1 ++ x2) #[] (List.replicate (if its.toArray.isEmpty = true then 0 else k.toNat) its.toArray) = (List.replicate k.toNat its).flatten.toArray := by
    have f0 : ∀ m : Nat, List.foldl (fun x1 x2 => x1 ++ x2) #[] (List.replicate m its.toArray) = (List.replicate m its).flatten.toArray := fun m => by
      have := foldl_rep its m []
      rw [List.nil_append] at this
      exact this
    rw [f0]
    cases its with
    | nil => simp
    | cons a r' => rw [if_neg (by simp)]
  refine wpAny_binaryOp_repeat_ref (T := "list") (U := "int") (by decide) ⟨_, e, rfl⟩ (fun s' => typeIs_int s' k t) noFill_list_mul F.fills_int_mul F.slot_int_rmul repeat_list F.slot_int_index.lookup
    (call_meets F.slot_int_rmul (typeIs_int s k t) F.entry_int_rmul (F.args_int_rmul_2 _ _) (int___rmul___int_list k t l its.toArray n)
      ⟨e, rfl, ⟨_, e, rfl⟩, call_meets F.slot_list_mul ⟨_, e, rfl⟩ F.entry_list_mul (F.args_list_mul_2 _ _) (AutoListH.list___mul___list_int_3 l its.toArray n k t hfit hcap hlong) ⟨e, ?_⟩⟩)
  rw [hnew]
  exact ⟨.ref _, _, I.lnew (t' := s.toks) (r.rep k.toNat) (by rw [len_rep, Nat.mul_comm]; exact hz), rfl, q _ I.fresh⟩

/-! ### del xs[i] -/
theorem del_list {pins : List (Addr × Obj)} {s : Shared} {σ : St} {H : Hp} {l : Addr} {xs : List V} {i : Int} {t : Tok} {k : Nat} {Q : Unit → Shared → Prop} (I : Inv X pins σ H s) (hH : H l = some (.lst xs))
    (h1 : -(2 ^ 63) ≤ i) (h2 : i < 2 ^ 63) (hk : seqIndex? i xs.length = some k) (h : ∀ s', Inv X pins σ (upd H l (.lst (xs.eraseIdx k))) s' → Q () s') :
    wpAny (model X.prog X.w) X.A (delItem (.ref l) (.int i t)) Q X.xe s := by
  obtain ⟨z, its, n, r, hl, e⟩ := I.lstM hH
  refine PySem.P.delItem_list (k := k) e (fitsIndex_both h1 h2) (by rw [List.size_toArray, ← hl]; exact hk) (h _ ?_) (by rw [List.size_toArray]; omega)
  refine I.lset (its' := its.eraseIdx k) (t' := s.toks) hH e ?_ (r.eraseIdx k) ?_
  · show its.toArray.eraseIdxIfInBounds k = (its.eraseIdx k).toArray
    rw [List.eraseIdxIfInBounds_toArray]
  · have := len_erase xs k
    omega
end

/-! ### xs[a:b] = ys -/
section
variable {prog : Program} {w : World} {A : Around} {E : Value → Shared → Prop} {s : Shared}
theorem splice_eq (its its2 : List Value) (a c : Nat) : its.toArray.extract 0 a ++ its2.toArray ++ its.toArray.extract c its.toArray.size = (its.take a ++ its2 ++ its.drop c).toArray := by
  apply Array.toList_inj.mp
  first
    | (simp
       exact List.take_of_length_le (by simp))
    | simp [List.take_of_length_le]
    | simp
theorem bounds_run {a c n : Nat} (hac : a ≤ c) (hc : c ≤ n) : sliceBounds (some (a : Int)) (some (c : Int)) none n = ((a : Int), (c : Int), 1) := by
  simp only [sliceBounds, Option.getD_none]
  have h1 : ¬ ((a : Int) < 0) := by omega
  have h2 : ¬ ((c : Int) < 0) := by omega
  simp only [h1, h2, if_false, show (1 : Int) > 0 by decide, if_true]
  congr 1
  · omega
  · congr 1; omega
set_option maxRecDepth 100000 in
/-- list.__setitem__ with a slice of step one and another list -/
theorem setItem_slice {l b sl : Addr} {items new : Array Value} {n n2 : Nat} {vl vu : Value} {a c : Nat} {Q : Unit → Shared → Prop}
    (e : s.heap.get? l = some { cls := .type "list", data := .seq items n }) (e2 : s.heap.get? b = some { cls := .type "list", data := .seq new n2 }) (hne : l ≠ b)
    (hs : s.heap.IsSliceOf sl vl vu .none) (pl : IsPart vl (some (a : Int))) (pu : IsPart vu (some (c : Int))) (hac : a ≤ c) (hc : c ≤ items.size)
    (hsz : items.size + new.size ≤ sizeLine) (h : Q () { s with heap := s.heap.update l (Obj.mapSeq fun xs => xs.extract 0 a ++ new ++ xs.extract c xs.size) }) :
    wpAny (model prog w) A (setItem (.ref l) (.ref sl) (.ref b)) Q E s := by
  have hl : s.heap.IsList l items := PySem.IsL.isList e
  have hb : s.heap.IsList b new := PySem.IsL.isList e2
  obtain ⟨os, hos, hcs, hds⟩ := id hs
  have hTs : s.TypeIs (.ref sl) "slice" := ⟨os, hos, hcs⟩
  have hstep : ¬ ((rawPart none == rawInt 0) = true) := Bool.false_ne_true
  have hsame : Builtin.List.listSameRef (.ref l) (.ref b) = false := by
    unfold Builtin.List.listSameRef
    exact beq_eq_false_iff_ne.mpr hne
  have hmax : (max (a : Int) (c : Int)).toNat = c := by omega
  have hz' : ((fun xs : Array Value => xs.extract 0 a ++ new ++ xs.extract c xs.size) items).size ≤ sizeLine + 1 := by
    simp only [Array.size_append, Array.size_extract]
    omega
  unfold setItem
  try with_reducible refine wpAny_holding ?_
  first | refine wpAny_bind (wpAny_pure ?_) | skip
  refine wpAny_bind (wpAny_sequenceKey hl.typeIs (by decide) ?_)
  refine wpAny_bind (wpAny_callSpecial?_slot (name := Str.ofString "__setitem__") hl.typeIs slot_list_setitem
    (wpAny_call_entry slot_list_setitem hl.typeIs entry_list_setitem ?_ (args_list_setitem _ _ _)))
  show wpAny _ _ (Builtin.List.listSubscript? (.ref sl) >>= _) _ _ s
  refine wpAny_bind ?_
  unfold Builtin.List.listSubscript?
  refine wpAny_bind (wpAny_specialOf hTs slice_no_index ?_)
  simp only [Option.isNone_none, if_true]
  refine wpAny_pure ?_
  show wpAny _ _ (typeOf (.ref sl) >>= _) _ _ s
  refine wpAny_bind (wpAny_typeOf hTs ?_)
  first
    | rw [if_neg (by decide)]
    | refine PySem.W.KFB.if_not (by decide) ?_
  rw [listSliceParts_eq]
  refine wpAny_bind (wpAny_bind (wpAny_field hos hds (x := .none) rfl (wpAny_bind (wpAny_listPart .none ?_))))
  rw [if_neg hstep]
  refine wpAny_bind (wpAny_field hos hds (x := vl) rfl (wpAny_bind (wpAny_listPart pl ?_)))
  refine wpAny_bind (wpAny_field hos hds (x := vu) rfl (wpAny_bind (wpAny_listPart pu (wpAny_pure ?_))))
  first
    | simp only [hsame, Bool.false_eq_true, if_false]
    | refine PySem.W.KFB.if_not hsame ?_
    | (dsimp only
       rw [if_neg (by rw [hsame]; exact Bool.false_ne_true)])
  refine wpAny_bind (m := Builtin.List.listAllItems (.ref b) "must assign iterable to extended slice") ?_
  unfold Builtin.List.listAllItems
  refine wpAny_bind (wpAny_typeOf hb.typeIs ?_)
  first
    | refine PySem.W.KFB.if_so (by decide) ?_
    | rw [if_pos (by decide)]
    | simp only [beq_self_eq_true, Bool.true_or, if_true]
  unfold Builtin.List.listItems
  refine wpAny_bind (wpAny_seqItems e2 rfl (wpAny_pure ?_))
  refine wpAny_bind (wpAny_bind (wpAny_seqItems e rfl (wpAny_pure ?_)))
  refine wpAny_bind (wpAny_of_eq ((sliceIndices_raw (some (a : Int)) (some (c : Int)) none items.size (by simp)).trans (congrArg (pure : Int × Int × Int → Sem (Int × Int × Int)) (bounds_run hac hc))) ?_)
  show wpAny _ _ (if ((1 : Int) == 1) = true then _ else _) _ _ s
  rw [if_pos (by decide)]
  refine wpAny_bind (wpAny_rule ?_)
  first
    | simp only [notLongL hsz, Bool.false_eq_true, if_false]
    | refine PySem.W.KFB.if_not (notLongL hsz) ?_
  first | refine wpAny_bind (wpAny_pure ?_) | skip
  show wpAny _ _ (updateSeq l (fun xs => xs.extract 0 ((a : Int)).toNat ++ new ++ xs.extract (max (a : Int) (c : Int)).toNat xs.size) >>= _) _ _ s
  rw [hmax, Int.toNat_natCast]
  refine wpAny_bind (wpAny_updateSeq (hz := Nat.le_trans (Nat.le_add_right _ _) hsz) (_hz' := hz') e rfl ?_)
  refine wpAny_bind (wpAny_letGo ?_)
  first
    | exact wpAny_bind (wpAny_pure (wpAny_pure ⟨.none, rfl, wpAny_pure h⟩))
    | exact wpAny_pure ⟨.none, rfl, wpAny_pure h⟩
end

section
variable {X : Cx}
/-- xs[a:c] = ys of another list, at the value level: sl is the slice object that was just made -/
theorem set_slice {pins : List (Addr × Obj)} {s : Shared} {σ : St} {H : Hp} {l b sl : Addr} {xs ys : List V} {a c : Int} {vl vu : Value} {Q : Unit → Shared → Prop} (I : Inv X pins σ H s)
    (hH : H l = some (.lst xs)) (hB : H b = some (.lst ys)) (hne : l ≠ b) (hs : s.heap.IsSliceOf sl vl vu .none) (ra : RelV (.int a) vl) (rc : RelV (.int c) vu) (h0 : 0 ≤ a) (hac : a ≤ c) (hc : c ≤ xs.length)
    (hz : xs.length + ys.length ≤ sizeLine) (h : ∀ s', Inv X pins σ (upd H l (.lst (xs.take a.toNat ++ ys ++ xs.drop c.toNat))) s' → Q () s') :
    wpAny (model X.prog X.w) X.A (setItem (.ref l) (.ref sl) (.ref b)) Q X.xe s := by
  obtain ⟨ta, rfl⟩ := ra
  obtain ⟨tc, rfl⟩ := rc
  obtain ⟨z, its, n, r, hl, e⟩ := I.lstM hH
  obtain ⟨z2, its2, n2, r2, hl2, e2⟩ := I.lstM hB
  obtain ⟨a', rfl⟩ := Int.eq_ofNat_of_zero_le h0
  obtain ⟨c', rfl⟩ := Int.eq_ofNat_of_zero_le (Int.le_trans h0 hac)
  simp only [Int.toNat_natCast] at h
  refine setItem_slice (a := a') (c := c') e e2 hne hs (.int _ _) (.int _ _) (by omega) (by rw [List.size_toArray]; omega) (by rw [List.size_toArray, List.size_toArray]; omega) (h _ ?_)
  refine I.lset (its' := its.take a' ++ its2 ++ its.drop c') (t' := s.toks) hH e ?_ (Vals.append (Vals.append (r.take _) r2) (r.drop _)) ?_
  · exact splice_eq its its2 a' c'
  · rw [List.length_append, List.length_append, List.length_take, List.length_drop]
    omega
end
end L2

namespace Att
open PySem PySem.W PySem.Calls PyProof.Rows

/-! ### the script -/
theorem ints_of_wellAll {P : Params} {h : Heap} : ∀ (ns : List Int) (vs : List Value), WellAll P h vs (ns.map WData.int) → IntsAre vs ns := by
  intro ns
  induction ns with
  | nil =>
    intro vs w
    rw [List.map_nil] at w
    cases w
    exact .nil
  | cons n ns ih =>
    intro vs w
    rw [List.map_cons] at w
    cases w with
    | cons a b =>
      cases a
      exact .cons _ _ (ih _ b)

theorem script_of {l : OpenLaw} {n : Nat} (hn : l.most = some n) {P : Params} {h : Heap} {args : List WData} {vals : List Value}
    (hpre : l.row.toRowW.claim.pre args = true) (hwl : WellAll P h vals args) :
    ∃ a vs ns, vals = [Value.ref a] ∧ args = [WData.list (ns.map WData.int)] ∧ h.get? a = some { cls := .type "list", data := .seq vs.toArray } ∧ IntsAre vs ns ∧ ns.length ≤ n := by
  have hsh : WShape.hasAll [] args [.list .int] = true := (pre_splitW hpre).1
  have hc : l.pre.holds [] { args := args } = true := (pre_splitW hpre).2
  obtain ⟨d, r, rfl, h1, h2⟩ := hasAllW_cons hsh
  obtain rfl := hasAllW_nil h2
  obtain ⟨xs, rfl, h3⟩ := hasW_list h1
  obtain ⟨ns, rfl⟩ := items_int h3
  have hlen : ns.length ≤ n := by
    unfold OpenLaw.pre at hc
    have h4 : (WTm.not (.lt (.lit (.int (n : Int))) (.len (.arg 0)))).holds [] { args := [.list (ns.map .int)] } = true := by
      have h4 := (holds_andW hc).1
      rw [hn] at h4
      exact h4
    have h5 := condW_of h4 (w_not (w_lt w_lit (w_len_list (w_arg rfl))))
    rw [List.length_map] at h5
    refine Nat.le_of_not_lt fun q => ?_
    have q' : (n : Int) < ((ns.length : Nat) : Int) := by omega
    first
      | (rw [decide_eq_true q'] at h5; exact absurd h5 (by decide))
      | (simp at h5; omega)
  cases hwl with
  | cons w1 w2 =>
    cases w2
    cases w1 with
    | list ho hall => exact ⟨_, _, ns, rfl, rfl, ho, ints_of_wellAll ns _ hall, hlen⟩

theorem post_true (l : OpenLaw) (args : List WData) : l.row.toRowW.claim.post args (.bool true) args = true :=
  postW_of (r := l.row.toRowW) (X := (true == true))
    (show WShape.has [] (.bool true) .bool = true by first | rfl | decide | simp [WShape.has, WShape.arms, WShape.armsAll])
    (show (WTm.eq .res (.lit (.bool true))).value [] { args := args, res := some (.bool true), after := args } = some (.bool (true == true)) from w_eq_bool (w_res rfl) w_lit) rfl

/-! ### the attachment: holds_open's last premise (the goal 'hc' behind k_head) from a wpAny of the law's body -/
theorem attach {l : OpenLaw} {n : Nat} {q : Program} {loose : List Str} {XP : (Str → Option Value) → Heap → Prop} {YP : World → Heap → Prop} {d : DefRec} {x : Str}
    (hn : l.most = some n) (hdf : d.params.defaults = [])
    (hbind : ∀ pm cd doc v : Value, bindArgs (docDef d.name d.params d.body d.scope pm cd doc) ⟨[v], []⟩ = pure [(x, v)])
    (hx : d.scope.names.lookup x = some .local ∨ d.scope.names.lookup x = some .cell)
    (hk : d.scope.kind = .function) (hco : d.scope.isCoroutine = false) (hgen : d.scope.isGenerator = false)
    (body : ∀ (w : World) (s₀ s₁ s : Shared) (mg mb : Str → Option Value) (fa : Addr) (o : Obj) (pm cd doc : Value) (a : Addr) (vs : List Value) (ns : List Int),
      Ground q loose [] XP w s₀ mg mb s₁.heap → YP w s₁.heap →
      s₁.heap.get? fa = some o → o.data = .func (docDef d.name d.params d.body d.scope pm cd doc) → s₁.heap.CodeRec cd d.name → mg d.name = some (.ref fa) →
      s₁.heap.get? a = some { cls := .type "list", data := .seq vs.toArray } → IntsAre vs ns → ns.length ≤ n →
      s.gens = #[] → s.os = s₁.os →
      Fr s₁.heap s₁.heap.objs.size s.heap (bindL (envOfC d.name d.scope s₁.heap.objs.size fa cd).kindOf [(x, .ref a)] fun _ => none) →
      Cl s₁.heap.objs.size (cellsFrom (s₁.heap.objs.size + 1) d.scope.names []) s.heap (bindC (envOfC d.name d.scope s₁.heap.objs.size fa cd).kindOf [(x, .ref a)] fun _ => none) →
      wpAny (model l.prog w) (callerA.deeper (envOfC d.name d.scope s₁.heap.objs.size fa cd)) (execs d.body (envOfC d.name d.scope s₁.heap.objs.size fa cd))
        (fun f s' => f = .ret (.bool true) ∧ OldK s₁.heap s'.heap ∧ s'.os = s₁.os ∧ AllBare s'.gens) (fun _ _ => False) s) :
    WalkO q loose XP YP l.row.toRowW d [] (fun f vs => PySem.call f vs) := by
  intro w s₀ s₁ mg mb G Y fa o pm cd doc dV kV ho hd hcd hD hmg hg args vals as hpre hlay hrd hwl hlo
  obtain rfl : dV = .none := Dflts.none hD hdf
  obtain rfl : kV = .none := Dflts.noKw hD
  obtain ⟨a, vs, ns, rfl, rfl, hobj, hints, hlen⟩ := script_of hn hpre hwl
  refine enter_call ?_
  refine call_cells_ret (o := o) (by rw [depth_caller]; decide) ho (fd_plain hd) G.T.nolimit hcd (hbind pm cd doc (.ref a)) (fun y hy => ?_) (fun h₁ tk F X => ?_) hco hgen hk
  · obtain rfl : y = (x, Value.ref a) := List.mem_singleton.mp hy
    rcases hx with e | e
    · exact .inl e
    · exact .inr ⟨e, cellsFrom_some _ _ _ (.inl e)⟩
  · refine wpAny_mono (body w s₀ s₁ { s₁ with heap := h₁, toks := tk } mg mb fa o pm cd doc a vs ns G Y ho (fd_plain hd) hcd hmg hobj hints hlen hg rfl F X) (fun f s' hq => ?_) (fun _ _ hq => hq)
    obtain ⟨rfl, h2, h3, h4⟩ := hq
    exact ⟨.inl ⟨.bool true, .bool true, [], rfl, fun _ => rfl, .bool true, post_true l _, fun _ => ⟨List.Pairwise.nil, fun _ hm => (nomatch hm)⟩⟩, h2, h3, h4⟩

/-- the same from a codeAny of the CALL (for a layer whose function contracts speak of calls) -/
theorem attach_call {l : OpenLaw} {n : Nat} {q : Program} {loose : List Str} {XP : (Str → Option Value) → Heap → Prop} {YP : World → Heap → Prop} {d : DefRec}
    (hn : l.most = some n) (hdf : d.params.defaults = [])
    (call : ∀ (w : World) (s₀ s₁ : Shared) (mg mb : Str → Option Value) (fa : Addr) (o : Obj) (pm cd doc : Value) (a : Addr) (vs : List Value) (ns : List Int),
      Ground q loose [] XP w s₀ mg mb s₁.heap → YP w s₁.heap →
      s₁.heap.get? fa = some o → o.data = .func (docDef d.name d.params d.body d.scope pm cd doc) → s₁.heap.CodeRec cd d.name → mg d.name = some (.ref fa) →
      s₁.heap.get? a = some { cls := .type "list", data := .seq vs.toArray } → IntsAre vs ns → ns.length ≤ n → s₁.gens = #[] →
      codeAny (model l.prog w) callerA (.call (.ref fa) ⟨[.ref a], []⟩) (fun r s' => r = .ok (.ret (.bool true)) ∧ OldK s₁.heap s'.heap ∧ s'.os = s₁.os ∧ AllBare s'.gens) s₁) :
    WalkO q loose XP YP l.row.toRowW d [] (fun f vs => PySem.call f vs) := by
  intro w s₀ s₁ mg mb G Y fa o pm cd doc dV kV ho hd hcd hD hmg hg args vals as hpre hlay hrd hwl hlo
  obtain rfl : dV = .none := Dflts.none hD hdf
  obtain rfl : kV = .none := Dflts.noKw hD
  obtain ⟨a, vs, ns, rfl, rfl, hobj, hints, hlen⟩ := script_of hn hpre hwl
  refine enter_call (codeAny_mono (call w s₀ s₁ mg mb fa o pm cd doc a vs ns G Y ho (fd_plain hd) hcd hmg hobj hints hlen hg) fun r s' hq => ?_)
  obtain ⟨rfl, h2, h3, h4⟩ := hq
  exact ⟨.inl ⟨.bool true, .bool true, [], rfl, fun _ => rfl, .bool true, post_true l _, fun _ => ⟨List.Pairwise.nil, fun _ hm => (nomatch hm)⟩⟩, h2, h3, h4⟩

/-- the same where the top left finished generators (o_head chose holds_openN): nothing may have changed at all and no generator may be left -/
theorem attachN {l : OpenLaw} {n : Nat} {q : Program} {loose : List Str} {XP : (Str → Option Value) → Heap → Prop} {YP : World → Heap → Prop} {d : DefRec} {x : Str}
    (hn : l.most = some n) (hdf : d.params.defaults = [])
    (hbind : ∀ pm cd doc v : Value, bindArgs (docDef d.name d.params d.body d.scope pm cd doc) ⟨[v], []⟩ = pure [(x, v)])
    (hx : d.scope.names.lookup x = some .local ∨ d.scope.names.lookup x = some .cell)
    (hk : d.scope.kind = .function) (hco : d.scope.isCoroutine = false) (hgen : d.scope.isGenerator = false)
    (body : ∀ (w : World) (s₀ s₁ s : Shared) (mg mb : Str → Option Value) (fa : Addr) (o : Obj) (pm cd doc : Value) (a : Addr) (vs : List Value) (ns : List Int),
      Ground q loose [] XP w s₀ mg mb s₁.heap → YP w s₁.heap →
      s₁.heap.get? fa = some o → o.data = .func (docDef d.name d.params d.body d.scope pm cd doc) → s₁.heap.CodeRec cd d.name → mg d.name = some (.ref fa) →
      s₁.heap.get? a = some { cls := .type "list", data := .seq vs.toArray } → IntsAre vs ns → ns.length ≤ n →
      s.gens = #[] → s.os = s₁.os →
      Fr s₁.heap s₁.heap.objs.size s.heap (bindL (envOfC d.name d.scope s₁.heap.objs.size fa cd).kindOf [(x, .ref a)] fun _ => none) →
      Cl s₁.heap.objs.size (cellsFrom (s₁.heap.objs.size + 1) d.scope.names []) s.heap (bindC (envOfC d.name d.scope s₁.heap.objs.size fa cd).kindOf [(x, .ref a)] fun _ => none) →
      wpAny (model l.prog w) (callerA.deeper (envOfC d.name d.scope s₁.heap.objs.size fa cd)) (execs d.body (envOfC d.name d.scope s₁.heap.objs.size fa cd))
        (fun f s' => f = .ret (.bool true) ∧ (∀ b o, s₁.heap.get? b = some o → s'.heap.get? b = some o) ∧ s'.os = s₁.os ∧ s'.gens = #[]) (fun _ _ => False) s) :
    WalkN q loose XP YP l.row.toRowW d [] (fun f vs => PySem.call f vs) := by
  intro w s₀ s₁ mg mb G Y fa o pm cd doc dV kV ho hd hcd hD hmg hg args vals as hpre hlay hrd hwl hlo
  obtain rfl : dV = .none := Dflts.none hD hdf
  obtain rfl : kV = .none := Dflts.noKw hD
  obtain ⟨a, vs, ns, rfl, rfl, hobj, hints, hlen⟩ := script_of hn hpre hwl
  refine enter_callW ?_
  refine call_cells_ret (o := o) (by rw [depth_caller]; decide) ho (fd_plain hd) G.T.nolimit hcd (hbind pm cd doc (.ref a)) (fun y hy => ?_) (fun h₁ tk F X => ?_) hco hgen hk
  · obtain rfl : y = (x, Value.ref a) := List.mem_singleton.mp hy
    rcases hx with e | e
    · exact .inl e
    · exact .inr ⟨e, cellsFrom_some _ _ _ (.inl e)⟩
  · refine wpAny_mono (body w s₀ s₁ { s₁ with heap := h₁, toks := tk } mg mb fa o pm cd doc a vs ns G Y ho (fd_plain hd) hcd hmg hobj hints hlen hg rfl F X) (fun f s' hq => ?_) (fun _ _ hq => hq)
    obtain ⟨rfl, h2, h3, h4⟩ := hq
    exact ⟨.inl ⟨.bool true, .bool true, [], rfl, fun _ => rfl, .bool true, post_true l _, fun _ => ⟨List.Pairwise.nil, fun _ hm => (nomatch hm)⟩⟩, h2, h3, h4⟩

/-! ### rules over ANY heap (no ledger) from facts about the written part K: the library's own take a ledger (News) for what they write -/
section
variable {prog : Program} {w : World} {A : Around} {E : Value → Shared → Prop} {s : Shared} {K : Frag}

/-- a def of the module, or a method (qual 'C.m'), entered: the frame is the next address; cells behind it -/
theorem call_fn {R : Result → Shared → Prop} {name qual : Str} {params : Arguments} {body : List Stmt} {scope : Scope} {dV kV doc pm cdv ct oc : Value} {an od : Option Addr} {osl : Array (Option Value)} {f : Addr} {args : Args} {binds : List (Str × Value)}
    (X : K.In s.heap) (hlim : s.heap.NoLimit) (ho : K.lookup f = some ⟨oc, od, .func (fnOf name qual params body scope dV kV doc pm an cdv ct), osl⟩) (hcd : codeIn K cdv qual = true) (hroom : A.depth < recursionLimit)
    (hbind : BindsTo s (fnOf name qual params body scope dV kV doc pm an cdv ct) args binds)
    (hkind : (binds.all fun y => scope.names.lookup y.1 == some .local || scope.names.lookup y.1 == some .cell) = true)
    (h : ∀ s₁, InCallC s s.heap.objs.size (bindL (envOfC qual scope s.heap.objs.size f cdv).kindOf binds fun _ => none) (cellsFrom (s.heap.objs.size + 1) scope.names [])
        (bindC (envOfC qual scope s.heap.objs.size f cdv).kindOf binds fun _ => none) s₁ →
      wpAny (model prog w) (A.deeper (envOfC qual scope s.heap.objs.size f cdv)) (execs body (envOfC qual scope s.heap.objs.size f cdv))
        (fun fl s' => R (.ok (.ret (match fl with | .ret v => v | _ => .none))) s')
        (fun e s' => wpAny (model prog w) (A.deeper (envOfC qual scope s.heap.objs.size f cdv)) (leaving (envOfC qual scope s.heap.objs.size f cdv) e) (fun _ s'' => R (.error e) s'') (fun e' s'' => R (.error e') s'') s') s₁)
    (hco : scope.isCoroutine = false) (hgen : scope.isGenerator = false) (hk : scope.kind = .function) : codeAny (model prog w) A (.call (.ref f) args) R s := by
  refine codeAny_call_function hroom (X _ _ ho) rfl hco hgen rfl (codeRec_of X hcd) (hbind _ _ _ _ ?_)
  refine wpAny_newFunctionEnv_cells hk (kindsX hkind _) fun env he s₁ x => ?_
  subst he
  exact ⟨hlim.keeps x.toInCall.keep, codeAny_func (h s₁ x)⟩

/-- C(..): dict at size, instance at size + 1, then __init__ -/
theorem make_obj {R : Result → Shared → Prop} {C fI : Addr} {rest : List Value} {kw : List (Str × Value)}
    (X : K.In s.heap) (hm : makesIn K C = true) (hi : findIn K (.ref C) "__init__" = some (some (.ref fI))) (hf : isFn K (.ref fI) = true)
    (h : codeAny (model prog w) (A.under (.builtin "type.__call__" ⟨.ref C :: rest, kw⟩)) (.call (.ref fI) ⟨.ref (s.heap.objs.size + 1) :: rest, kw⟩) (InitBack (s.heap.objs.size + 1) R)
      { s with heap := (s.heap.push emptyDict).push (instObj C s.heap.objs.size) }) : codeAny (model prog w) A (.call (.ref C) ⟨rest, kw⟩) R s := by
  obtain ⟨hh, g, d, t, os⟩ := s
  exact make_core (makes_of X hm) (looks_findIn X hi) (fun self => bind_fn X self (beq_iff_eq.mp hf)) (.inl rfl) h

/-- x.name where the instance's dict holds the name and the class does not -/
theorem get_field {x C : Addr} {ox : Obj} {es : List DictEntry} {n : Nat} {name : Str} {expr : Bool} {v : Value} {Q : Value → Shared → Prop}
    (X : K.In s.heap) (I : PySem.W.InstAt s.heap x ox C (some (dictOf es n))) (hg : plainGet K C name = true) (hh : hasDictIn K C = true) (ha : findIn K (.ref C) name = some none)
    (hl : getL name es = some (some v)) (hv : handedIn v = true) (h : Q v { s with toks := s.toks + 1 }) : wpAny (model prog w) A (getAttr (.ref x) name expr) Q E s :=
  get_value X I (plainGet_of hg).1 (findObj_own hh ha rfl hl) hv h

/-- x.m(..): the method found in the class -/
theorem get_method {x C f : Addr} {ox : Obj} {es : List DictEntry} {n : Nat} {name : Str} {pl : Sem Bool} {Q : Value × List Value → Shared → Prop}
    (X : K.In s.heap) (I : PySem.W.InstAt s.heap x ox C (some (dictOf es n))) (hg : plainGet K C name = true) (hf : findIn K (.ref C) name = some (some (.ref f))) (ht : isFn K (.ref f) = true)
    (hl : getL name es = some none) (h : Q (.ref f, [.ref x]) s) : wpAny (model prog w) A (getMethod (.ref x) name pl) Q E s :=
  method_fn X I (plainGet_of hg).1 (plainGet_of hg).2 hf (beq_iff_eq.mp ht) (by show (lookIn name (dictOf es n)).map _ = _; rw [lookIn_dict, hl]; rfl) h

/-! the whole heap as the ledger: makes every rule that writes through a ledger a rule over any heap -/
def noObjs (h : Heap) : Heap := { h with objs := #[] }
theorem noObjs_get (h : Heap) (b : Addr) : (noObjs h).get? b = none := by
  cases e : (noObjs h).get? b with
  | none => rfl
  | some o => exact absurd (Heap.lt_size e) (Nat.not_lt_zero _)
def ledger (h : Heap) (L d : Addr) : List (Addr × Obj) := (List.range h.objs.size).filterMap fun a => if a = L ∨ a = d then none else (h.get? a).map fun o => (a, o)
theorem mem_ledger {h : Heap} {L d a : Addr} {o : Obj} : (a, o) ∈ ledger h L d ↔ a ≠ L ∧ a ≠ d ∧ h.get? a = some o := by
  unfold ledger
  rw [List.mem_filterMap]
  constructor
  · rintro ⟨b, _, e⟩
    split at e
    · cases e
    · rename_i hb
      obtain ⟨o', ho, e'⟩ := Option.map_eq_some_iff.mp e
      cases e'
      exact ⟨fun q => hb (.inl q), fun q => hb (.inr q), ho⟩
  · rintro ⟨n1, n2, ho⟩
    refine ⟨a, List.mem_range.mpr (Heap.lt_size ho), ?_⟩
    rw [if_neg (show ¬ (a = L ∨ a = d) from fun q => q.elim n1 n2), ho] <;> rfl
theorem news_ledger {h : Heap} {L d : Addr} {od : Obj} (hne : d ≠ L) (ho : h.get? d = some od) : News (noObjs h) L h ([] ++ (d, od) :: ledger h L d) := by
  rintro ⟨a, o⟩ hp
  rcases List.mem_cons.mp hp with e | hp
  · cases e
    exact ⟨ho, hne, noObjs_get _ _⟩
  · obtain ⟨n1, n2, e⟩ := mem_ledger.mp hp
    exact ⟨e, n1, noObjs_get _ _⟩
theorem fr_all {h : Heap} {L : Addr} {m : Str → Option Value} (n : h.Ns L m) : Fr (noObjs h) L h m :=
  ⟨n, fun b o e => (by rw [noObjs_get] at e; cases e), Nat.zero_le _⟩
/-- Upd of the head entry (for append_K, setItem_K ..) -/
theorem upd_ledger {h : Heap} {L d : Addr} {o o' : Obj} : Upd d o o' ((d, o) :: ledger h L d) ((d, o') :: ledger h L d) :=
  .head fun ⟨_, _⟩ hp => (mem_ledger.mp hp).2.1

/-- x.name = v over any heap: L is any namespace of the heap (the frame's, say): its map stays, its object is not told; all else but the dict stays -/
theorem set_field {x C dx L : Addr} {ox : Obj} {m : Str → Option Value} {es es' : List DictEntry} {n n' : Nat} {name : Str} {v : Value} {Q : Unit → Shared → Prop}
    (X : K.In s.heap) (I : PySem.W.InstAt s.heap x ox C (some (dictOf es n))) (hd : ox.dict = some dx) (hL : s.heap.Ns L m) (hne : dx ≠ L)
    (hs : findIn K (.ref C) "__setattr__" = some (some (.builtin "object.__setattr__"))) (hp : plainOver K C = true) (ht : takerIn K C name = some none) (hh : hasDictIn K C = true) (hl : (getL name es).isSome = true)
    (e : (putL name (PyData.keyHash w.params name) (.str name (s.toks + 1)) v es, putN name es n) = (es', n')) (hz : es'.length ≤ 1000)
    (h : ∀ h' : Heap, h'.Ns L m → h'.get? dx = some (dictOf es' n') → (∀ b o, b ≠ dx → b ≠ L → s.heap.get? b = some o → h'.get? b = some o) → Q () { s with heap := h', toks := s.toks + 2 }) :
    wpAny (model prog w) A (setAttr (.ref x) name v) Q E s := by
  obtain ⟨e1, e2⟩ := Prod.mk.inj e
  have hdx : s.heap.get? dx = some (dictOf es n) := by
    have := I.dict
    rw [hd] at this
    exact this
  refine set_plain X I hs (osa_dict (s := { s with toks := s.toks + 1 }) (h₀ := noObjs s.heap) (L := L) (m := m) (od := dictOf es n) (od' := dictOf es' n') (es := es') (n := n') (pre := []) (post := ledger s.heap L dx)
    (fr_all hL) (news_ledger hne hdx) X I hd hp ht hh hl (fun _ q => nomatch q) (fun ⟨_, _⟩ q => (mem_ledger.mp q).2.1) (by rw [putName_dict, e1, e2]) rfl hz fun h' F' N' => ?_)
  exact h h' F'.ns (N'.get (List.Mem.head _)) fun b o n1 n2 ho => N'.get (List.Mem.tail _ (mem_ledger.mpr ⟨n2, n1, ho⟩))
end
end Att

namespace L2
open PySem PySem.Spec PyProof.Rows

theorem vals_ints : ∀ {vs : List Value} {ns : List Int}, IntsAre vs ns → Vals (ns.map V.int) vs
  | _, _, .nil => .nil
  | _, _, .cons n t h => .cons ⟨t, rfl⟩ (vals_ints h)

/-- nothing is tracked but the script, known to the object (or it is an object of the module) -/
def Only (H : Hp) : Prop := ∀ b, H b = none ∨ ∃ o xs, H b = some (.frz o (.lst xs))

/-- THE HEAD: the law's promise, at the heap behind the top. F, the promise of the law's def, may use that base is part of the heap (so K.In base, base.Ns mainGlobals mg stand in Mod) -/
theorem law_call {P : Program} {w : World} {K : PySem.W.Frag} {mg mb : Str → Option Value} {CX : CXT} {k : Nat} {fa a : Addr} {fd : FuncData} {x : Str} {sp : Sp} {s₁ : Shared} {vs : List Value} {ns : List Int}
    (KX : K.In s₁.heap) (hns : s₁.heap.Ns mainGlobals mg) (hb : s₁.heap.Ns builtinsNs mb) (hbb : ∀ x : Str, x ≠ "__name__" → mb x = bootBuiltins x) (hlim : s₁.heap.NoLimit) (hg : s₁.gens = #[])
    (ha : s₁.heap.get? a = some { cls := .type "list", data := .seq vs.toArray }) (hi : IntsAre vs ns) (hl : ns.length ≤ sizeLine) (hr : Room k callerA)
    (F : ∀ base : Heap, K.In base → base.Ns mainGlobals mg → FnOk P w K mg base CX k fa fd [x] sp) (hbind : ∀ (s : Shared) (u : Value), BindsTo s fd ⟨[u], []⟩ [(x, u)])
    (hsp : ∀ H : Hp, Only H → SqL K H a (ns.map V.int) → sp [.ref a] H (fun v _ => v = .bl true) fun _ _ _ => False)
    (hCX : ∀ H e s', CX [] H s₁ (fun _ _ _ => False) e s' → False) :
    codeAny (model P w) callerA (.call (.ref fa) ⟨[.ref a], []⟩) (fun r s' => r = .ok (.ret (.bool true)) ∧ OldK s₁.heap s'.heap ∧ s'.os = s₁.os ∧ AllBare s'.gens) s₁ := by
  have rv := vals_ints hi
  have lenV := hi.length
  -- from an abstract heap in which nothing but the script may be tracked
  have core : ∀ H : Hp, Only H → SqL K H a (ns.map V.int) → HOk P w H s₁.heap → (∀ b, H b ≠ none → b = a) → (H a ≠ none → K.lookup a = none) →
      codeAny (model P w) callerA (.call (.ref fa) ⟨[.ref a], []⟩) (fun r s' => r = .ok (.ret (.bool true)) ∧ OldK s₁.heap s'.heap ∧ s'.os = s₁.os ∧ AllBare s'.gens) s₁ := by
    intro H hO hS hok hA hK
    have base_of : ∀ {b : Addr} {o : Obj}, s₁.heap.get? b = some o → H b = none → (hidT s₁.heap H).get? b = some o := fun e n => hidT_get e n
    have noA : ∀ {b : Addr} {o : Obj} {es : Array DictEntry} {ep : Nat}, s₁.heap.get? b = some o → o.data = .dict es ep → H b = none := fun {b o es ep} e d => by
      cases q : H b with
      | none => rfl
      | some u =>
        have e' : b = a := hA b (by rw [q]; simp)
        subst e'
        rw [ha] at e; cases e
        have d' : Data.seq vs.toArray _ = Data.dict es ep := d
        cases d'
    have nsK : ∀ {b : Addr} {m : Str → Option Value}, s₁.heap.Ns b m → (hidT s₁.heap H).Ns b m := fun {b m} ⟨o, es, ep, e, d, r⟩ => ⟨o, es, ep, base_of e (noA e d), d, r⟩
    have hKb : K.In (hidT s₁.heap H) := fun b o e => base_of (KX b o e) (by
      cases q : H b with
      | none => rfl
      | some u =>
        have e' : b = a := hA b (by rw [q]; simp)
        subst e'
        rw [hK (by rw [q]; simp)] at e; cases e)
    have hM : Mod K mg (hidT s₁.heap H) := ⟨hKb, nsK hns, ⟨mb, nsK hb, hbb⟩, let ⟨mc, h1, h2⟩ := hlim; ⟨mc, nsK h1, h2⟩⟩
    have e0 : Env0 P w K mg (hidT s₁.heap H) callerA [] s₁ H := ⟨rfl, hM, fun b o e => of_hidT e, Nat.le_of_eq (hidT_size _ _), trivial, fun b hb => absurd (show b ∈ ([] : List Addr) from hb) (by simp), hok, .of_eq hg⟩
    refine codeAny_mono ((F _ hKb (nsK hns)).run callerA [] s₁ H ⟨[.ref a], []⟩ [.ref a] [.ref a] _ _ hr e0 (hbind s₁ (.ref a)) (.cons rfl .nil) (hsp H hO hS)) fun r s' h => ?_
    cases r with
    | error e => exact (hCX H e s' h).elim
    | ok fl =>
      cases fl with
      | next => exact False.elim h
      | brk => exact False.elim h
      | cont => exact False.elim h
      | ret u =>
        obtain ⟨v, H', os, bare, un, hok', r', q⟩ := h
        have q' : v = .bl true := q
        subst q'
        obtain rfl : u = Value.bool true := r'
        refine ⟨rfl, OldK.of_keep fun b o e => ?_, os, bare⟩
        cases q : H b with
        | none => exact un.keep b o e q (by intro z; exact absurd (show b ∈ ([] : List Addr) from z) (by simp)) (by simp)
        | some u =>
          rcases hO b with z | ⟨ob, xs, z⟩
          · rw [q] at z; cases z
          · have z2 := un.frzs b ob _ z
            obtain ⟨e1, _⟩ := hok b _ z
            obtain ⟨e2, _⟩ := hok' b _ z2
            rw [e] at e1; cases e1
            exact e2
  cases hk : K.lookup a with
  | some o =>
    -- the script is one of the module's own objects
    have e := KX a o hk
    rw [ha] at e
    cases e
    refine core (fun _ => none) (fun _ => .inl rfl) (.inr ⟨_, vs.toArray, _, hk, rfl, rfl, rfl, by rw [List.size_toArray, lenV]; exact hl, by simpa using rv⟩) (fun b u z => by have z' : (none : Option HO) = some u := z; cases z') (fun b z => absurd rfl z) fun z => absurd rfl z
  | none =>
    refine core (fun b => if b = a then some (.frz { cls := .type "list", data := .seq vs.toArray } (.lst (ns.map V.int))) else none) (fun b => ?_) (.inl (.inr ⟨{ cls := .type "list", data := .seq vs.toArray }, if_pos rfl⟩)) (fun b u z => ?_) (fun b z => ?_) fun _ => hk
    · by_cases hb : b = a
      · exact .inr ⟨_, _, if_pos hb⟩
      · exact .inl (if_neg hb)
    · by_cases hb : b = a
      · have z' := (if_pos hb).symm.trans z
        cases z'
        subst hb
        exact ⟨ha, by rw [List.length_map]; exact hl, vs, _, rv, ha⟩
      · have z' := (if_neg hb).symm.trans z
        cases z'
    · by_cases hb : b = a
      · exact hb
      · exact absurd (if_neg hb) z
end L2

namespace L2
open PySem PySem.Spec PyProof.Rows

abbrev KOf {K : PySem.W.Frag} {h : Heap} (_ : K.In h) : PySem.W.Frag := K

/-- the goal that k_head leaves (case hc), from the law's promise. F gives the function object fd (K's own) once, then the promise over every base -/
theorem walk_of {l : PySem.W.OpenLaw} {n k : Nat} {q : Program} {loose : List Str} {XP : (Str → Option Value) → Heap → Prop} {YP : World → Heap → Prop} {d : DefRec} {K : Params → PySem.W.Frag} {CX : World → CXT} {sp : World → Sp} {x : Str}
    (hn : l.most = some n) (hn2 : n ≤ sizeLine) (hdf : d.params.defaults = []) (hr : Room k callerA)
    (hY : ∀ (w : World) (h : Heap), YP w h → (K w.params).In h)
    (F : ∀ (w : World) (mg : Str → Option Value) (fa : Addr) (h : Heap), (K w.params).In h → h.Ns mainGlobals mg → mg d.name = some (.ref fa) →
      ∃ fd : FuncData, (∀ (s : Shared) (u : Value), BindsTo s fd ⟨[u], []⟩ [(x, u)]) ∧
        ∀ base : Heap, (K w.params).In base → base.Ns mainGlobals mg → FnOk l.prog w (K w.params) mg base (CX w) k fa fd [x] (sp w))
    (hsp : ∀ (w : World) (H : Hp) (a : Addr) (ns : List Int), ns.length ≤ n → Only H → SqL (K w.params) H a (ns.map V.int) → sp w [.ref a] H (fun v _ => v = .bl true) fun _ _ _ => False)
    (hCX : ∀ (w : World) (H : Hp) (s : Shared) (e : Value) (s' : Shared), CX w [] H s (fun _ _ _ => False) e s' → False) :
    PySem.W.WalkO q loose XP YP l.row.toRowW d [] (fun f vs => PySem.call f vs) := by
  refine Att.attach_call hn hdf fun w s₀ s₁ mg mb fa o pm cd doc a vs ns G Y ho hd hcd hmg hobj hints hlen hg => ?_
  have KX := hY w _ Y
  obtain ⟨fd, hb, hF⟩ := F w mg fa _ KX G.T.g hmg
  exact law_call KX G.T.g G.T.b G.T.builtins G.T.nolimit hg hobj hints (Nat.le_trans hlen hn2) hr hF hb (fun H hO hS => hsp w H a ns hlen hO hS) fun H e s' => hCX w H s₁ e s'
/-- the same where the promise hangs on the written part alone: (sp := My.sp_law), no hole under a binder -/
theorem walk_ofK {l : PySem.W.OpenLaw} {n k : Nat} {q : Program} {loose : List Str} {XP : (Str → Option Value) → Heap → Prop} {YP : World → Heap → Prop} {d : DefRec} {K : Params → PySem.W.Frag} {CX : CXT} {sp : PySem.W.Frag → Sp} {x : Str}
    (hn : l.most = some n) (hn2 : n ≤ sizeLine) (hdf : d.params.defaults = []) (hr : Room k callerA)
    (hY : ∀ (w : World) (h : Heap), YP w h → (K w.params).In h)
    (F : ∀ (w : World) (mg : Str → Option Value) (fa : Addr) (h : Heap), (K w.params).In h → h.Ns mainGlobals mg → mg d.name = some (.ref fa) →
      ∃ fd : FuncData, (∀ (s : Shared) (u : Value), BindsTo s fd ⟨[u], []⟩ [(x, u)]) ∧
        ∀ base : Heap, (K w.params).In base → base.Ns mainGlobals mg → FnOk l.prog w (K w.params) mg base CX k fa fd [x] (sp (K w.params)))
    (hsp : ∀ (K : PySem.W.Frag) (H : Hp) (a : Addr) (ns : List Int), ns.length ≤ n → Only H → SqL K H a (ns.map V.int) → sp K [.ref a] H (fun v _ => v = .bl true) fun _ _ _ => False)
    (hCX : ∀ (H : Hp) (s : Shared) (e : Value) (s' : Shared), CX [] H s (fun _ _ _ => False) e s' → False) :
    PySem.W.WalkO q loose XP YP l.row.toRowW d [] (fun f vs => PySem.call f vs) :=
  walk_of (K := K) (CX := fun _ => CX) (sp := fun w => sp (K w.params)) hn hn2 hdf hr hY F (fun w H a ns h1 h2 h3 => hsp (K w.params) H a ns h1 h2 h3) fun _ H s e s' => hCX H s e s'
end L2

/- THE LAST THEOREM (shape; LID, My.* are yours):
   My.Adr: a structure of the addresses that your layer names (classes, functions); My.Txt K t: a structure (Prop) of the equations over K;
   My.txt_mk : {K} {implicit addresses ..} (e1 : nsIn K mainGlobals "law" = some (some (.ref f))) (e2 : K.lookup f = some ⟨oc, od, .func (fnOf "law" "law" params body scope dV kV doc pm an cdv ct), sl⟩) (e3 : codeIn K cdv "law" = true) .. : ∃ t, My.Txt K t

set_option maxRecDepth 100000 in
set_option maxHeartbeats 0 in
theorem PySem.Challenge.cw_LID_holds : PySem.Challenge.rw_LID.Holds := by
  w_on; o_law; k_head; (case hw => w_witness2)
  k_fill
  refine L2.walk_of (l := PySem.Challenge.rw_LID) (n := 63) (k := 40) (x := "script") (CX := fun w => ..) (sp := fun _ => My.sp_law) rfl (by decide) rfl ⟨rfl, by decide, by decide⟩ (fun w h Y => PySem.W.kIn_of Y) ?F ?S ?C
  case F =>
    intro w mg fa h KX G hmg
    have T : ∃ t, My.Txt (L2.KOf KX) t := by
      dsimp only [L2.KOf]                          -- K must stand as «<heap const> w.params» for k_is
      refine' My.txt_mk ?e1 ?e2 ?e3 ..
      (case e1 => PySem.W.k_is)                    -- in the order: a name -> its address -> its object -> its parts
      (case e2 => PySem.W.k_is)
      ..
    obtain ⟨t, T⟩ := T
    have e0 := hmg.symm.trans (PySem.W.mg_of KX G T.law)
    cases e0                                       -- fa is the law's own address
    exact ⟨_, fun s u => .of_eq rfl, fun base kb nb => My.law_fn T kb nb⟩     -- if «.of_eq rfl» comes too early: refine' ⟨_, ?b, fun base kb nb => My.law_fn T kb nb⟩; exact fun s u => .of_eq rfl
  case S => exact fun w H a ns hl hO hS => ..
  case C => exact ..
(the tactic k_is has no namespace: write k_is) -/

/-! SHORT WORDS over the layer: a def of the text, its body, what a loop and a test want. -/
namespace L2
open PySem PySem.Spec PyProof.Rows

/-! ### the text by places -/
/-- the j-th statement of a class's body -/
def inClass (s : Stmt) (j : Nat) : Stmt := match s with
  | .ClassDef _ _ _ body _ _ _ _ _ _ _ => body.getD j (.Pass ⟨0, 0, 0, 0⟩)
  | _ => .Pass ⟨0, 0, 0, 0⟩
def defArgs (s : Stmt) : Arguments := match s with
  | .FunctionDef _ a _ _ _ _ _ _ _ _ => a
  | _ => { posonlyargs := [], args := [], vararg := none, kwonlyargs := [], kw_defaults := [], kwarg := none, defaults := [] }
def defBody (s : Stmt) : List Stmt := match s with
  | .FunctionDef _ _ b _ _ _ _ _ _ _ => b
  | _ => []
def defScope (s : Stmt) : Scope := match s with
  | .FunctionDef _ _ _ _ _ _ sc _ _ _ => sc
  | _ => { kind := .function, names := [], isGenerator := false, isCoroutine := false }

/-! ### no exception leaves a def -/
abbrev CX0 : CXT := fun _ _ _ _ _ _ => False
abbrev E0 : XK := fun _ _ _ => False
theorem pass0 {X : Cx} : Passes CX0 X E0 := fun _ _ _ _ _ _ _ h => h.elim

/-! ### a def (or method) of the text as it stands behind the top -/
structure Fun (K : PySem.W.Frag) (x qual : Str) (st : Stmt) (f : Addr) (fd : FuncData) : Prop where
  ex : ∃ (oc : Value) (od : Option Addr) (kV doc pm : Value) (an : Option Addr) (cdv ct : Value) (osl : Array (Option Value)),
    fd = PySem.W.fnOf x qual (defArgs st) (defBody st) (defScope st) .none kV doc pm an cdv ct ∧ K.lookup f = some ⟨oc, od, .func fd, osl⟩ ∧ PySem.W.codeIn K cdv qual = true
  kp : PySem.W.keepIn K (.ref f) = true
section
variable {P : Program} {w : World} {K : PySem.W.Frag} {mg : Str → Option Value} {base : Heap}
/-- THE RULE for a def: its body as a term of rules, and the reading of that term -/
theorem Fun.ok {x qual : Str} {st : Stmt} {f : Addr} {fd : FuncData} {N ps : List Str} {k : Nat} {sp : Sp} (F : Fun K x qual st f fd) (S : FnScope N ps (defScope st)) (len : ∀ vs H Q E, sp vs H Q E → vs.length = ps.length)
    (hbody : ∀ (cdv : Value) (A : Around) (outer : List Env) (s : Shared) (H : Hp) (vs : List V) (Q : VK) (E : XK), Room k (A.deeper (envOfC qual (defScope st) s.heap.objs.size f cdv)) → sp vs H Q E →
      ∃ t, PSs (cxOf CX0 P w K mg base N qual (defScope st) f cdv A outer s H E).nox (defBody st) t ∧ t { nx := fun _ H' => Q .non H', rt := Q } (start N vs) H) : FnOk P w K mg base CX0 (k + 1) f fd ps sp := by
  obtain ⟨oc, od, kV, doc, pm, an, cdv, ct, osl, rfl, lk, hcd⟩ := F.ex
  refine fn_of lk hcd S len fun A outer s H vs Q E hr hsp => ?_
  obtain ⟨t, h, q⟩ := hbody cdv A outer s H vs Q E hr hsp
  exact ⟨t, h.nox, q⟩
/-- how its arguments bind (no defaults): h is «fun _ _ _ _ _ _ us hl => match us, hl with | [_, _], _ => rfl», one _ a parameter -/
theorem Fun.binds {x qual : Str} {st : Stmt} {f : Addr} {fd : FuncData} {ps : List Str} (F : Fun K x qual st f fd)
    (h : ∀ (kV doc pm : Value) (an : Option Addr) (cdv ct : Value) (us : List Value), us.length = ps.length → bindArgs (PySem.W.fnOf x qual (defArgs st) (defBody st) (defScope st) .none kV doc pm an cdv ct) ⟨us, []⟩ = pure (ps.zip us)) : Binds K fd ps [] := by
  obtain ⟨oc, od, kV, doc, pm, an, cdv, ct, osl, rfl, lk, hcd⟩ := F.ex
  exact .all (h kV doc pm an cdv ct)
theorem fun_mk {x qual : Str} {st : Stmt} {f : Addr} {oc : Value} {od an : Option Addr} {osl : Array (Option Value)} {kV doc pm cdv ct : Value} (l : K.lookup f = some ⟨oc, od, .func (PySem.W.fnOf x qual (defArgs st) (defBody st) (defScope st) .none kV doc pm an cdv ct), osl⟩)
    (c : PySem.W.codeIn K cdv qual = true) (k : PySem.W.keepIn K (.ref f) = true) : Fun K x qual st f (PySem.W.fnOf x qual (defArgs st) (defBody st) (defScope st) .none kV doc pm an cdv ct) := ⟨⟨oc, od, kV, doc, pm, an, cdv, ct, osl, rfl, l, c⟩, k⟩
end
theorem hu_of {A : Around} {k : Nat} (hr : Room k A) : A.units + 1 < cLine := Nat.lt_of_le_of_lt (Nat.add_le_add_left (by decide : 1 ≤ 64) _) hr.units
theorem small1000 {n : Nat} (h : n ≤ 1000) : n < sizeLine := Nat.lt_of_le_of_lt h (by decide)

/-! ### expressions in short: the name that stands in the i-th slot -/
section
variable {X : Cx}
theorem pv (i : Nat) {x : Str} {pos : Pos} (hN : X.N[i]? = some x := by rfl) (hv : Vis X.env.scope x := by first | exact Or.inl rfl | exact Or.inr (Or.inl rfl) | exact Or.inr (Or.inr rfl)) (hd : (x == ("__debug__" : Str)) = false := by decide)
    (hcd : (x == ("__classdict__" : Str)) = false := by decide) : PE X (.Name x pos) (tVar i) := pe_var hN hv hd hcd
end

/-! ### tests -/
theorem iteF {A B : Prop} (h : B) : if false = true then A else B := by
  rw [if_neg Bool.false_ne_true]
  exact h
theorem iteT {A B : Prop} (h : A) : if true = true then A else B := by
  rw [if_pos rfl]
  exact h
theorem ite2 {c A B : Prop} [Decidable c] (h1 : c → A) (h2 : ¬ c → B) : if c then A else B := by
  by_cases h : c
  · rw [if_pos h]
    exact h1 h
  · rw [if_neg h]
    exact h2 h
theorem iteNS {c A B : Prop} [Decidable c] (hc : c) (h : B) : if (!decide c) = true then A else B := by
  rw [decide_eq_true hc]
  exact iteF h

/-! ### heaps -/
/-- all that was tracked is as it was -/
def Same (H H' : Hp) : Prop := ∀ b o, H b = some o → H' b = some o
theorem Same.refl (H : Hp) : Same H H := fun _ _ h => h
theorem Same.trans {H H1 H2 : Hp} (a : Same H H1) (b : Same H1 H2) : Same H H2 := fun c o h => b c o (a c o h)
theorem Same.free {H H' : Hp} (e : Same H H') {l : Addr} (h : H' l = Option.none) : H l = Option.none := by
  cases q : H l with
  | none => rfl
  | some o =>
    rw [e l o q] at h
    cases h
theorem Same.seq {K : PySem.W.Frag} {H H' : Hp} {a : Addr} {xs : List V} (e : Same H H') (h : SqL K H a xs) : SqL K H' a xs := by
  rcases h with (h | ⟨o, h⟩) | h
  · exact .inl (.inl (e _ _ h))
  · exact .inl (.inr ⟨o, e _ _ h⟩)
  · exact .inr h

end L2

set_option Elab.async false
set_option linter.all false
set_option maxRecDepth 100000
set_option maxHeartbeats 4000000
namespace L2
open PySem PySem.Spec PyProof.Rows

/-! ### the cells that a comprehension takes over -/
def closL (env : Env) : List (Str × NameKind) → List (Str × Addr) → List (Str × Addr)
  | [], acc => acc
  | (n, k) :: r, acc => closL env r (if k == .free then (match env.cells.lookup n with | some a => (n, a) :: acc | none => acc) else acc)
theorem closL_sub {env : Env} : ∀ {ns : List (Str × NameKind)} {acc : List (Str × Addr)} {x : Str} {c : Addr}, (∀ x c, acc.lookup x = some c → env.cells.lookup x = some c) → (closL env ns acc).lookup x = some c → env.cells.lookup x = some c
  | [], acc, x, c, h, e => h x c e
  | (n, k) :: r, acc, x, c, h, e => by
    refine closL_sub (ns := r) ?_ e
    intro y d
    split
    · split
      · rename_i a ha
        intro q
        rw [List.lookup_cons] at q
        split at q
        · rename_i hy
          have hy' : y = n := by simpa using hy
          subst hy'
          rw [ha]; exact q
        · exact h y d q
      · exact h y d
    · exact h y d
theorem closL_acc {env : Env} : ∀ {ns : List (Str × NameKind)} {acc : List (Str × Addr)} {x : Str}, (acc.lookup x).isSome = true → ((closL env ns acc).lookup x).isSome = true
  | [], acc, x, h => h
  | (n, k) :: r, acc, x, h => by
    refine closL_acc (ns := r) ?_
    split
    · split
      · rw [List.lookup_cons]
        split
        · rfl
        · exact h
      · exact h
    · exact h
theorem closL_has {env : Env} : ∀ {ns : List (Str × NameKind)} {acc : List (Str × Addr)} {x : Str}, (x, NameKind.free) ∈ ns → (env.cells.lookup x).isSome = true → ((closL env ns acc).lookup x).isSome = true
  | [], acc, x, h, _ => by cases h
  | (n, k) :: r, acc, x, h, hc => by
    rcases List.mem_cons.mp h with e | e
    · cases e
      refine closL_acc (ns := r) ?_
      obtain ⟨a, ha⟩ := Option.isSome_iff_exists.mp hc
      rw [if_pos (by rfl), ha]
      show (List.lookup n ((n, a) :: acc)).isSome = true
      rw [List.lookup_cons]
      simp
    · exact closL_has (ns := r) e hc
theorem closureFor_eq {scope : Scope} {env : Env} (h : ∀ x ∈ scope.names, x.2 = .free → (env.cells.lookup x.1).isSome = true) : closureFor scope env = pure (closL env scope.names []) := by
  have all : ∀ (ns : List (Str × NameKind)) (acc : List (Str × Addr)), (∀ x ∈ ns, x.2 = .free → (env.cells.lookup x.1).isSome = true) →
      (forIn ns acc fun (x : Str × NameKind) (cs : List (Str × Addr)) => (if (x.2 == NameKind.free) = true then do let a ← cellOf env x.1; pure (ForInStep.yield ((x.1, a) :: cs)) else pure (ForInStep.yield cs) : Sem (ForInStep (List (Str × Addr))))) = pure (closL env ns acc) := by
    intro ns
    induction ns with
    | nil => intro acc _; rfl
    | cons x r ih =>
      intro acc hx
      obtain ⟨n, k⟩ := x
      rw [List.forIn_cons]
      by_cases hk : (k == NameKind.free) = true
      · obtain ⟨a, ha⟩ := Option.isSome_iff_exists.mp (hx (n, k) List.mem_cons_self (by simpa using hk))
        have ha : env.cells.lookup n = some a := ha
        have hcell : cellOf env n = pure a := by unfold cellOf; rw [ha]
        simp only [hk, if_true, hcell]
        refine Eq.trans (ih ((n, a) :: acc) fun y hy => hx y (List.mem_cons_of_mem _ hy)) ?_
        conv => rhs; unfold closL
        simp only [hk, if_true, ha]
      · simp only [hk]
        refine Eq.trans (ih acc fun y hy => hx y (List.mem_cons_of_mem _ hy)) ?_
        conv => rhs; unfold closL
        simp only [hk]
        rfl
  unfold closureFor
  exact (by
    have := all scope.names [] h
    first | exact this | (simp only [bind_pure] ; exact this) | simpa using this)
/-! ### the block of a list comprehension -/
def cmpCx (X : Cx) (scope : Scope) (C : Addr) (N : List Str) (s₀ : Shared) (H₀ : Hp) (ex : List Addr) : Cx where
  prog := X.prog
  w := X.w
  K := X.K
  mg := X.mg
  base := X.base
  A := X.A
  N := N
  s₀ := s₀
  H₀ := H₀
  env := compEnvC scope (closL X.env scope.names []) C X.env
  outer := X.stack
  stack := X.stack
  ex := ex
  fn := fun _ => false
  calm := X.calm
  pn := []
  xe := fun _ _ => False
/-- a comprehension's scope: its own names are local, the others it takes over from cells -/
structure CScope (sc : Scope) (env : Env) : Prop where
  kind : sc.kind = .function
  nocell : ∀ y ∈ sc.names, y.2 ≠ .cell
  loc : ∀ y ∈ sc.names, y.2 = .local → sc.names.lookup y.1 = some .local
  free : ∀ x ∈ sc.names, x.2 = .free → (env.cells.lookup x.1).isSome = true
theorem lookup_relabel {env : Env} : ∀ {names : List (Str × NameKind)} {x : Str} {k : NameKind}, ((names.map fun (n, k) => if (k == NameKind.free && env.scope.kind == .function && env.kindOf n == some .cell) then (n, NameKind.cell) else (n, k)).lookup x = some k) →
    ∃ k', names.lookup x = some k' ∧ (k' = k ∨ (k' = .free ∧ k = .cell))
  | [], x, k, h => by simp at h
  | (n, q) :: r, x, k, h => by
    have ih := @lookup_relabel env r x k
    have h : List.lookup x ((if (q == NameKind.free && env.scope.kind == .function && env.kindOf n == some .cell) = true then (n, NameKind.cell) else (n, q)) :: _) = some k := h
    rw [List.lookup_cons]
    cases hx : x == n with
    | true =>
      by_cases hc : (q == NameKind.free && env.scope.kind == .function && env.kindOf n == some .cell) = true
      · rw [if_pos hc] at h
        simp only [List.lookup_cons, hx] at h
        refine ⟨q, rfl, .inr ⟨?_, (Option.some.inj h).symm⟩⟩
        simp only [Bool.and_eq_true] at hc
        simpa using hc.1.1
      · rw [if_neg hc] at h
        simp only [List.lookup_cons, hx] at h
        exact ⟨q, rfl, .inl (Option.some.inj h)⟩
    | false =>
      by_cases hc : (q == NameKind.free && env.scope.kind == .function && env.kindOf n == some .cell) = true
      · rw [if_pos hc] at h
        simp only [List.lookup_cons, hx] at h
        exact ih h
      · rw [if_neg hc] at h
        simp only [List.lookup_cons, hx] at h
        exact ih h
/-- the names of the block at its start: those taken over stand where they stood -/
def Takes (X : Cx) (scope : Scope) (N : List Str) (σ σ0 : St) : Prop :=
  σ0.length = N.length ∧ ∀ (i : Nat) (x : Str) (v : V), N[i]? = some x → σ0[i]? = some (some v) → ∃ j : Nat, X.N[j]? = some x ∧ σ[j]? = some (some v) ∧ scope.names.lookup x = some .free ∧ (X.env.kindOf x = some .cell ∨ X.env.kindOf x = some .free)
section
variable {X : Cx}
theorem cmp_start {scope : Scope} {N : List Str} {pins : List (Addr × Obj)} {σ σ0 : St} {H : Hp} {s : Shared} {h' : Heap} {tk : Nat} {fp : List Addr} (I : Inv X pins σ H s) (S : CScope scope X.env) (hf : ∀ b ∈ fp, FpOk X pins H b) (hlt : ∀ b ∈ fp, b < s.heap.objs.size)
    (T : Takes X scope N σ σ0) (hn : h'.Ns s.heap.objs.size (fun _ => none)) (hk : ∀ b o, s.heap.get? b = some o → h'.get? b = some o) :
    Inv (cmpCx X scope s.heap.objs.size N s H fp) [] σ0 H { s with heap := h', toks := tk } := by
  have subC : ∀ x c, (closL X.env scope.names []).lookup x = some c → X.env.cells.lookup x = some c := fun x c e => closL_sub (ns := scope.names) (acc := []) (fun y d z => by simp at z) e
  have hasC : ∀ x, scope.names.lookup x = some .free → ∃ c, (closL X.env scope.names []).lookup x = some c := fun x e => by
    have m := PySem.mem_of_lookup e
    exact Option.isSome_iff_exists.mp (closL_has m (S.free _ m rfl))
  have fsN : ∀ b ∈ fp, b ∉ frs X.stack := fun b hb z => by
    obtain ⟨_, f1, f2, _⟩ := hf b hb
    rcases List.mem_cons.mp (I.stkSub b z) with e | e
    · exact f1 e
    · exact f2 e
  have kinds : ∀ x, ((relabel scope X.env).names.lookup x = some .cell ∨ (relabel scope X.env).names.lookup x = some .free) → scope.names.lookup x = some .free := fun x hx => by
    rcases hx with hx | hx
    · obtain ⟨k', e, q⟩ := lookup_relabel hx
      rcases q with q | ⟨q, _⟩
      · subst q
        exact absurd rfl (S.nocell _ (PySem.mem_of_lookup e))
      · rw [e, q]
    · obtain ⟨k', e, q⟩ := lookup_relabel hx
      rcases q with q | ⟨_, q⟩
      · rw [e, q]
      · cases q
  have noex : ∀ b o, X.base.get? b = some o → b ∉ fp := fun b o e hb => by
    obtain ⟨_, _, _, f3, _⟩ := hf b hb
    rcases f3 with z | z
    · exact I.ok.noex b o e z
    · exact absurd (Nat.lt_of_lt_of_le (Heap.lt_size e) (Nat.le_trans I.ok.bsz z)) (Nat.lt_irrefl _)
  refine ⟨⟨I.ok.mod, S.kind, I.ok.glob, I.ok.blt, Nat.le_refl _, fun x y c e1 e2 => I.ok.inj x y c (subC x c e1) (subC y c e2), fun x hx => hasC x (kinds x hx), fun x c z => absurd (show false = true from z) Bool.false_ne_true, I.ok.hd, I.ok.frames, .inl rfl,
      fun b hb => ⟨Nat.ne_of_lt (hlt b hb), fun x c e => (hf b hb).2.2.2.2.1 x c (subC x c e)⟩, I.bs, Nat.le_trans I.ok.bsz I.sz, noex, fsN, I.stack, I.stkFree⟩,
    rfl, I.bare, Un.kept hk, ⟨_, hn, fun i x v e1 e2 e3 => ?_⟩, fun x c e => ?_, I.hok.fresh (Nat.le_refl _), fun x c e => I.freeC x c (subC x c e), fun p hp => absurd (show p ∈ ([] : List (Addr × Obj)) from hp) (by simp), I.hok.kept hk, T.1⟩
  · obtain ⟨j, hj, hs, hfr, hkd⟩ := T.2 i x v e1 e2
    obtain ⟨m, _, hl⟩ := I.loc
    obtain ⟨u, r, l⟩ := hl j x v hj hs (hkd.elim (fun z => Or.inr (Or.inl z)) fun z => Or.inr (Or.inr z))
    refine ⟨u, r, .inr ⟨?_, ?_⟩⟩
    · show (relabel scope X.env).names.lookup x = some .cell ∨ (relabel scope X.env).names.lookup x = some .free
      rcases e3 with z | z | z
      · obtain ⟨k', e, q⟩ := lookup_relabel (show (relabel scope X.env).names.lookup x = some .local from z)
        rw [hfr] at e
        cases e
        rcases q with q | ⟨_, q⟩ <;> cases q
      · exact .inl z
      · exact .inr z
    · obtain ⟨c, hc⟩ := hasC x hfr
      refine ⟨c, hc, ?_⟩
      rcases l with ⟨k, _⟩ | ⟨_, c', e, z⟩
      · rcases hkd with hkd | hkd <;> (rw [hkd] at k; cases k)
      · have e' := subC x c hc
        rw [e] at e'
        cases e'
        obtain ⟨o, ho, hd⟩ := z
        exact ⟨o, hk _ o ho, hd⟩
  · obtain ⟨v, o, ho, hd⟩ := I.cell x c (subC x c e)
    exact ⟨v, o, hk _ o ho, hd⟩
/-- .. and its end, seen from outside -/
theorem cmp_end {scope : Scope} {N : List Str} {pins pins' : List (Addr × Obj)} {σ σ' : St} {H H' : Hp} {s s' : Shared} {h' : Heap} {fp : List Addr} (I : Inv X pins σ H s) (hf : ∀ b ∈ fp, FpOk X pins H b)
    (I' : Inv (cmpCx X scope s.heap.objs.size N s H fp) pins' σ' H' s') (hs : Heap.SameBut s.heap.objs.size s'.heap h') : Inv X pins σ H' { s' with heap := h' } := by
  have hC : H' s.heap.objs.size = none := I'.free
  have ne : ∀ b o, s.heap.get? b = some o → b ≠ s.heap.objs.size := fun b o e => Nat.ne_of_lt (Heap.lt_size e)
  have B : Un (frs X.stack) fp H H' s.heap s'.heap := I'.base
  refine I.call' (s' := { s' with heap := h' }) (ch := fp) I'.os ⟨fun b o e n hb hx => ?_, fun b o e n hb hx => ?_, B.free, fun b o e hx => ?_, B.tups, B.frzs, B.tbls⟩ (fun b o e => ?_) I'.bare (fun b hb => ?_)
  · exact (hs.2 b (ne b o e)).trans (B.keep b o e n hb hx)
  · obtain ⟨sl, q⟩ := B.slot b o e n hb hx
    exact ⟨sl, (hs.2 b (ne b o e)).trans q⟩
  · obtain ⟨o', q⟩ := B.there b o e hx
    exact ⟨o', (hs.2 b (ne b o e)).trans q⟩
  · refine (I'.hok b o e).stay (fun c w' hc q => (hs.2 c ?_).trans q) (fun _ q => q) fun _ _ q => q
    rintro rfl
    rcases hc with rfl | hc
    · rw [hC] at e; cases e
    · rw [hC] at hc; cases hc
  · obtain ⟨_, f1, _, f3, f4, f5⟩ := hf b hb
    exact ⟨f3, f1, f4, f5⟩
end
end L2

set_option Elab.async false
set_option linter.all false
set_option maxRecDepth 100000
set_option maxHeartbeats 4000000
namespace L2
open PySem PySem.Spec PyProof.Rows
section
variable {prog : Program} {w : World} {A : Around} {R : Result → Shared → Prop} {s : Shared}
theorem compLoop_any {elt target iter : Expr} {ifs : List Expr} {scope : Scope} {pos : Pos} {it acc : Value} {env : Env} (I : Nat → Shared → Prop)
    (turn : ∀ n s, I n s → wpAny (model prog w) A (pyNext it) (fun r s₁ => match r with
      | none => R (.ok .next) s₁
      | some v => wpAny (model prog w) A (letOwnedTupleGo target it v) (fun _ s₁' => wpAny (model prog w) A (assign target env v) (fun _ s₂ =>
          wpAny (model prog w) A (forIn ifs true fun c r => if r = true then do let ok ← isTrue c env (eval c env); pure (ForInStep.yield ok) else pure (ForInStep.yield r)) (fun ok s₃ =>
            if ok = true then wpAny (model prog w) A (eval elt env) (fun x s₄ =>
              wpAny (model prog w) A (call (.builtin "list.append") [acc, x]) (fun _ s₅ => ∃ m, m < n ∧ I m s₅) (fun _ _ => False) s₄) (fun _ _ => False) s₃
            else ∃ m, m < n ∧ I m s₃) (fun _ _ => False) s₂) (fun _ _ => False) s₁') (fun _ _ => False) s₁) (fun _ _ => False) s)
    (n : Nat) (h : I n s) : codeAny (model prog w) A (.compLoop (.ListComp elt [⟨target, iter, ifs, 0⟩] scope pos) 0 it acc env) R s := by
  refine codeAny_loop rfl I (fun n s hI => ?_) n h
  show wpAny _ A ((compTurn (.ListComp elt [⟨target, iter, ifs, 0⟩] scope pos) 0 it acc env).onRaise (fun x => do noteFrame x env; theTreesLotGoes x)) _ _ s
  refine wpAny_noted ?_
  rw [compTurn_list]
  have up : ∀ {α : Type} {t : Sem α} {Q : α → Shared → Prop} {s : Shared} {E : Value → Shared → Prop}, wpAny (model prog w) A t Q (fun _ _ => False) s → wpAny (model prog w) A t Q E s := fun h => wpAny_noRaise h
  refine wpAny_bind (wpAny_standAt (wpAny_bind (up (thn (turn n s hI) fun r s₁ h₁ => ?_))))
  cases r with
  | none => exact wpAny_pure h₁
  | some v =>
    refine wpAny_bind (up (thn h₁ fun _ s₁' h₁' => ?_))
    refine wpAny_bind (up (thn h₁' fun _ s₂ h₂ => wpAny_bind (up (thn h₂ fun ok s₃ h₃ => ?_))))
    cases ok with
    | false => exact wpAny_pure ⟨rfl, h₃⟩
    | true =>
      exact wpAny_bind (wpAny_bind (up (thn h₃ fun x s₄ h₄ => wpAny_bind (up (thn h₄ fun _ s₅ h₅ => wpAny_pure (wpAny_pure ⟨rfl, h₅⟩))))))
end

/-- the walk that fills the list at D -/
def CompW (J : It) (g : TG) (tt : TT) (te : TE) (σ0 : St) (H1 : Hp) (D : Addr) (Q : VK) : Prop :=
  ∃ W : Nat → Nat → St → Hp → Prop, (∃ m, W 0 m σ0 (upd H1 D (.lst []))) ∧ ∀ i m σ' H', W i m σ' H' →
    (J.stop i H' ∧ Q (.ref D) H') ∨ (J.go i H' ∧ ∃ N : St → Hp → Prop, (∀ σ2 H2, N σ2 H2 → ∃ m', m' < m ∧ W (i + 1) m' σ2 H2) ∧ ∀ x H2, J.yld i H' x H2 → g x σ' H2 fun σ2 H3 => tt σ2 H3 fun b H4 =>
      if b = true then te σ2 H4 fun y H5 => ∃ ys, H5 D = some (.lst ys) ∧ ys.length < sizeLine ∧ N σ2 (upd H5 D (.lst (ys ++ [y]))) else N σ2 H4)
def tComp (wi : TI) (σ0 : St → St) (g : TG) (tt : TT) (te : TE) : TE := fun σ H Q => wi σ H fun J H1 => ∀ D, H1 D = none → CompW J g tt te (σ0 σ) H1 D Q
/-- the tests of a clause -/
def PTs (X : Cx) (ifs : List Expr) (t : TT) : Prop :=
  ∀ (pins : List (Addr × Obj)) (s : Shared) (σ : St) (H : Hp) (Q : Bool → Hp → Prop), Inv X pins σ H s → t σ H Q →
    wpAny (model X.prog X.w) X.A (forIn ifs true fun c r => if r = true then do let ok ← isTrue c X.env (eval c X.env); pure (ForInStep.yield ok) else pure (ForInStep.yield r)) (TP X pins σ Q) X.xe s
def tYes : TT := fun _ H Q => Q true H
theorem pts_nil {X : Cx} : PTs X [] tYes := fun _ _ _ H _ I h => wpAny_tests_nil ⟨H, I, h⟩
theorem pts_one {X : Cx} {c : Expr} {t : TT} (h : PT X c t) : PTs X [c] t := fun pins s σ H Q I hw => wpAny_tests_one (h pins s σ H Q I hw)

section
variable {X : Cx} {elt target iter : Expr} {ifs : List Expr} {scope : Scope} {pos : Pos} {N : List Str} {wi : TI} {σ0 : St → St} {g : TG} {tt : TT} {te : TE}
/-- from the iterator to the list -/
theorem comp_block {pins : List (Addr × Obj)} {σ : St} {H : Hp} {s : Shared} {it : Addr} {fp : List Addr} {tn : Nat → Heap → Prop} {J : It} {Q : Addr → Hp → Prop} {RR : Value → Addr → Result → Shared → Prop} {E : Value → Shared → Prop}
    (hc : X.calm = true) (S : CScope scope X.env) (T : Takes X scope N σ (σ0 σ)) (I : Inv X pins σ H s) (Tn : Turn X.prog X.w X.K target J fp it tn) (st : tn 0 s.heap) (hf : ∀ b ∈ fp, FpOk X pins H b)
    (hg : ∀ C s H fp, PG (cmpCx X scope C N s H fp) target g) (ht : ∀ C s H fp, PTs (cmpCx X scope C N s H fp) ifs tt) (he : ∀ C s H fp, PE (cmpCx X scope C N s H fp) elt te)
    (hw : ∀ D, H D = none → ∃ W : Nat → Nat → St → Hp → Prop, (∃ m, W 0 m (σ0 σ) (upd H D (.lst []))) ∧ ∀ i m σ' H', W i m σ' H' →
      (J.stop i H' ∧ Q D H') ∨ (J.go i H' ∧ ∃ N : St → Hp → Prop, (∀ σ2 H2, N σ2 H2 → ∃ m', m' < m ∧ W (i + 1) m' σ2 H2) ∧ ∀ x H2, J.yld i H' x H2 → g x σ' H2 fun σ2 H3 => tt σ2 H3 fun b H4 =>
        if b = true then te σ2 H4 fun y H5 => ∃ ys, H5 D = some (.lst ys) ∧ ys.length < sizeLine ∧ N σ2 (upd H5 D (.lst (ys ++ [y]))) else N σ2 H4))
    (hR : ∀ (D C : Addr) (H' : Hp) (s' : Shared) (m : Str → Option Value), s.heap.objs.size ≤ C → H' C = none → s'.heap.Ns C m → (∀ h', Heap.SameBut C s'.heap h' → Inv X pins σ H' { s' with heap := h' }) → Q D H' → RR (.ref D) C (.ok .next) s') :
    wpAny (model X.prog X.w) X.A (newList []) (fun acc s₃ => wpAny (model X.prog X.w) X.A (newFunctionEnv scope X.env.globals (closL X.env scope.names []) [] X.env.qual none .none (some X.env)) (fun cenv s₄ =>
      codeAny (model X.prog X.w) X.A (.compStart (.ListComp elt [⟨target, iter, ifs, 0⟩] scope pos) 0 (.ref it) acc { cenv with scope := relabel scope X.env }) (RR acc cenv.locals) s₄) E s₃) E s := by
  refine wpAny_newObj_type (wpAny_newFunctionEnv S.nocell (by intro y hy; simp at hy) (fun h₁ hns₁ hsb₁ => ?_) S.kind)
  -- the new list is tracked
  have hD : H s.heap.objs.size = none := I.hok.fresh (Nat.le_refl _)
  have I3 : Inv X pins σ (upd H s.heap.objs.size (.lst [])) { s with heap := s.heap.push { cls := .type "list", dict := none, data := .seq ([] : List Value).toArray } } := I.lnew (ys := []) (its := []) (t' := s.toks) .nil (by simp)
  have hlt : ∀ b ∈ fp, b < s.heap.objs.size := fun b hb => by obtain ⟨o, e, _⟩ := Tn.obj _ _ st b hb; exact Heap.lt_size e
  have hf3 : ∀ b ∈ fp, FpOk X pins (upd H s.heap.objs.size (.lst [])) b := fun b hb => ⟨by rw [upd_ne (Nat.ne_of_lt (hlt b hb))]; exact (hf b hb).1, (hf b hb).2⟩
  have hlt3 : ∀ b ∈ fp, b < ({ s with heap := s.heap.push { cls := .type "list", dict := none, data := .seq ([] : List Value).toArray } } : Shared).heap.objs.size := fun b hb => by
    show b < (s.heap.push _).objs.size
    rw [Heap.size_push]
    exact Nat.lt_succ_of_lt (hlt b hb)
  have hk1 : ∀ b o, ({ s with heap := s.heap.push { cls := .type "list", dict := none, data := .seq ([] : List Value).toArray } } : Shared).heap.get? b = some o → h₁.get? b = some o := fun b o e =>
    hsb₁.extBut b o (Nat.ne_of_lt (Heap.lt_size e)) (Heap.get?_push_of_some _ e)
  have I4 := cmp_start (N := N) (tk := s.toks + ([] : List (Str × Value)).length) I3 S hf3 hlt3 T hns₁ hk1
  have st4 : tn 0 h₁ := Tn.keep _ _ _ st fun b hb o e => hk1 b o (Heap.get?_push_of_some _ e)
  obtain ⟨W, ⟨m0, w0⟩, turn⟩ := hw _ hD
  generalize hX : cmpCx X scope ({ s with heap := s.heap.push { cls := .type "list", dict := none, data := .seq ([] : List Value).toArray } } : Shared).heap.objs.size N { s with heap := s.heap.push { cls := .type "list", dict := none, data := .seq ([] : List Value).toArray } } (upd H s.heap.objs.size (.lst [])) fp = X' at I4
  have eP : X'.prog = X.prog := by rw [← hX]; rfl
  have eW : X'.w = X.w := by rw [← hX]; rfl
  have eK : X'.K = X.K := by rw [← hX]; rfl
  have eA : X'.A = X.A := by rw [← hX]; rfl
  have eC : X'.calm = true := by rw [← hX]; exact hc
  have eX : X'.xe = fun _ _ => False := by rw [← hX]; rfl
  have eEx : X'.ex = fp := by rw [← hX]; rfl
  have hg' : PG X' target g := by rw [← hX]; exact hg _ _ _ _
  have ht' : PTs X' ifs tt := by rw [← hX]; exact ht _ _ _ _
  have he' : PE X' elt te := by rw [← hX]; exact he _ _ _ _
  have eE : X'.env = compEnvC scope (closL X.env scope.names []) ({ s with heap := s.heap.push { cls := .type "list", dict := none, data := .seq ([] : List Value).toArray } } : Shared).heap.objs.size X.env := by rw [← hX]; rfl
  -- the iterator's objects, inside
  have fpIn : ∀ {H' : Hp}, (∀ b ∈ fp, H' b = none) → ∀ b ∈ fp, FpOk X' [] H' b := fun {H'} hn b hb => by
    obtain ⟨f0, f1, f2, f3, f4, f5⟩ := hf3 b hb
    rw [← hX]
    refine ⟨hn b hb, Nat.ne_of_lt (hlt3 b hb), fun z => ?_, .inl hb, fun x c e => f4 x c (closL_sub (ns := scope.names) (acc := []) (fun y d z => by simp at z) e), fun p hp => absurd (show p ∈ ([] : List (Addr × Obj)) from hp) (by simp)⟩
    rcases List.mem_cons.mp (I3.stkSub b z) with e | e
    · exact f1 e
    · exact f2 e
  have fr0 : ∀ b ∈ fp, upd H s.heap.objs.size (.lst []) b = none := fun b hb => (hf3 b hb).1
  have loop : codeAny (model X.prog X.w) X.A (.compLoop (.ListComp elt [⟨target, iter, ifs, 0⟩] scope pos) 0 (.ref it) (.ref s.heap.objs.size) X'.env)
      (RR (.ref s.heap.objs.size) ({ s with heap := s.heap.push { cls := .type "list", dict := none, data := .seq ([] : List Value).toArray } } : Shared).heap.objs.size)
      { s with heap := h₁, toks := s.toks + ([] : List (Str × Value)).length } := by
    refine compLoop_any (fun n s' => ∃ i σ' H', Inv X' [] σ' H' s' ∧ tn i s'.heap ∧ (∀ b ∈ fp, H' b = none) ∧ W i n σ' H') ?_ m0 ⟨0, σ0 σ, _, I4, st4, fr0, w0⟩
    rintro n s5 ⟨i, σ5, H5, I5, st5, fr5, w5⟩
    rcases turn i n σ5 H5 w5 with ⟨stop, qn⟩ | ⟨go, Nx, hN, step⟩
    · have q := Tn.done X' eP eW eK eC i [] s5 σ5 H5 (fun _ _ => False) I5 (fpIn fr5) st5 stop
      rw [eA] at q
      refine thn q fun r s6 ⟨hr, I6⟩ => ?_
      subst hr
      obtain ⟨mm, hns6, _⟩ := I6.loc
      rw [eE] at hns6
      have fr6 := I6.free
      rw [eE] at fr6
      refine hR _ _ H5 s6 mm ?_ fr6 hns6 (fun h' hs => ?_) qn
      · show s.heap.objs.size ≤ (s.heap.push _).objs.size
        rw [Heap.size_push]
        exact Nat.le_succ _
      · rw [← hX] at I6
        exact cmp_end I3 hf3 I6 hs
    · have q := Tn.item X' eP eW eK eC i [] s5 σ5 H5 (fun _ _ => False) I5 (fpIn fr5) st5 go
      rw [eA] at q
      refine thn q fun r s6 ⟨u, hr, h6⟩ => ?_
      subst hr
      refine thn h6 fun _ s7 ⟨x, H7, I7, r7, y7, st7, fr7⟩ => ?_
      have I7' := I7.pinned (fpIn fr7) (Tn.obj _ _ st7)
      have q8 := hg' _ s7 σ5 H7 x u _ I7' r7 (step x H7 y7)
      rw [eP, eW, eA, eX] at q8
      refine thn q8 fun _ s8 ⟨σ8, H8, I8, q8⟩ => ?_
      have q9 := ht' _ s8 σ8 H8 _ I8 q8
      rw [eP, eW, eA, eX] at q9
      refine thn q9 fun ok s9 ⟨H9, I9, q9⟩ => ?_
      have again : ∀ {σ10 : St} {H10 : Hp} {s10 : Shared}, Inv X' ([] ++ pinsAt fp s7.heap) σ10 H10 s10 → Nx σ10 H10 → ∃ m, m < n ∧ ∃ i σ' H', Inv X' [] σ' H' s10 ∧ tn i s10.heap ∧ (∀ b ∈ fp, H' b = none) ∧ W i m σ' H' := fun {σ10 H10 s10} J10 n10 => by
        obtain ⟨m', hm, w10⟩ := hN σ10 H10 n10
        refine ⟨m', hm, i + 1, σ10, H10, J10.unpinned, Tn.keep _ _ _ st7 fun b hb o e => (J10.pin (b, o) (List.mem_append_right _ (List.mem_append_right _ (mem_pinsAt hb e)))).1, fun b hb => ?_, w10⟩
        obtain ⟨o, e, d⟩ := Tn.obj _ _ st7 b hb
        exact (J10.pin (b, o) (List.mem_append_right _ (List.mem_append_right _ (mem_pinsAt hb e)))).2.1
      cases ok with
      | false =>
        have q9' : Nx σ8 H9 := q9
        exact again I9 q9'
      | true =>
        have q9' : te σ8 H9 _ := q9
        have q10 := he' _ s9 σ8 H9 _ I9 q9'
        rw [eP, eW, eA, eX] at q10
        refine thn q10 fun y s10 ⟨yv, H10, I10, r10, ys, hys, hz, n10⟩ => ?_
        have q11 := (mt_append (X := X')) _ s10 σ8 H10 (.ref s.heap.objs.size) [yv] (.ref s.heap.objs.size) [y] (fun _ H11 => Nx σ8 H11) I10 rfl (.cons r10 .nil) ⟨_, ys, yv, rfl, rfl, hys, hz, n10⟩
        rw [eP, eW, eA, eX] at q11
        exact thn q11 fun _ s11 ⟨_, H11, I11, _, n11⟩ => again I11 n11
  rw [eE] at loop
  exact codeAny_compStart_list loop (Tn.self _ 0 _ _ _ st4 loop)

/-- [elt for target in iter if ..] -/
theorem pe_comp (hc : X.calm = true) (S : CScope scope X.env) (hi : PI X target iter wi) (T : ∀ σ, σ.length = X.N.length → Takes X scope N σ (σ0 σ))
    (hg : ∀ C s H fp, PG (cmpCx X scope C N s H fp) target g) (ht : ∀ C s H fp, PTs (cmpCx X scope C N s H fp) ifs tt) (he : ∀ C s H fp, PE (cmpCx X scope C N s H fp) elt te)
    (hs : ∀ x, foldedSetIterable iter X.env x = pure x := by intro _; rfl) : PE X (.ListComp elt [⟨target, iter, ifs, 0⟩] scope pos) (tComp wi σ0 g tt te) := by
  intro pins s σ H Q I h
  rw [eval_ListComp]
  refine wpAny_comprehension_free (use := none) rfl hs (closureFor_eq S.free) S.kind S.loc (thn (hi pins s σ H _ I h) fun xv s₁ h₁ => thn h₁ fun itv s₂ h₂ => ?_)
  obtain ⟨it, fp, tn, J, H2, rfl, I2, Tn, st2, f2, hw⟩ := h₂
  refine comp_block (Q := fun D H' => Q (.ref D) H') (RR := fun acc C => compPost (model X.prog X.w) X.A X.xe none (EP X pins σ Q) acc C) hc S (T σ I.len) I2 Tn st2 f2 hg ht he hw ?_
  intro D C H' s' m hC _ hn hI hq
  exact ⟨m, hn, fun h' hs' => ⟨.ref D, H', hI h' hs', rfl, hq⟩⟩
/-- y = [elt for target in iter if ..], y a plain local that the comprehension does not name -/
theorem ps_setC {i : Nat} {y : Str} {py spos : Pos} (hc : X.calm = true) (S : CScope scope X.env) (hi : PI X target iter wi) (T : ∀ σ, σ.length = X.N.length → Takes X scope N σ (σ0 σ))
    (hg : ∀ C s H fp, PG (cmpCx X scope C N s H fp) target g) (ht : ∀ C s H fp, PTs (cmpCx X scope C N s H fp) ifs tt) (he : ∀ C s H fp, PE (cmpCx X scope C N s H fp) elt te)
    (hN : X.N.Nodup) (hy : X.N[i]? = some y) (hx : Loc X.env.scope y)
    (hsw : swapsWith (.ListComp elt [⟨target, iter, ifs, 0⟩] scope pos) (some (.Name y py)) spos.line X.env = pure true := by rfl)
    (hf : X.fn y = true ∨ X.env.scope.names.lookup y = some .local := by first | exact .inl rfl | exact .inr rfl | assumption)
    (hs : ∀ x, foldedSetIterable iter X.env x = pure x := by intro _; rfl) : PS X (.Assign [.Name y py] (.ListComp elt [⟨target, iter, ifs, 0⟩] scope pos) spos) (tAsg (tComp wi σ0 g tt te) (gName i)) := by
  intro pins s σ H D I h
  rw [exec_Assign_Name_used _ _ _ _ hsw]
  refine wpAny_bind (wpAny_standAt (wpAny_bind ?_))
  show wpAny _ X.A (do let _ ← comprehension (.ListComp elt [⟨target, iter, ifs, 0⟩] scope pos) scope X.env _ (newList []) false (eval iter X.env) (some (assign (.Name y py) X.env))) _ _ s
  refine wpAny_bind (thn (wpAny_comprehension_free (use := some (assign (.Name y py) X.env)) (Q := fun _ s' => SP X pins D .next s') rfl hs (closureFor_eq S.free) S.kind S.loc
    (thn (hi pins s σ H _ I h) fun xv s₁ h₁ => thn h₁ fun itv s₂ h₂ => ?_)) fun _ s' hq => wpAny_pure (wpAny_pure hq))
  obtain ⟨it, fp, tn, J, H2, rfl, I2, Tn, st2, f2, hw⟩ := h₂
  refine comp_block (Q := fun L H' => D.nx (σ.set i (some (.ref L))) H') (RR := fun acc C => compPost (model X.prog X.w) X.A X.xe (some (assign (.Name y py) X.env)) (fun _ s' => SP X pins D .next s') acc C) hc S (T σ I.len) I2 Tn st2 f2 hg ht he hw ?_
  intro L C H' s' m hC hfree hn hI hq
  have I3 : Inv X pins σ H' s' := hI s'.heap (.refl ..)
  refine wpAny_assign_Name (store_ok2 I3 hN hy hx (v := .ref L) rfl (fun s4 I4 hch => ?_) hf)
  obtain ⟨a, hsb, ha⟩ := hch
  have haC : C ≠ a := by
    rintro rfl
    rcases ha with e | e
    · have := I2.lt
      rw [← e] at this
      exact absurd (Nat.lt_of_lt_of_le this hC) (Nat.lt_irrefl _)
    · obtain ⟨v, z⟩ := I2.cell y _ e
      exact absurd (Nat.lt_of_lt_of_le z.lt hC) (Nat.lt_irrefl _)
  refine ⟨m, hn.sameBut hsb haC, fun h' hs' => ⟨_, H', ?_, hq⟩⟩
  have e4 : ({ s4 with heap := h' } : Shared) = { s4 with heap := h', toks := s4.toks } := rfl
  rw [e4]
  refine I4.turned (it := C) (fun b o hb e => (hs'.2 b hb).trans e) hfree ?_ (.inr (Nat.le_trans I2.sz hC)) ?_ ?_
  · exact Nat.ne_of_gt (Nat.lt_of_lt_of_le I2.lt hC)
  · rintro x c e rfl
    obtain ⟨v, z⟩ := I2.cell x _ e
    exact absurd (Nat.lt_of_lt_of_le z.lt hC) (Nat.lt_irrefl _)
  · rintro p hp e
    exact absurd (Nat.lt_of_lt_of_le (Heap.lt_size (I2.pin p hp).1) (by rw [e]; exact hC)) (Nat.lt_irrefl _)
end
end L2

set_option Elab.async false
set_option linter.all false
set_option maxRecDepth 100000
set_option maxHeartbeats 4000000
namespace L2
open PySem PySem.Spec PyProof.Rows
section
variable {X : Cx}
/-! ### isinstance -/
theorem call_isi {T : String} : CallR X (.builtin "isinstance") (fun xs H Q => ∃ x t b, xs = [x, .ty T] ∧ TyOf X.K H x t ∧ PySem.W.kitOne X.K t (.type T) = some b ∧ Q (.bl b) H) := by
  intro pins s σ H xs us Q I r h
  obtain ⟨x, t, b, rfl, ty, e, q⟩ := h
  obtain ⟨u, v, rfl, ru, rv⟩ := r.two
  obtain rfl : v = Value.type T := rv
  exact isinst_ok I ru ty e fun tk => ⟨.bl b, H, I.tok tk, rfl, q⟩
theorem kit_same {K : PySem.W.Frag} {T : String} : PySem.W.kitOne K (.type T) (.type T) = some true := by
  unfold PySem.W.kitOne
  rw [if_pos (by simp)]
theorem kit_of {K : PySem.W.Frag} {T U : String} {b : Bool} {l : List Value} (hm : PySem.W.kitMeta U = true) (hn : ¬ T = U) (hl : fastBuiltinMro T = some l) (hb : l.contains (.type U) = b) : PySem.W.kitOne K (.type T) (.type U) = some b := by
  unfold PySem.W.kitOne
  rw [if_neg (by simp [hn])]
  show (if PySem.W.kitMeta U = true then PySem.W.subIn K (.type T) (.type U) else none) = some b
  rw [if_pos hm]
  show (fastBuiltinMro T).map (·.contains (.type U)) = some b
  rw [hl, ← hb]
  rfl
theorem kit_non_str {K : PySem.W.Frag} : PySem.W.kitOne K (.type "NoneType") (.type "str") = some false := kit_of (l := (fastBuiltinMro "NoneType").get (by decide +kernel)) (by decide +kernel) (by decide) (by simp) (by decide +kernel)
theorem kit_bool_str {K : PySem.W.Frag} : PySem.W.kitOne K (.type "bool") (.type "str") = some false := kit_of (l := (fastBuiltinMro "bool").get (by decide +kernel)) (by decide +kernel) (by decide) (by simp) (by decide +kernel)
theorem kit_int_str {K : PySem.W.Frag} : PySem.W.kitOne K (.type "int") (.type "str") = some false := kit_of (l := (fastBuiltinMro "int").get (by decide +kernel)) (by decide +kernel) (by decide) (by simp) (by decide +kernel)
theorem kit_list_str {K : PySem.W.Frag} : PySem.W.kitOne K (.type "list") (.type "str") = some false := kit_of (l := (fastBuiltinMro "list").get (by decide +kernel)) (by decide +kernel) (by decide) (by simp) (by decide +kernel)
theorem kit_tuple_str {K : PySem.W.Frag} : PySem.W.kitOne K (.type "tuple") (.type "str") = some false := kit_of (l := (fastBuiltinMro "tuple").get (by decide +kernel)) (by decide +kernel) (by decide) (by simp) (by decide +kernel)
theorem kit_dict_str {K : PySem.W.Frag} : PySem.W.kitOne K (.type "dict") (.type "str") = some false := kit_of (l := (fastBuiltinMro "dict").get (by decide +kernel)) (by decide +kernel) (by decide) (by simp) (by decide +kernel)

/-! ### {} -/
theorem Inv.big2 {pins : List (Addr × Obj)} {σ : St} {H : Hp} {s : Shared} (I : Inv X pins σ H s) : sysModules < s.heap.objs.size :=
  Nat.lt_trans (by decide) (I.mod.glob.keeps I.bk).lt
def tDNew : TE := fun _ H Q => ∀ p, H p = none → Q (.ref p) (upd H p (.dK []))
theorem pe_dnew {pos : Pos} : PE X (.Dict [] [] pos) tDNew := fun pins s σ H Q I h =>
  wpAny_Dict_empty ⟨.ref s.heap.objs.size, _, I.laid (a := s.heap.objs.size) (o := .dK []) (t' := s.toks) (fun _ _ q => Heap.get?_push_of_some _ q) (Nat.le_refl _)
    ⟨Nat.zero_le _, beq_eq_false_iff_ne.mpr (Ne.symm (Nat.ne_of_lt I.big2)), [], .nil, Heap.DictOf.new _⟩, rfl, h _ (I.hok.fresh (Nat.le_refl _))⟩

/-! ### texts -/
theorem op_le_str : OpR X (compareOp .LtE) (fun x y H Q => ∃ i j, x = .str i ∧ y = .str j ∧ Q (.bl (!(decide (j.cps.toList < i.cps.toList)))) H) := by
  intro pins s σ H x y v u Q I rx ry h
  obtain ⟨i, j, rfl, rfl, q⟩ := h
  obtain ⟨t, rfl⟩ := rx
  obtain ⟨t', rfl⟩ := ry
  exact PySem.P.le_str (fin_bl I q rfl)
/-- one sign in a text -/
theorem op_in_sign : OpR X (compareOp .In) (fun x y H Q => ∃ (c : Nat) (j : Str), x = .str ⟨#[c]⟩ ∧ y = .str j ∧ Q (.bl (decide (c ∈ j.cps.toList))) H) := by
  intro pins s σ H x y v u Q I rx ry h
  obtain ⟨c, j, rfl, rfl, q⟩ := h
  exact op_in_str pins s σ H _ _ v u Q I rx ry ⟨_, _, rfl, rfl, by rw [StrLaws.found_one]; exact q⟩
theorem op_notin_sign : OpR X (compareOp .NotIn) (fun x y H Q => ∃ (c : Nat) (j : Str), x = .str ⟨#[c]⟩ ∧ y = .str j ∧ Q (.bl (!decide (c ∈ j.cps.toList))) H) := by
  intro pins s σ H x y v u Q I rx ry h
  obtain ⟨c, j, rfl, rfl, q⟩ := h
  exact op_notin_str pins s σ H _ _ v u Q I rx ry ⟨_, _, rfl, rfl, by rw [StrLaws.found_one]; exact q⟩
/-- a slice of a text -/
def rSlS : V → Option Int → Option Int → Hp → VK → Prop := fun x lo hi H Q => ∃ z, x = .str z ∧ z.length ≤ sizeLine ∧ Q (.str (Txt.slice z lo hi)) H
def tokPart : Value → Option (Int × Tok)
  | .int i t => some (i, t)
  | _ => none
theorem sl_str : SlR X rSlS := by
  intro pins s σ H x v vl vu lo hi sl Q I rx hs pl pu h
  obtain ⟨z, rfl, hz, q⟩ := h
  obtain ⟨t, rfl⟩ := rx
  obtain ⟨o, ho, hc, hd⟩ := hs
  refine ⟨"str", _, slot_str_getitem.lookup, typeIs_str _ _ _, ?_⟩
  cases pl with
  | none =>
    cases pu with
    | none => exact wpAny_getItem_str_slice (l := none) (u := none) (st := none) ⟨_, ho, hc, hd⟩ rfl (post_val_or_str ⟨Nat.le_trans (Txt.slice_le z _ _) hz, fun t' k => ⟨.str (Txt.slice z _ _), H, I.tok k, ⟨t', rfl⟩, q⟩⟩)
    | int j u => exact wpAny_getItem_str_slice (l := none) (u := some (j, u)) (st := none) ⟨_, ho, hc, hd⟩ rfl (post_val_or_str ⟨Nat.le_trans (Txt.slice_le z _ _) hz, fun t' k => ⟨.str (Txt.slice z _ _), H, I.tok k, ⟨t', rfl⟩, q⟩⟩)
  | int i ti =>
    cases pu with
    | none => exact wpAny_getItem_str_slice (l := some (i, ti)) (u := none) (st := none) ⟨_, ho, hc, hd⟩ rfl (post_val_or_str ⟨Nat.le_trans (Txt.slice_le z _ _) hz, fun t' k => ⟨.str (Txt.slice z _ _), H, I.tok k, ⟨t', rfl⟩, q⟩⟩)
    | int j u => exact wpAny_getItem_str_slice (l := some (i, ti)) (u := some (j, u)) (st := none) ⟨_, ho, hc, hd⟩ rfl (post_val_or_str ⟨Nat.le_trans (Txt.slice_le z _ _) hz, fun t' k => ⟨.str (Txt.slice z _ _), H, I.tok k, ⟨t', rfl⟩, q⟩⟩)
theorem slice_mem {z : Str} {lo hi : Option Int} {c : Nat} (h : c ∈ (Txt.slice z lo hi).cps.toList) : c ∈ z.cps.toList := by
  unfold Txt.slice at h
  split at h
  · exact h
  · obtain ⟨i, _, e⟩ := List.mem_filterMap.mp (by simpa using h)
    exact List.mem_of_getElem? (by simpa using e)
/-- sep.join(list of texts) -/
theorem strsAre_of : ∀ {ys : List Str} {us : List Value}, Vals (ys.map V.str) us → StrsAre us ys
  | [], _, .nil => .nil
  | y :: ys, _, .cons r t => by
    obtain ⟨tk, rfl⟩ := r
    exact .cons y tk (strsAre_of t)
def rJoin (K : PySem.W.Frag) : V → List V → Hp → VK → Prop := fun x vs H Q => ∃ sep p ys, x = .str sep ∧ vs = [.ref p] ∧ SqL K H p (ys.map V.str) ∧ (ys.map (·.length)).sum + ys.length * sep.length ≤ 16777216 ∧ Q (.str (Txt.join sep ys)) H
theorem mt_join : MtR X "str.join" (rJoin X.K) := by
  intro pins s σ H x vs v us Q I rx rv h
  obtain ⟨sep, p, ys, rfl, rfl, hq, hz, q⟩ := h
  obtain ⟨t, rfl⟩ := rx
  obtain ⟨u, rfl, ru⟩ := rv.one
  cases ru
  obtain ⟨its, r, pl, _⟩ := I.list hq
  exact join_list pl.isList (by simpa using strsAre_of r) hz fun t' k => ⟨.str (Txt.join sep ys), H, I.tok k, ⟨t', rfl⟩, q⟩
theorem join_mem : ∀ {ys : List Str} {c : Nat}, c ∈ (Str.join Str.empty ys).cps.toList → ∃ y ∈ ys, c ∈ y.cps.toList
  | [], c, h => by simp [Str.join, Str.empty] at h
  | [y], c, h => ⟨y, List.mem_singleton.mpr rfl, h⟩
  | y :: z :: r, c, h => by
    have h : c ∈ ((y ++ Str.empty) ++ Str.join Str.empty (z :: r)).cps.toList := h
    have e : ∀ a b : Str, (a ++ b).cps.toList = a.cps.toList ++ b.cps.toList := fun a b => by
      show (a.cps ++ b.cps).toList = _
      simp
    rw [e, e] at h
    rcases List.mem_append.mp h with h | h
    · rcases List.mem_append.mp h with h | h
      · exact ⟨y, List.mem_cons_self, h⟩
      · simp [Str.empty] at h
    · obtain ⟨w, hw, hc⟩ := join_mem h
      exact ⟨w, List.mem_cons_of_mem _ hw, hc⟩
theorem joinT_mem {ys : List Str} {c : Nat} (h : c ∈ (Txt.join Str.empty ys).cps.toList) : ∃ y ∈ ys, c ∈ y.cps.toList := by
  unfold Txt.join at h
  rw [StrLaws.glued_eq_join] at h
  exact join_mem h
/-- upper -/
def rUpper : V → List V → Hp → VK → Prop := fun x vs H Q => ∃ z, x = .str z ∧ vs = [] ∧ (∀ c ∈ z.cps.toList, c < 128) ∧ z.length ≤ 1000 ∧ Q (.str ⟨z.cps.map up1⟩) H
theorem mt_upper : MtR X "str.upper" rUpper := by
  intro pins s σ H x vs v us Q I rx rv h
  obtain ⟨z, rfl, rfl, ha, hz, q⟩ := h
  obtain ⟨t, rfl⟩ := rx
  obtain rfl := rv.zero
  have e := upper_ascii ha
  refine SC.upper ?_ ?_
  · rw [e]
    have e2 : (⟨z.cps.map up1⟩ : Str).length = z.length := by simp [Str.length]
    rw [e2]
    unfold Builtin.Str.tooLong
    have h1 : 1000 ≤ sizeLine := by decide
    exact decide_eq_false (by omega)
  · rw [e]
    exact ⟨.str ⟨z.cps.map up1⟩, H, I.tok _, ⟨_, rfl⟩, q⟩
end
end L2

set_option Elab.async false
set_option linter.all false
set_option maxRecDepth 100000
set_option maxHeartbeats 4000000
namespace L2
open PySem PySem.Spec PyProof.Rows
/-! ### the signs of a text, walked -/
def Its (z : Str) : It := ⟨fun i _ => i < z.cps.size, fun i H x H' => H' = H ∧ ∃ c, z.cps.toList[i]? = some c ∧ x = .str ⟨#[c]⟩, fun i _ => i = z.cps.size⟩
theorem strIter_ty (z : Str) : ["enumerate", "zip", "dict_itemiterator", "dict_reverseitemiterator", "odict_iterator", "itertools.zip_longest", "itertools.pairwise"].contains (strIterType z) = false := by
  unfold strIterType
  cases z.cps.all (· < 128) <;> decide
theorem walks_str {P : Program} {w : World} {A : Around} (hh : A.handled = none) (it : Addr) (z : Str) (t : Tok) : Walks P w A it [it] [it] z.cps.size (SignAt z) (fun i h => h.IsStrIter it (strIterType z) z t i) := by
  unfold strIterType
  cases z.cps.all (· < 128)
  · exact Walks.strWide hh it z t
  · exact Walks.strAscii hh it z t
theorem turn_str {P : Program} {w : World} {K : PySem.W.Frag} {tg : Expr} (it : Addr) (z : Str) (t : Tok) : Turn P w K tg (Its z) [it] it (fun i h => h.IsStrIter it (strIterType z) z t i) where
  mem := by simp
  obj := fun i h st b hb => by
    have e : b = it := by simpa using hb
    subst e
    obtain ⟨o, e, c, d⟩ := st
    exact ⟨o, e, fun v z => by rw [d] at z; cases z⟩
  keep := fun i h h' st k => let ⟨o, e, r⟩ := st; ⟨o, k it (by simp) o e, r⟩
  item := by
    intro X hP hw hK hc i pins s σ H E I hf st hg
    subst hP hw hK
    obtain ⟨f0, f1, f2, f3, f4, f5⟩ := hf it (by simp)
    refine (walks_str (P := X.prog) (w := X.w) (I.ok.hd hc) it z t).item i s _ _ hg st fun v h' tk hv st' kk => ?_
    obtain ⟨c, u, hcu, rfl⟩ := hv
    have I1 : Inv X pins σ H { s with heap := h', toks := tk } := I.turned (fun b o hb e => kk b o (by simpa using hb) e) f0 f1 f3 f4 f5
    obtain ⟨o, e, cc, d⟩ := id st'
    exact ⟨_, rfl, go_of (s := { s with heap := h', toks := tk }) e cc d (strIter_ty z) ⟨.str ⟨#[c]⟩, H, I1, ⟨u, rfl⟩, ⟨rfl, c, by simpa using hcu, rfl⟩, st', fun b hb => (hf b hb).1⟩⟩
  done := by
    intro X hP hw hK hc i pins s σ H E I hf st hg
    subst hP hw hK
    obtain ⟨f0, f1, f2, f3, f4, f5⟩ := hf it (by simp)
    have hg : i = z.cps.size := hg
    subst hg
    exact (walks_str (P := X.prog) (w := X.w) (I.ok.hd hc) it z t).done s _ _ st fun h' tk kk => ⟨rfl, I.turned (fun b o hb e => kk b o (by simpa using hb) e) f0 f1 f3 f4 f5⟩
  self := fun A i s Q E st h => by
    obtain ⟨o, e, c, d⟩ := st
    unfold strIterType at c
    cases ha : z.cps.all (· < 128)
    · rw [ha] at c; exact wpAny_pyIter_striter_wide ⟨o, e, c, d⟩ h
    · rw [ha] at c; exact wpAny_pyIter_striter_ascii ⟨o, e, c, d⟩ h
section
variable {X : Cx} {tg : Expr}
def iStr (tl : TE) : TI := fun σ H R => tl σ H fun x H1 => ∃ z, x = .str z ∧ R (Its z) H1
theorem pi_str {l : Expr} {tl : TE} (hl : PE X l tl) : PI X tg l (iStr tl) := by
  intro pins s σ H R I h
  refine thn (hl pins s σ H _ I h) fun v s1 ⟨x, H1, I1, r1, q1⟩ => ?_
  obtain ⟨z, e, q⟩ := q1
  subst e
  obtain ⟨t, rfl⟩ := r1
  refine wpAny_pyIter_strU ?_
  refine ⟨s1.heap.objs.size, [s1.heap.objs.size], _, _, H1, rfl, I1.kept (t' := s1.toks) fun b o e => Heap.get?_push_of_some _ e, turn_str _ z t, ⟨_, Heap.get?_push_size _ rfl, rfl, rfl⟩, fun b hb => ?_, q⟩
  have e : b = s1.heap.objs.size := by simpa using hb
  subst e
  exact I1.fpOk (Nat.le_refl _) (I1.hok.fresh (Nat.le_refl _))
/-- for c in text -/
theorem for_str {z : Str} {g : TG} {tb : TS} {D : Ends} {σ : St} {H : Hp} (Pv : Nat → St → Hp → Prop) (h0 : Pv 0 σ H)
    (hs : ∀ i c σ H, z.cps.toList[i]? = some c → Pv i σ H → g (.str ⟨#[c]⟩) σ H fun σ2 H2 => tb { D with nx := Pv (i + 1), ct := Pv (i + 1), bk := D.nx } σ2 H2) (hd : ∀ σ H, Pv z.cps.size σ H → D.nx σ H) :
    ∃ W : Nat → Nat → St → Hp → Prop, (∃ m, W 0 m σ H) ∧ ∀ i m σ H, W i m σ H →
      ((Its z).stop i H ∧ D.nx σ H) ∨ ((Its z).go i H ∧ ∃ N : St → Hp → Prop, (∀ σ' H', N σ' H' → ∃ m', m' < m ∧ W (i + 1) m' σ' H') ∧ ∀ x H', (Its z).yld i H x H' → g x σ H' fun σ2 H2 => tb { D with nx := N, ct := N, bk := D.nx } σ2 H2) := by
  refine ⟨fun i m σ H => m = z.cps.size - i ∧ i ≤ z.cps.size ∧ Pv i σ H, ⟨z.cps.size, by simp, Nat.zero_le _, h0⟩, ?_⟩
  rintro i m σ H ⟨rfl, hi, p⟩
  by_cases hlt : i < z.cps.size
  · refine .inr ⟨hlt, Pv (i + 1), fun σ' H' p' => ⟨z.cps.size - (i + 1), by omega, rfl, hlt, p'⟩, fun x H' y => ?_⟩
    obtain ⟨e, c, hc, y⟩ := y
    subst e y
    exact hs i c σ _ hc p
  · have e : i = z.cps.size := by omega
    subst e
    exact .inl ⟨rfl, hd σ H p⟩
end

/-! ### comprehensions by an invariant -/
section
variable {g : TG} {tt : TT} {te : TE} {σ0 : St} {H1 : Hp} {D : Addr} {Q : VK}
/-- what one turn must do: from the list ys with Pv i ys to that of i + 1 -/
def CompT (g : TG) (tt : TT) (te : TE) (D : Addr) (Nx : List V → St → Hp → Prop) (x : V) (σ : St) (H : Hp) : Prop :=
  g x σ H fun σ2 H3 => tt σ2 H3 fun b H4 => if b = true then te σ2 H4 fun y H5 => ∃ ys, H5 D = some (.lst ys) ∧ ys.length < sizeLine ∧ (∃ zs, upd H5 D (.lst (ys ++ [y])) D = some (.lst zs) ∧ Nx zs σ2 (upd H5 D (.lst (ys ++ [y])))) else ∃ zs, H4 D = some (.lst zs) ∧ Nx zs σ2 H4
theorem turn1 {i : Nat} {te : TE} {D : Addr} {Nx : List V → St → Hp → Prop} {x : V} {σ : St} {H : Hp} (h : te (σ.set i (some x)) H fun y H5 => ∃ ys, H5 D = some (.lst ys) ∧ ys.length < sizeLine ∧ (∃ zs, upd H5 D (.lst (ys ++ [y])) D = some (.lst zs) ∧ Nx zs (σ.set i (some x)) (upd H5 D (.lst (ys ++ [y]))))) : CompT (gName i) tYes te D Nx x σ H := by
  unfold CompT gName tYes
  exact iteT h
theorem comp_range {lo : Int} {n : Nat} (Pv : Nat → List V → St → Hp → Prop) (h0 : Pv 0 [] σ0 (upd H1 D (.lst [])))
    (hs : ∀ i ys σ H, i < n → H D = some (.lst ys) → Pv i ys σ H → CompT g tt te D (Pv (i + 1)) (.int (lo + i)) σ H)
    (hd : ∀ ys σ H, H D = some (.lst ys) → Pv n ys σ H → Q (.ref D) H) : CompW (Itr lo n) g tt te σ0 H1 D Q := by
  refine ⟨fun i m σ H => m = n - i ∧ i ≤ n ∧ ∃ ys, H D = some (.lst ys) ∧ Pv i ys σ H, ⟨n, by simp, Nat.zero_le _, [], upd_same, h0⟩, ?_⟩
  rintro i m σ H ⟨rfl, hi, ys, hD, p⟩
  by_cases hlt : i < n
  · refine .inr ⟨hlt, fun σ2 H2 => ∃ zs, H2 D = some (.lst zs) ∧ Pv (i + 1) zs σ2 H2, fun σ' H' p' => ⟨n - (i + 1), by omega, rfl, hlt, p'⟩, fun x H' y => ?_⟩
    obtain ⟨e, y⟩ := y
    subst e y
    exact hs i ys σ _ hlt hD p
  · have e : i = n := by omega
    subst e
    exact .inl ⟨Nat.le_refl _, hd ys σ H hD p⟩
theorem comp_str {z : Str} (Pv : Nat → List V → St → Hp → Prop) (h0 : Pv 0 [] σ0 (upd H1 D (.lst [])))
    (hs : ∀ i c ys σ H, z.cps.toList[i]? = some c → H D = some (.lst ys) → Pv i ys σ H → CompT g tt te D (Pv (i + 1)) (.str ⟨#[c]⟩) σ H)
    (hd : ∀ ys σ H, H D = some (.lst ys) → Pv z.cps.size ys σ H → Q (.ref D) H) : CompW (Its z) g tt te σ0 H1 D Q := by
  refine ⟨fun i m σ H => m = z.cps.size - i ∧ i ≤ z.cps.size ∧ ∃ ys, H D = some (.lst ys) ∧ Pv i ys σ H, ⟨z.cps.size, by simp, Nat.zero_le _, [], upd_same, h0⟩, ?_⟩
  rintro i m σ H ⟨rfl, hi, ys, hD, p⟩
  by_cases hlt : i < z.cps.size
  · refine .inr ⟨hlt, fun σ2 H2 => ∃ zs, H2 D = some (.lst zs) ∧ Pv (i + 1) zs σ2 H2, fun σ' H' p' => ⟨z.cps.size - (i + 1), by omega, rfl, hlt, p'⟩, fun x H' y => ?_⟩
    obtain ⟨e, c, hc, y⟩ := y
    subst e y
    exact hs i c ys σ _ hc hD p
  · have e : i = z.cps.size := by omega
    subst e
    exact .inl ⟨rfl, hd ys σ H hD p⟩
theorem comp_list {K : PySem.W.Frag} {a : Addr} {xs : List V} (Pv : Nat → List V → St → Hp → Prop) (h0 : Pv 0 [] σ0 (upd H1 D (.lst []))) (hl : ∀ i ys σ H, i ≤ xs.length → Pv i ys σ H → SqL K H a xs)
    (hs : ∀ i x ys σ H, xs[i]? = some x → H D = some (.lst ys) → Pv i ys σ H → CompT g tt te D (Pv (i + 1)) x σ H)
    (hd : ∀ ys σ H, H D = some (.lst ys) → Pv xs.length ys σ H → Q (.ref D) H) : CompW (Itl K a) g tt te σ0 H1 D Q := by
  refine ⟨fun i m σ H => m = xs.length - i ∧ i ≤ xs.length ∧ ∃ ys, H D = some (.lst ys) ∧ Pv i ys σ H, ⟨xs.length, by simp, Nat.zero_le _, [], upd_same, h0⟩, ?_⟩
  rintro i m σ H ⟨rfl, hi, ys, hD, p⟩
  have q := hl i ys σ H hi p
  by_cases hlt : i < xs.length
  · refine .inr ⟨⟨xs, xs[i], q, by simp [hlt]⟩, fun σ2 H2 => ∃ zs, H2 D = some (.lst zs) ∧ Pv (i + 1) zs σ2 H2, fun σ' H' p' => ⟨xs.length - (i + 1), by omega, rfl, hlt, p'⟩, fun x H' y => ?_⟩
    obtain ⟨e, y⟩ := y
    subst e
    exact hs i x ys σ _ (y xs q) hD p
  · have e : i = xs.length := by omega
    subst e
    exact .inl ⟨⟨xs, q, Nat.le_refl _⟩, hd ys σ H hD p⟩
end

/-! ### all, == of flat lists -/
section
variable {X : Cx}
theorem vals_bl : ∀ {bs : List Bool} {us : List Value}, Vals (bs.map V.bl) us → us = bs.map Value.bool
  | [], _, .nil => rfl
  | b :: bs, _, .cons r t => by
    cases r
    rw [vals_bl t]
    rfl
theorem range_all {bs : List Bool} : (List.range bs.length).all (fun i => bs.getD i true) = bs.all id := by
  induction bs with
  | nil => rfl
  | cons b r ih =>
    rw [List.length_cons, List.range_succ_eq_map, List.all_cons, List.all_map, List.all_cons]
    have : ((fun i => (b :: r).getD i true) ∘ Nat.succ) = fun i => r.getD i true := by
      funext i
      simp
    rw [this, ih]
    rfl
theorem call_all (hc : X.calm = true) : CallR X (.builtin "all") (fun xs H Q => ∃ (p : Addr) (bs : List Bool), xs = [.ref p] ∧ SqL X.K H p (bs.map V.bl) ∧ Q (.bl (bs.all id)) H) := by
  intro pins s σ H xs us Q I r h
  obtain ⟨p, bs, rfl, hq, q⟩ := h
  obtain ⟨u, rfl, ru⟩ := r.one
  cases ru
  obtain ⟨its, rv, pl, hz⟩ := I.list hq
  obtain rfl := vals_bl rv
  refine call_all_walk (wpAny_pyIter_list pl.isList ?_)
  have hlt : p < s.heap.objs.size := by obtain ⟨o, e, _⟩ := pl.isList; exact Heap.lt_size e
  have hl' : (s.heap.push { cls := .type "list_iterator", data := .fields #[.ref p, rawInt 0] }).IsList p (bs.map Value.bool).toArray := pl.isList.at fun o e => Heap.get?_push_of_some _ e
  refine ⟨s.heap.objs.size, _, _, _, _, _, fun i => bs.getD i true, rfl, Walks.list (A := X.A.in1) (show X.A.in1.handled = none from I.ok.hd hc) s.heap.objs.size p (Nat.ne_of_lt hlt) (bs.map Value.bool).toArray, ⟨⟨_, Heap.get?_push_size _ rfl, rfl, rfl⟩, ?_⟩, ?_, ?_⟩
  · exact pl.isList.at fun o e => Heap.get?_push_of_some _ e
  · intro i v s' Q' E' hv hQ
    have hv' : (bs.map Value.bool)[i]? = some v := by simpa using hv
    rw [List.getElem?_map] at hv'
    cases e : bs[i]? with
    | none => rw [e] at hv'; cases hv'
    | some b =>
      rw [e] at hv'
      cases hv'
      have : bs.getD i true = b := by simp [List.getD, e]
      have hQ : Q' (bs.getD i true) s' := hQ
      rw [this] at hQ
      exact wpAny_truthy_bool hQ
  · intro h' tk hk
    have I1 : Inv X pins σ H { s with heap := s.heap.push { cls := .type "list_iterator", data := .fields #[.ref p, rawInt 0] } } := I.kept (t' := s.toks) fun b o e => Heap.get?_push_of_some _ e
    have F := I.fpOk (Nat.le_refl s.heap.objs.size) (I.hok.fresh (Nat.le_refl _))
    obtain ⟨f0, f1, f2, f3, f4, f5⟩ := F
    have I2 : Inv X pins σ H { s with heap := h', toks := tk } := Inv.turned (s := { s with heap := s.heap.push { cls := .type "list_iterator", data := .fields #[.ref p, rawInt 0] } }) (h' := h') (t' := tk) (it := s.heap.objs.size) I1 (fun b o hb e => hk b o (by simpa using hb) e) f0 f1 f3 f4 f5
    refine ⟨.bl (bs.all id), H, I2, ?_, q⟩
    show Value.bool _ = Value.bool _
    have : (bs.map Value.bool).toArray.size = bs.length := by simp
    rw [this, range_all]
def eqAtV (xs ys : List V) (j : Nat) : Bool := match xs[j]?, ys[j]? with
  | some x, some y => eqV x y
  | _, _ => false
def rEqL (K : PySem.W.Frag) : R2 := fun x y H Q => ∃ (a b : Addr) (xs ys : List V), x = .ref a ∧ y = .ref b ∧ SqL K H a xs ∧ SqL K H b ys ∧ xs.all flatV = true ∧ ys.all flatV = true ∧ xs.length = ys.length ∧ Q (.bl ((List.range xs.length).all (eqAtV xs ys))) H
theorem op_eqL (hu : X.A.units < cLine) : OpR X (compareOp .Eq) (rEqL X.K) := by
  intro pins s σ H x y v u Q I rx ry h
  obtain ⟨a, b, xs, ys, rfl, rfl, ha, hb, fx, fy, hl, q⟩ := h
  cases rx
  cases ry
  obtain ⟨its, r1, p1, _⟩ := I.list ha
  obtain ⟨its2, r2, p2, _⟩ := I.list hb
  have l1 := r1.length
  have l2 := r2.length
  refine SeqAt.eq_listAt (e := eqAtV xs ys) p1.isList p2.isList (by simp only [List.size_toArray]; omega) hu (fun j h1 h2 => ?_) ⟨.bl ((List.range xs.length).all (eqAtV xs ys)), H, I, by simp only [List.size_toArray, ← l1]; rfl, q⟩
  have h1' : j < xs.length := by simp only [List.size_toArray] at h1; omega
  have h2' : j < ys.length := by simp only [List.size_toArray] at h2; omega
  have e1 : xs[j]? = some xs[j] := by simp [h1']
  have e2 : ys[j]? = some ys[j] := by simp [h2']
  obtain ⟨u1, g1, q1⟩ := r1.get e1
  obtain ⟨u2, g2, q2⟩ := r2.get e2
  have k1 : its.toArray[j] = u1 := by
    have : its[j]? = some its[j] := by simp
    rw [this] at g1
    simpa using g1
  have k2 : its2.toArray[j] = u2 := by
    have : its2[j]? = some its2[j] := by simp
    rw [this] at g2
    simpa using g2
  rw [k1, k2]
  have e3 : eqAtV xs ys j = eqV xs[j] ys[j] := by unfold eqAtV; rw [e1, e2]
  rw [e3]
  exact eqAt_V q1 q2 (List.all_eq_true.mp fx _ (List.getElem_mem h1')) (List.all_eq_true.mp fy _ (List.getElem_mem h2'))
end
end L2

set_option Elab.async false
set_option linter.all false
set_option maxRecDepth 100000
set_option maxHeartbeats 4000000
namespace L2
open PySem PySem.Spec PyProof.Rows
theorem Same.upd {H : Hp} {p : Addr} {o : HO} (h : H p = none) : Same H (upd H p o) := fun b u e => by rw [upd_ne (ne_of_none e h)]; exact e
theorem Same.put {H0 H : Hp} {p : Addr} {o : HO} (s : Same H0 H) (h : H p = none) : Same H0 (L2.upd H p o) := s.trans (Same.upd h)
/-- a thing that is not of H0 is rewritten -/
theorem Same.over {H0 H : Hp} {p : Addr} {o : HO} (s : Same H0 H) (h : H0 p = none) : Same H0 (L2.upd H p o) := fun b u e => by rw [upd_ne (ne_of_none e h)]; exact s b u e
theorem Same.tup {K : PySem.W.Frag} {H H' : Hp} {a : Addr} {xs : List V} (e : Same H H') (h : SqT K H a xs) : SqT K H' a xs := by
  rcases h with (h | ⟨o, h⟩) | h
  · exact .inl (.inl (e _ _ h))
  · exact .inl (.inr ⟨o, e _ _ h⟩)
  · exact .inr h
/-- a comprehension within a def -/
theorem cscope_fn {sc out : Scope} {qual : Str} {n : Nat} {f : Addr} {cd : Value} (hk : sc.kind = .function) (hc : (sc.names.all fun y => y.2 != .cell) = true)
    (hl : (sc.names.all fun y => y.2 != .local || sc.names.lookup y.1 == some .local) = true) (hf : (sc.names.all fun y => y.2 != .free || out.names.lookup y.1 == some .cell) = true) : CScope sc (envOfC qual out n f cd) where
  kind := hk
  nocell := fun y hy e => by have := List.all_eq_true.mp hc y hy; rw [e] at this; cases this
  loc := fun y hy e => by
    have := List.all_eq_true.mp hl y hy
    rw [e] at this
    simpa using this
  free := fun y hy e => by
    have h := List.all_eq_true.mp hf y hy
    rw [e] at h
    have h : out.names.lookup y.1 = some .cell := by simpa using h
    obtain ⟨c, hc⟩ := cell_has (n := n + 1) h
    show ((cellsFrom (n + 1) out.names []).lookup y.1).isSome = true
    rw [hc]
    rfl
def capSt (k : Nat) (cap : List Nat) (σ : St) : St := List.replicate k none ++ cap.map fun j => (σ[j]?).join
theorem takes_of {X : Cx} {scope : Scope} {N : List Str} {k : Nat} {cap : List Nat} {σ : St} (hl : k + cap.length = N.length)
    (h : ∀ (i j : Nat) (x : Str), cap[i]? = some j → N[k + i]? = some x → X.N[j]? = some x ∧ scope.names.lookup x = some .free ∧ (X.env.kindOf x = some .cell ∨ X.env.kindOf x = some .free)) : Takes X scope N σ (capSt k cap σ) := by
  refine ⟨by unfold capSt; simp [hl], fun i x v hx hv => ?_⟩
  unfold capSt at hv
  by_cases hi : i < k
  · rw [List.getElem?_append_left (by simpa using hi), List.getElem?_replicate, if_pos hi] at hv
    cases hv
  · rw [List.getElem?_append_right (by simpa using hi), List.length_replicate, List.getElem?_map] at hv
    cases hj : cap[i - k]? with
    | none => rw [hj] at hv; cases hv
    | some j =>
      rw [hj] at hv
      have hv : (σ[j]?).join = some v := Option.some.inj hv
      obtain ⟨h1, h2, h3⟩ := h (i - k) j x hj (by rw [show k + (i - k) = i by omega]; exact hx)
      refine ⟨j, h1, ?_, h2, h3⟩
      cases e : σ[j]? with
      | none => rw [e] at hv; cases hv
      | some o => rw [e] at hv; exact congrArg some hv
/-- .. by a check -/
theorem takes_in {X : Cx} {scope : Scope} {N : List Str} {k : Nat} {cap : List Nat} (hl : k + cap.length = N.length)
    (h : ((cap.zip (N.drop k)).all fun p => X.N[p.1]? == some p.2 && scope.names.lookup p.2 == some .free && (X.env.kindOf p.2 == some .cell || X.env.kindOf p.2 == some .free)) = true) : ∀ σ, σ.length = X.N.length → Takes X scope N σ (capSt k cap σ) := fun σ _ =>
  takes_of hl fun i j x hj hx => by
    have m : (j, x) ∈ cap.zip (N.drop k) := by
      refine List.mem_of_getElem? (i := i) ?_
      rw [List.getElem?_zip_eq_some]
      exact ⟨hj, by rw [List.getElem?_drop]; exact hx⟩
    have := List.all_eq_true.mp h _ m
    simp only [Bool.and_eq_true, Bool.or_eq_true, beq_iff_eq] at this
    exact ⟨this.1.1, this.1.2, this.2⟩
theorem atI_in {α : Type} {xs : List α} {i : Int} (h0 : 0 ≤ i) (h1 : i < xs.length) : ∃ v, atI xs i = some v ∧ v ∈ xs := by
  have hj : i.toNat < xs.length := by omega
  refine ⟨xs[i.toNat], ?_, List.getElem_mem hj⟩
  have := atI_nat (xs := xs) (j := i.toNat) (v := xs[i.toNat]) (by simp [hj])
  rwa [Int.toNat_of_nonneg h0] at this
/-- written items -/
def constV : Expr → Option V
  | .Constant (.str x) _ _ => some (.str x)
  | .Constant (.int i) _ _ => some (.int i)
  | .Constant (.bool b) _ _ => some (.bl b)
  | .Constant .none _ _ => some .non
  | _ => none
def constsV : List Expr → Option (List V)
  | [] => some []
  | e :: es => match constV e, constsV es with
    | some v, some vs => some (v :: vs)
    | _, _ => none
def tVals (xs : List V) : TA := fun _ H Q => Q xs H
theorem constV_ok {X : Cx} {e : Expr} {v : V} (h : constV e = some v) : PE X e (tC v) ∧ ∀ es, starEach (e :: es) X.env = (false, eval e X.env) :: starEach es X.env := by
  unfold constV at h
  split at h
  · cases h; exact ⟨pe_str, fun _ => rfl⟩
  · cases h; exact ⟨pe_int, fun _ => rfl⟩
  · cases h; exact ⟨pe_bl, fun _ => rfl⟩
  · cases h; exact ⟨pe_non, fun _ => rfl⟩
  · cases h
theorem pa_consts {X : Cx} : ∀ {es : List Expr} {xs : List V}, constsV es = some xs → PA X es (tVals xs)
  | [], xs, h => by
    have h : some [] = some xs := h
    cases h
    exact pa_nil
  | e :: es, xs, h => by
    unfold constsV at h
    split at h
    · rename_i v vs h1 h2
      cases h
      obtain ⟨p, hs⟩ := constV_ok (X := X) h1
      exact pa_cons p (pa_consts h2) (hs es)
    · cases h
/-- a def that may be called -/
structure Callee (P : Program) (w : World) (K : PySem.W.Frag) (mg : Str → Option Value) (base : Heap) (k : Nat) (x : Str) (ps : List Str) (sp : Sp) : Prop where
  ex : ∃ (f : Addr) (fd : FuncData), FnOk P w K mg base CX0 k f fd ps sp ∧ mg x = some (.ref f) ∧ PySem.W.keepIn K (.ref f) = true ∧ Binds K fd ps []
section
variable {X : Cx} {k : Nat} {x : Str} {ps : List Str} {sp : Sp} {p pos : Pos} {e : Expr} {es : List Expr} {t : TA}
theorem pe_fn (C : Callee X.prog X.w X.K X.mg X.base k x ps sp) (hr : Room k X.A) (ha : PA X (e :: es) t) (hg : Gl X x := by rfl) (hdb : (x == ("__debug__" : Str)) = false := by decide)
    (he : starEach (e :: es) X.env = (false, eval e X.env) :: starEach es X.env := by rfl) (hpl : (backTo pos (starEach es X.env)).any (·.1) = false := by rfl) : PE X (.Call (.Name x p) (e :: es) [] pos) (tCall sp [] E0 t) := by
  obtain ⟨f, fd, F, hm, hk, hb⟩ := C.ex
  exact pe_call F hr hg hm hk hb .nil pass0 ha hdb he hpl
end
end L2

set_option Elab.async false
set_option linter.all false
set_option maxRecDepth 100000
set_option maxHeartbeats 4000000
namespace L2
open PySem
theorem relV_abs {x : V} {u : Value} (h : absV u = some x) : RelV x u := by
  cases u <;> simp only [absV] at h <;> first | (cases h; first | rfl | exact ⟨_, rfl⟩) | cases h
def absAll : List Value → Option (List V)
  | [] => some []
  | u :: r => match absV u, absAll r with
    | some x, some xs => some (x :: xs)
    | _, _ => none
theorem vals_abs : ∀ {us : List Value} {xs : List V}, absAll us = some xs → Vals xs us
  | [], xs, h => by
    have h : some [] = some xs := h
    cases h
    exact .nil
  | u :: r, xs, h => by
    unfold absAll at h
    split at h
    · rename_i x ys h1 h2
      cases h
      exact .cons (relV_abs h1) (vals_abs h2)
    · cases h
/-- a tuple of the module -/
theorem top_tuple {K : PySem.W.Frag} {a : Addr} {od : Option Addr} {its : Array Value} {n : Nat} {sl : Array (Option Value)} {xs : List V} (l : K.lookup a = some ⟨.type "tuple", od, .seq its n, sl⟩) (h : absAll its.toList = some xs) (hz : xs.length ≤ 1000) : ∀ H, SqT K H a xs := fun H => by
  have v := vals_abs h
  refine .inr ⟨_, its, n, l, rfl, rfl, ?_, v⟩
  have e := v.length
  have b : 1000 ≤ sizeLine := by decide
  have e2 : its.toList.length = its.size := Array.length_toList
  omega
/-- a def of the top, by its parts -/
theorem callee_of {P : Program} {w : World} {K : PySem.W.Frag} {mg : Str → Option Value} {base : Heap} {k : Nat} {x : Str} {ps : List Str} {sp : Sp} {f : Addr} {fd : FuncData} (F : FnOk P w K mg base CX0 k f fd ps sp) (m : mg x = some (.ref f)) (kp : PySem.W.keepIn K (.ref f) = true) (b : Binds K fd ps []) : Callee P w K mg base k x ps sp := ⟨f, fd, F, m, kp, b⟩
section
variable {P : Program} {w : World} {K : PySem.W.Frag} {mg : Str → Option Value} {base : Heap}
theorem FnOk.weaken {k : Nat} {f : Addr} {fd : FuncData} {ps : List Str} {sp sp' : Sp} (F : FnOk P w K mg base CX0 k f fd ps sp) (h : ∀ vs H Q E, sp' vs H Q E → sp vs H Q E) : FnOk P w K mg base CX0 k f fd ps sp' :=
  ⟨fun vs H Q E q => F.1 vs H Q E (h _ _ _ _ q), fun A outer s H args us vs Q E a b c d q => F.2 A outer s H args us vs Q E a b c d (h _ _ _ _ q)⟩
theorem Callee.weaken {k : Nat} {x : Str} {ps : List Str} {sp sp' : Sp} (C : Callee P w K mg base k x ps sp) (h : ∀ vs H Q E, sp' vs H Q E → sp vs H Q E) : Callee P w K mg base k x ps sp' := by
  obtain ⟨f, fd, F, r⟩ := C.ex
  exact ⟨f, fd, FnOk.weaken F h, r⟩
end
end L2

set_option Elab.async false
set_option linter.all false
set_option maxRecDepth 100000
set_option maxHeartbeats 4000000
set_option autoImplicit true
namespace L2
open PySem PySem.Spec PyProof.Rows
structure QE (X : Cx) (e : Expr) (t : TE) : Prop where
  run : PE X e t
structure QT (X : Cx) (e : Expr) (t : TT) : Prop where
  run : PT X e t
structure QW (X : Cx) (e : Expr) (t : TT) : Prop where
  run : PW X e t
structure QA (X : Cx) (es : List Expr) (t : TA) : Prop where
  run : PA X es t
structure QS (X : Cx) (st : Stmt) (t : TS) : Prop where
  run : PS X st t
structure QSs (X : Cx) (sts : List Stmt) (t : TS) : Prop where
  run : PSs X sts t
structure QG (X : Cx) (e : Expr) (g : TG) : Prop where
  run : PG X e g
structure QGs (X : Cx) (es : List Expr) (g : TGs) : Prop where
  run : PGs X es g
structure QI (X : Cx) (tg iter : Expr) (wi : TI) : Prop where
  run : PI X tg iter wi
structure QC (X : Cx) (op : CmpOp) (a b : Expr) (t : TE) : Prop where
  run : PC X op a b t
structure QO (X : Cx) (e : Option Expr) (t : TO) : Prop where
  run : PO X e t
structure QTs (X : Cx) (ifs : List Expr) (t : TT) : Prop where
  run : PTs X ifs t
theorem qe_var {i : Nat} {x : Str} {pos : Pos} (hN : X.N[i]? = some x) (hv : Vis X.env.scope x) (hd : (x == ("__debug__" : Str)) = false := by decide) (hcd : (x == ("__classdict__" : Str)) = false := by decide) : QE X (.Name x pos) (tVar i) := ⟨pe_var hN hv hd hcd⟩
theorem qe_int {i j pos} : QE X (.Constant (.int i) j pos) (tC (.int i)) := ⟨pe_int⟩
theorem qe_bl {b j pos} : QE X (.Constant (.bool b) j pos) (tC (.bl b)) := ⟨pe_bl⟩
theorem qe_non {j pos} : QE X (.Constant .none j pos) (tC .non) := ⟨pe_non⟩
theorem qe_str {x j pos} : QE X (.Constant (.str x) j pos) (tC (.str x)) := ⟨pe_str⟩
theorem qe_glob {x : Str} {v : V} {u : Value} {pos : Pos} (hg : Gl X x) (hm : X.mg x = some u) (r : RelV v u) (hd : (x == ("__debug__" : Str)) = false := by decide) : QE X (.Name x pos) (tC v) := ⟨pe_glob hg hm r hd⟩
theorem qe_bltn {x : Str} {v : V} {u : Value} {pos : Pos} (hg : Gl X x) (hm : X.mg x = none) (hv : bootBuiltins x = some u) (r : RelV v u) (hn : x ≠ "__name__" := by decide) (hd : (x == ("__debug__" : Str)) = false := by decide) : QE X (.Name x pos) (tC v) := ⟨pe_bltn hg hm hv r hn hd⟩
theorem qe_op {op : Operator} {r : R2} (ho : OpR X (binaryOp op) r) (ha : QE X a ta) (hb : QE X b tb) : QE X (.BinOp a op b pos) (tOp r ta tb) := ⟨pe_op ho ha.run hb.run⟩
theorem qe_un {op : UnaryOp} {r : V → Hp → VK → Prop} (ho : UnR X (unaryOp op) r) (ha : QE X a ta) : QE X (.UnaryOp op a pos) (tUn r ta) := ⟨pe_un ho ha.run⟩
theorem qe_cmp {op : CmpOp} {t : TE} (h : QC X op a b t) (h1 : behindInMarks op b = false := by first | exact nobehind _ (by decide) (by decide) | rfl) : QE X (.Compare a [op] [b] pos) t := ⟨pe_cmp h.run h1⟩
theorem qt_cmp {op : CmpOp} {t : TE} (h : QC X op a b t) (h1 : behindInMarks op b = false := by first | exact nobehind _ (by decide) (by decide) | rfl) : QT X (.Compare a [op] [b] pos) (tB t) := ⟨pt_cmp h.run h1⟩
theorem qe_cmpR {op : CmpOp} {r : R2} (ho : OpR X (compareOp op) r) (ha : QE X a ta) (hb : QE X b tb) (hm : behindInMarks op b = false) : QE X (.Compare a [op] [b] pos) (tOp r ta tb) := ⟨pe_cmpR ho ha.run hb.run hm⟩
theorem qt_cmpR {op : CmpOp} {r : R2} (ho : OpR X (compareOp op) r) (ha : QE X a ta) (hb : QE X b tb) (hm : behindInMarks op b = false) : QT X (.Compare a [op] [b] pos) (tTest (tOp r ta tb)) := ⟨pt_cmpR ho ha.run hb.run hm⟩
theorem qe_chain {op op' : CmpOp} {r r' : R2} (ho : OpR X (compareOp op) r) (ho' : OpR X (compareOp op') r') (ha : QE X a ta) (hb : QE X b tb) (hc : QE X c tc) (hm : lastMarks [op, op'] [b, c] = false := by with_unfolding_all rfl) : QE X (.Compare a [op, op'] [b, c] pos) (tChain r r' ta tb tc) := ⟨pe_chain ho ho' ha.run hb.run hc.run hm⟩
theorem qt_chain {op op' : CmpOp} {r r' : R2} (ho : OpR X (compareOp op) r) (ho' : OpR X (compareOp op') r') (ha : QE X a ta) (hb : QE X b tb) (hc : QE X c tc) (hm : lastMarks [op, op'] [b, c] = false := by with_unfolding_all rfl) : QT X (.Compare a [op, op'] [b, c] pos) (tTest (tChain r r' ta tb tc)) := ⟨pt_chain ho ho' ha.run hb.run hc.run hm⟩
theorem qt_val {e : Expr} {t : TE} (h : QE X e t) (he : ∀ whole, isTrue e X.env whole = (do let v ← whole; standAt e.pos; holding [v] (truthy v)) := by intro _; rfl) : QT X e (tB t) := ⟨pt_val h.run he⟩
theorem qt_truth (ha : QE X a ta) (he : ∀ whole, isTrue a X.env whole = (do let v ← whole; standAt a.pos; holding [v] (truthy v))) : QT X a (fun σ H Q => ta σ H fun x H' => ∃ k, TruV X.K x H' k ∧ Q k H') := ⟨pt_truth ha.run he⟩
theorem qw_and1 (ha : QT X a tA) : QW X (.BoolOp .And [a] pos) tA := ⟨pw_and1 ha.run⟩
theorem qw_or1 (ha : QT X a tA) : QW X (.BoolOp .Or [a] pos) tA := ⟨pw_or1 ha.run⟩
theorem qw_and {rest : List Expr} (ha : QT X a tA) (hb : QW X (.BoolOp .And (b :: rest) pos) tB') : QW X (.BoolOp .And (a :: b :: rest) pos) (tAnd tA tB') := ⟨pw_and ha.run hb.run⟩
theorem qw_or {rest : List Expr} (ha : QT X a tA) (hb : QW X (.BoolOp .Or (b :: rest) pos) tB') : QW X (.BoolOp .Or (a :: b :: rest) pos) (tOr tA tB') := ⟨pw_or ha.run hb.run⟩
theorem qt_not (ha : QT X a tA) : QT X (.UnaryOp .Not a pos) (tNot tA) := ⟨pt_not ha.run⟩
theorem qe_one {op} {t : TE} (h : QE X a t) : QE X (.BoolOp op [a] pos) t := ⟨pe_one h.run⟩
theorem qe_and {rest : List Expr} (ha : QE X a ta) (hb : QE X (.BoolOp .And (b :: rest) pos) tb) : QE X (.BoolOp .And (a :: b :: rest) pos) (tAndV ta tb) := ⟨pe_and ha.run hb.run⟩
theorem qe_or {rest : List Expr} (ha : QE X a ta) (hb : QE X (.BoolOp .Or (b :: rest) pos) tb) : QE X (.BoolOp .Or (a :: b :: rest) pos) (tOrV ta tb) := ⟨pe_or ha.run hb.run⟩
theorem qe_not (ha : QE X a ta) : QE X (.UnaryOp .Not a pos) (tNotV ta) := ⟨pe_not ha.run⟩
theorem qe_ifExp {c : Expr} (hc : QT X c tA) (ha : QE X a ta) (hb : QE X b tb) : QE X (.IfExp c a b pos) (tIf tA ta tb) := ⟨pe_ifExp hc.run ha.run hb.run⟩
theorem qss_nil  : QSs X [] tNext := ⟨pss_nil⟩
theorem qss_cons {st : Stmt} {rest : List Stmt} {t u : TS} (h1 : QS X st t) (h2 : QSs X rest u) : QSs X (st :: rest) (tSeq t u) := ⟨pss_cons h1.run h2.run⟩
theorem qss_one {st : Stmt} {t : TS} (h1 : QS X st t) : QSs X [st] t := ⟨pss_one h1.run⟩
theorem qs_pass  : QS X (.Pass pos) tNext := ⟨ps_pass⟩
theorem qs_break  : QS X (.Break pos) tBreak := ⟨ps_break⟩
theorem qs_continue  : QS X (.Continue pos) tCont := ⟨ps_continue⟩
theorem qs_doc {x j pos pos'} : QS X (.Expr (.Constant (.str x) j pos) pos') tNext := ⟨ps_doc⟩
theorem qs_expr {e : Expr} {te : TE} (he : QE X e te) (hs : swapsWith e none pos.line X.env = pure false := by rfl) : QS X (.Expr e pos) (tDrop te) := ⟨ps_expr he.run hs⟩
theorem qs_ret {e : Expr} {te : TE} (he : QE X e te) : QS X (.Return (some e) pos) (tRet te) := ⟨ps_ret he.run⟩
theorem qs_retN  : QS X (.Return none pos) tRetN := ⟨ps_retN⟩
theorem qs_if {t u : TS} {c : Expr} {a b : List Stmt} {tc : TT} (hc : QT X c tc) (ha : QSs X a t) (hb : QSs X b u) : QS X (.If c a b pos) (tIfS tc t u) := ⟨ps_if hc.run ha.run hb.run⟩
theorem qgs_nil  : QGs X [] gNil := ⟨pgs_nil⟩
theorem qgs_cons {e : Expr} {es : List Expr} {t : TG} {u : TGs} (h1 : QG X e t) (h2 : QGs X es u) (hs : (assignEach (e :: es) X.env).map (·.2) = assign e X.env :: (assignEach es X.env).map (·.2) := by rfl) : QGs X (e :: es) (gCons t u) := ⟨pgs_cons h1.run h2.run hs⟩
theorem qg_name {i : Nat} {x : Str} (hN : X.N.Nodup) (hi : X.N[i]? = some x) (hx : Loc X.env.scope x) (hf : X.fn x = true ∨ X.env.scope.names.lookup x = some .local := by first | exact .inl rfl | exact .inr rfl | assumption) : QG X (.Name x pos) (gName i) := ⟨pg_name hN hi hx hf⟩
theorem qg_tup {es : List Expr} {k : Nat} {t : TGs} {n : Nat} (hc : X.calm = true) (h : QGs X es t) (hn : (assignEach es X.env).length = n := by rfl) (hst : (assignEach es X.env).findIdx? (·.1) = none := by rfl) : QG X (.Tuple es k pos) (gTup X.K n t) := ⟨pg_tup hc h.run hn hst⟩
theorem qg_sub {o i : Expr} {to ti : TE} {t : TSet} (ho : QE X o to) (hi : QE X i ti) (hs : PSet X t) (ha : ∀ v, assign (.Subscript o i pos) X.env v = (do
      let ov ← holding [v] (eval o X.env)
      let iv ← holding [v, ov] (eval i X.env)
      standAt pos
      holding [v, ov, iv] (setItem ov iv v)
      release [v, ov, iv] []) := by intro _; rfl) : QG X (.Subscript o i pos) (gSub to ti t) := ⟨pg_sub ho.run hi.run hs ha⟩
theorem qs_asg {tg e : Expr} {te : TE} {g : TG} (he : QE X e te) (hg : QG X tg g) (hs : swapsWithSole [tg] e pos.line X.env = pure false := by rfl) (hw : swappedStores [tg] e X.env = pure none := by rfl) (h1 : (assignEach [tg] X.env).map (·.2) = [assign tg X.env] := by rfl) : QS X (.Assign [tg] e pos) (tAsg te g) := ⟨ps_asg he.run hg.run hs hw h1⟩
theorem qs_set {i : Nat} {x : Str} {e : Expr} {te : TE} {pos' : Pos} (hN : X.N.Nodup) (hi : X.N[i]? = some x) (hx : Loc X.env.scope x) (he : QE X e te) (hs : swapsWith e (some (.Name x pos')) pos.line X.env = pure false := by rfl) (hf : X.fn x = true ∨ X.env.scope.names.lookup x = some .local := by first | exact .inl rfl | exact .inr rfl | assumption) : QS X (.Assign [.Name x pos'] e pos) (tAsg te (gName i)) := ⟨ps_set hN hi hx he.run hs hf⟩
theorem qs_aug {i : Nat} {x : Str} {e : Expr} {te : TE} {op : Operator} {ti : TIp} {pos' : Pos} (hN : X.N.Nodup) (hi : X.N[i]? = some x) (hx : Loc X.env.scope x) (he : QE X e te) (ho : PIp X op ti) (hf : X.fn x = true ∨ X.env.scope.names.lookup x = some .local := by first | exact .inl rfl | exact .inr rfl | assumption) : QS X (.AugAssign (.Name x pos') op e pos) (tAug i te ti) := ⟨ps_aug hN hi hx he.run ho hf⟩
theorem qs_augS {o i e : Expr} {to ti te : TE} {tget : V → V → Hp → VK → Prop} {tip : TIp} {tset : TSet} {op : Operator} {tpos : Pos} (ho : QE X o to) (hi : QE X i ti) (hg : PGet X tget) (he : QE X e te) (hp : PIp X op tip) (hs : PSet X tset) (ha : ∀ ov iv new, augStore i ov iv new = (do holding [new, ov, iv] (setItem ov iv new); release [new, ov, iv] []; pure .next) := by intros; rfl) : QS X (.AugAssign (.Subscript o i tpos) op e pos) (tAugS to ti te tget tip tset) := ⟨ps_augS ho.run hi.run hg he.run hp hs ha⟩
theorem qs_while {c : Expr} {body : List Stmt} {tc : TT} {tb : TS} (hp : PassesOwn (model X.prog X.w) X.A X.env X.xe) (hc : QT X c tc) (hb : QSs X body tb) : QS X (.While c body [] pos) (tWhile tc tb) := ⟨ps_while hp hc.run hb.run⟩
theorem qi_list {l : Expr} {tl : TE} (hl : QE X l tl) : QI X tg l (iList X.K tl) := ⟨pi_list hl.run⟩
theorem qi_tup {l : Expr} {tl : TE} (hl : QE X l tl) : QI X tg l (iTup X.K tl) := ⟨pi_tup hl.run⟩
theorem qi_range1 {a : Expr} {ta : TA} {p pos : Pos} (hg : Gl X "range") (hm : X.mg "range" = none) (ha : QA X [a] ta) (hs : starEach [a] X.env = [(false, eval a X.env)] := by rfl) : QI X tg (.Call (.Name "range" p) [a] [] pos) (iRng1 ta) := ⟨pi_range1 hg hm ha.run hs⟩
theorem qi_range2 {a b : Expr} {ta : TA} {p pos : Pos} (hg : Gl X "range") (hm : X.mg "range" = none) (ha : QA X [a, b] ta) (hs : starEach [a, b] X.env = [(false, eval a X.env), (false, eval b X.env)] := by rfl) (hs2 : starEach [b] X.env = [(false, eval b X.env)] := by rfl) : QI X tg (.Call (.Name "range" p) [a, b] [] pos) (iRng2 ta) := ⟨pi_range2 hg hm ha.run hs hs2⟩
theorem qi_str {l : Expr} {tl : TE} (hl : QE X l tl) : QI X tg l (iStr tl) := ⟨pi_str hl.run⟩
theorem qs_for {iter : Expr} {body : List Stmt} {wi : TI} {g : TG} {tb : TS} {pos : Pos} (hp : PassesOwn (model X.prog X.w) X.A X.env X.xe) (hc : X.calm = true) (hi : QI X tg iter wi) (hg : QG X tg g) (hb : QSs X body tb) (hs : ∀ x, foldedSetIterable iter X.env x = pure x := by intro _; rfl) : QS X (.For tg iter body [] pos) (tFor wi g tb) := ⟨ps_for hp hc hi.run hg.run hb.run hs⟩
theorem qe_fld (he : QE X e ta) (hb : attributeBase e f X.env (eval e X.env) = eval e X.env) : QE X (.Attribute e f pos) (tFld X.K ta f) := ⟨pe_fld he.run hb⟩
theorem qs_fld (ha : QE X o ta) (hv : QE X value tv) (hs : swapsWith value (some (.Attribute o f pos')) pos.line X.env = pure false) : QS X (.Assign [.Attribute o f pos'] value pos) (sFld X.K ta tv f) := ⟨ps_fld ha.run hv.run hs⟩
theorem qa_nil  : QA X [] tNil := ⟨pa_nil⟩
theorem qa_cons (ha : QE X e te) (hr : QA X es t) (hs : starEach (e :: es) X.env = (false, eval e X.env) :: starEach es X.env := by rfl) : QA X (e :: es) (tCons te t) := ⟨pa_cons ha.run hr.run hs⟩
theorem qe_tup {x1} (h : QA X es t) : QE X (.Tuple es x1 pos) (tTup t) := ⟨pe_tup h.run⟩
theorem qe_lst (h : QA X es t) : QE X (.List es pos) (tLst t) := ⟨pe_lst h.run⟩
theorem qe_fn (C : Callee X.prog X.w X.K X.mg X.base k x ps sp) (hr : Room k X.A) (ha : QA X (e :: es) t) (hg : Gl X x := by rfl) (hdb : (x == ("__debug__" : Str)) = false := by decide) (he : starEach (e :: es) X.env = (false, eval e X.env) :: starEach es X.env := by rfl) (hpl : (backTo pos (starEach es X.env)).any (·.1) = false := by rfl) : QE X (.Call (.Name x p) (e :: es) [] pos) (tCall sp [] E0 t) := ⟨pe_fn C hr ha.run hg hdb he hpl⟩
theorem qe_callB {id : String} (hc : CallR X (.builtin id) r) (hg : Gl X x) (hm : X.mg x = none) (hv : bootBuiltins x = some (.builtin id)) (ha : QA X (e :: es) t) (hn : x ≠ "__name__" := by decide) (hdb : (x == ("__debug__" : Str)) = false := by decide) (he : starEach (e :: es) X.env = (false, eval e X.env) :: starEach es X.env := by rfl) (hpl : (backTo pos (starEach es X.env)).any (·.1) = false := by rfl) : QE X (.Call (.Name x p) (e :: es) [] pos) (tCB r t) := ⟨pe_callB hc hg hm hv ha.run hn hdb he hpl⟩
theorem qe_callTy {T : String} (hc : CallR X (.type T) r) (hg : Gl X x) (hm : X.mg x = none) (hv : bootBuiltins x = some (.type T)) (ha : QA X (e :: es) t) (hn : x ≠ "__name__" := by decide) (hdb : (x == ("__debug__" : Str)) = false := by decide) (he : starEach (e :: es) X.env = (false, eval e X.env) :: starEach es X.env := by rfl) (hpl : (backTo pos (starEach es X.env)).any (·.1) = false := by rfl) : QE X (.Call (.Name x p) (e :: es) [] pos) (tCB r t) := ⟨pe_callTy hc hg hm hv ha.run hn hdb he hpl⟩
theorem qe_callTy0 {T : String} (hc : CallR X (.type T) r) (hg : Gl X x) (hm : X.mg x = none) (hv : bootBuiltins x = some (.type T)) (hn : x ≠ "__name__" := by decide) (hdb : (x == ("__debug__" : Str)) = false := by decide) : QE X (.Call (.Name x p) [] [] pos) (tCB r tNil) := ⟨pe_callTy0 hc hg hm hv hn hdb⟩
theorem qo_none  : QO X none tNoPart := ⟨po_none⟩
theorem qo_some (h : QE X e te) : QO X (some e) (tPart te) := ⟨po_some h.run⟩
theorem qe_slice {lo hi : Option Expr} {r : V → Option Int → Option Int → Hp → VK → Prop} (hr : SlR X r) (he : QE X e te) (hl : QO X lo tl) (hu : QO X hi th) : QE X (.Subscript e (.Slice lo hi none p2) pos) (tSl r te tl th) := ⟨pe_slice hr he.run hl.run hu.run⟩
theorem qe_ix {r : R2} (hr : IxR X r) (ha : QE X a ta) (hb : QE X b tb) (hs : PlainIx b) : QE X (.Subscript a b pos) (tOp r ta tb) := ⟨pe_ix hr ha.run hb.run hs⟩
theorem qe_bm {T id : String} (pa : PlainAttrs T) (slot : Slot T name id) (hty : typeOf (.builtin id) = pure (.type "method_descriptor")) (hm : MtR X id r) (ho : QE X o to) (ha : QA X (e :: es) t) (hbase : attributeBase o name X.env (eval o X.env) = eval o X.env := by rfl) (hfew : ((backTo cpos (starEach (e :: es) X.env)).all (fun x => !x.1) && (backToKw cpos (keywordEach [] X.env)).all (fun x => x.1.isSome)
      && decide ((e :: es).length + ([] : List Keyword).length + (if ([] : List Keyword).isEmpty then 0 else 1) < 30)) = true := by rfl) (hline : (apos.endLine == cpos.line) = true := by rfl) (hs : starEach (e :: es) X.env = (false, eval e X.env) :: starEach es X.env := by rfl) (hplain : (backTo cpos (starEach es X.env)).any (·.1) = false := by rfl) : QE X (.Call (.Attribute o name apos) (e :: es) [] cpos) (tBM X.K T r to t) := ⟨pe_bm pa slot hty hm ho.run ha.run hbase hfew hline hs hplain⟩
theorem qe_bm0 {T id : String} (pa : PlainAttrs T) (slot : Slot T name id) (hty : typeOf (.builtin id) = pure (.type "method_descriptor")) (hm : MtR X id r) (ho : QE X o to) (hbase : attributeBase o name X.env (eval o X.env) = eval o X.env := by rfl) (hline : (apos.endLine == cpos.line) = true := by rfl) : QE X (.Call (.Attribute o name apos) [] [] cpos) (tBM0 X.K T r to) := ⟨pe_bm0 pa slot hty hm ho.run hbase hline⟩
theorem qe_comp (hc : X.calm = true) (S : CScope scope X.env) (hi : QI X target iter wi) (T : ∀ σ, σ.length = X.N.length → Takes X scope N σ (σ0 σ)) (hg : ∀ C s H fp, QG (cmpCx X scope C N s H fp) target g) (ht : ∀ C s H fp, QTs (cmpCx X scope C N s H fp) ifs tt) (he : ∀ C s H fp, QE (cmpCx X scope C N s H fp) elt te) (hs : ∀ x, foldedSetIterable iter X.env x = pure x := by intro _; rfl) : QE X (.ListComp elt [⟨target, iter, ifs, 0⟩] scope pos) (tComp wi σ0 g tt te) := ⟨pe_comp hc S hi.run T (fun C s H fp => (hg C s H fp).run) (fun C s H fp => (ht C s H fp).run) (fun C s H fp => (he C s H fp).run) hs⟩
theorem qs_setC {i : Nat} {y : Str} {py spos : Pos} (hc : X.calm = true) (S : CScope scope X.env) (hi : QI X target iter wi) (T : ∀ σ, σ.length = X.N.length → Takes X scope N σ (σ0 σ)) (hg : ∀ C s H fp, QG (cmpCx X scope C N s H fp) target g) (ht : ∀ C s H fp, QTs (cmpCx X scope C N s H fp) ifs tt) (he : ∀ C s H fp, QE (cmpCx X scope C N s H fp) elt te) (hN : X.N.Nodup) (hy : X.N[i]? = some y) (hx : Loc X.env.scope y) (hsw : swapsWith (.ListComp elt [⟨target, iter, ifs, 0⟩] scope pos) (some (.Name y py)) spos.line X.env = pure true := by rfl) (hf : X.fn y = true ∨ X.env.scope.names.lookup y = some .local := by first | exact .inl rfl | exact .inr rfl | assumption) (hs : ∀ x, foldedSetIterable iter X.env x = pure x := by intro _; rfl) : QS X (.Assign [.Name y py] (.ListComp elt [⟨target, iter, ifs, 0⟩] scope pos) spos) (tAsg (tComp wi σ0 g tt te) (gName i)) := ⟨ps_setC hc S hi.run T (fun C s H fp => (hg C s H fp).run) (fun C s H fp => (ht C s H fp).run) (fun C s H fp => (he C s H fp).run) hN hy hx hsw hf hs⟩
theorem qe_dnew {pos : Pos} : QE X (.Dict [] [] pos) tDNew := ⟨pe_dnew⟩
theorem qts_nil {X : Cx} : QTs X [] tYes := ⟨pts_nil⟩
theorem qts_one {X : Cx} {c : Expr} {t : TT} (h : QT X c t) : QTs X [c] t := ⟨pts_one h.run⟩
theorem qc_isN {j pos'} (ha : QE X a ta) : QC X .Is a (.Constant .none j pos') (tIsN ta) := ⟨pc_isN ha.run⟩
theorem qc_notN {j pos'} (ha : QE X a ta) : QC X .IsNot a (.Constant .none j pos') (tNotN ta) := ⟨pc_notN ha.run⟩
end L2

set_option Elab.async false
set_option linter.all false
set_option maxRecDepth 100000
set_option maxHeartbeats 4000000
namespace L2
open PySem PySem.Spec PyProof.Rows
theorem qa_consts {X : Cx} {es : List Expr} {xs : List V} (h : constsV es = some xs) : QA X es (tVals xs) := ⟨pa_consts h⟩
theorem qv {X : Cx} (i : Nat) {x : Str} {pos : Pos} (hN : X.N[i]? = some x := by rfl) (hv : Vis X.env.scope x := by first | exact Or.inl rfl | exact Or.inr (Or.inl rfl) | exact Or.inr (Or.inr rfl)) (hd : (x == ("__debug__" : Str)) = false := by decide)
    (hcd : (x == ("__classdict__" : Str)) = false := by decide) : QE X (.Name x pos) (tVar i) := ⟨pe_var hN hv hd hcd⟩
theorem QW.qt {X : Cx} {e : Expr} {t : TT} (h : QW X e t) : QT X e t := ⟨h.run.pt⟩
section
variable {P : Program} {w : World} {K : PySem.W.Frag} {mg : Str → Option Value} {base : Heap}
theorem Fun.okq {x qual : Str} {st : Stmt} {f : Addr} {fd : FuncData} {N ps : List Str} {k : Nat} {sp : Sp} (F : Fun K x qual st f fd) (S : FnScope N ps (defScope st)) (len : ∀ vs H Q E, sp vs H Q E → vs.length = ps.length)
    (hbody : ∀ (cdv : Value) (A : Around) (outer : List Env) (s : Shared) (H : Hp) (vs : List V) (Q : VK) (E : XK), Room k (A.deeper (envOfC qual (defScope st) s.heap.objs.size f cdv)) → sp vs H Q E →
      ∃ t, QSs (cxOf CX0 P w K mg base N qual (defScope st) f cdv A outer s H E).nox (defBody st) t ∧ t { nx := fun _ H' => Q .non H', rt := Q } (start N vs) H) : FnOk P w K mg base CX0 (k + 1) f fd ps sp :=
  F.ok S len fun cdv A outer s H vs Q E hr h => by
    obtain ⟨t, q, r⟩ := hbody cdv A outer s H vs Q E hr h
    exact ⟨t, q.run, r⟩
end
end L2

set_option Elab.async false
set_option linter.all false
set_option maxRecDepth 100000
set_option maxHeartbeats 4000000
namespace L2
open PySem PySem.Spec PyProof.Rows
section
variable {X : Cx}
/-! ### one rule an operator, whatever its operands are -/
def rAddS : R2 := fun x y H Q => ∃ i j, x = .str i ∧ y = .str j ∧ i.length + j.length ≤ sizeLine ∧ Q (.str (i ++ j)) H
/-- t + u of two tuples: one of them, where the other is empty -/
def rCatA (K : PySem.W.Frag) : R2 := fun x y H Q => ∃ a b xs ys, x = .ref a ∧ y = .ref b ∧ SqT K H a xs ∧ SqT K H b ys ∧ xs.length + ys.length ≤ sizeLine ∧
  ∀ r H', Same H H' → SqT K H' r (xs ++ ys) → Q (.ref r) H'
theorem op_catA : OpR X (binaryOp .Add) (rCatA X.K) := by
  intro pins s σ H x y v u Q I rx ry h
  obtain ⟨a, b, xs, ys, rfl, rfl, ha, hb, hz, q⟩ := h
  by_cases hx : xs = []
  · subst hx
    cases rx
    cases ry
    obtain ⟨its, r1, p1, _⟩ := I.tuple ha
    obtain ⟨its2, r2, p2, _⟩ := I.tuple hb
    cases r1
    obtain ⟨⟨cls, dd, data, sl⟩, ho, hc, n, hd⟩ := id p1
    obtain ⟨⟨cls2, dd2, data2, sl2⟩, ho2, hc2, n2, hd2⟩ := id p2
    simp only at hc hd hc2 hd2
    subst hc hd hc2 hd2
    exact concat_meets ⟨_, ho, rfl⟩ ⟨_, ho2, rfl⟩ noFill_tuple_add seq_tuple_add PySem.F.slot_tuple_add PySem.F.entry_tuple_add (PySem.F.args_tuple_add_2 _ _)
      (tuple_addW0 a b _ _ n n2 dd dd2 sl sl2 (by simp)) ⟨ho, ho2, ⟨.ref b, H, I, rfl, q b H (Same.refl H) hb⟩⟩
  · refine op_catT pins s σ H _ _ v u Q I rx ry ⟨a, b, xs, ys, rfl, rfl, ha, hb, hx, hz, fun e => ?_, fun _ p hp => q p _ (fun c o e => by rw [upd_ne (ne_of_none e hp)]; exact e) (.inl (.inl upd_same))⟩
    subst e
    exact q a H (Same.refl H) (by rw [List.append_nil]; exact ha)
def rAddA (K : PySem.W.Frag) : R2 := fun x y H Q => rI0 (fun i j => .int (i + j)) x y H Q ∨ rAddS x y H Q ∨ rCat x y H Q ∨ rCatA K x y H Q
theorem op_addA : OpR X (binaryOp .Add) (rAddA X.K) := op_add.or (op_add_str.or (op_cat.or op_catA))
theorem s_add_int {K : PySem.W.Frag} {i j : Int} {H : Hp} {Q : VK} (h : Q (.int (i + j)) H) : rAddA K (.int i) (.int j) H Q := .inl ⟨i, j, rfl, rfl, h⟩
theorem s_add_str {K : PySem.W.Frag} {i j : Str} {H : Hp} {Q : VK} (hl : i.length + j.length ≤ sizeLine) (h : Q (.str (i ++ j)) H) : rAddA K (.str i) (.str j) H Q := .inr (.inl ⟨i, j, rfl, rfl, hl, h⟩)
theorem s_add_lst {K : PySem.W.Frag} {a b : Addr} {xs ys : List V} {H : Hp} {Q : VK} (ha : H a = some (.lst xs)) (hb : H b = some (.lst ys)) (hz : xs.length + ys.length ≤ sizeLine) (h : ∀ p, H p = none → Q (.ref p) (upd H p (.lst (xs ++ ys)))) : rAddA K (.ref a) (.ref b) H Q := .inr (.inr (.inl ⟨a, b, xs, ys, rfl, rfl, ha, hb, hz, h⟩))
theorem s_add_tup {K : PySem.W.Frag} {a b : Addr} {xs ys : List V} {H : Hp} {Q : VK} (ha : SqT K H a xs) (hb : SqT K H b ys) (hz : xs.length + ys.length ≤ sizeLine) (h : ∀ r H', Same H H' → SqT K H' r (xs ++ ys) → Q (.ref r) H') : rAddA K (.ref a) (.ref b) H Q := .inr (.inr (.inr ⟨a, b, xs, ys, rfl, rfl, ha, hb, hz, h⟩))
/-- * -/
def rMulA : R2 := fun x y H Q => rI CMul (fun i j => .int (i * j)) x y H Q ∨ rRep x y H Q
theorem op_mulA : OpR X (binaryOp .Mult) rMulA := op_mul.or op_rep
theorem s_mul_l {i j : Int} {H : Hp} {Q : VK} (h1 : -(2 ^ 64) < i) (h2 : i < 2 ^ 64) (h : Q (.int (i * j)) H) : rMulA (.int i) (.int j) H Q := .inl ⟨i, j, rfl, rfl, .inl ⟨h1, h2⟩, h⟩
theorem s_mul_r {i j : Int} {H : Hp} {Q : VK} (h1 : -(2 ^ 64) < j) (h2 : j < 2 ^ 64) (h : Q (.int (i * j)) H) : rMulA (.int i) (.int j) H Q := .inl ⟨i, j, rfl, rfl, .inr ⟨h1, h2⟩, h⟩
theorem s_rI {C : Int → Int → Prop} {g : Int → Int → V} {i j : Int} {H : Hp} {Q : VK} (hc : C i j) (h : Q (g i j) H) : rI C g (.int i) (.int j) H Q := ⟨i, j, rfl, rfl, hc, h⟩
theorem s_rI0 {g : Int → Int → V} {i j : Int} {H : Hp} {Q : VK} (h : Q (g i j) H) : rI0 g (.int i) (.int j) H Q := ⟨i, j, rfl, rfl, h⟩
theorem s_rU {g : Int → V} {i : Int} {H : Hp} {Q : VK} (h : Q (g i) H) : rU g (.int i) H Q := ⟨i, rfl, h⟩
/-- < <= of ints and texts -/
def rLtA : R2 := fun x y H Q => rI0 (fun i j => .bl (decide (i < j))) x y H Q ∨ ∃ i j, x = .str i ∧ y = .str j ∧ Q (.bl (decide (i.cps.toList < j.cps.toList))) H
theorem op_ltA : OpR X (compareOp .Lt) rLtA := op_lt.or op_lt_str
def rLeA : R2 := fun x y H Q => rI0 (fun i j => .bl (decide (i ≤ j))) x y H Q ∨ ∃ i j, x = .str i ∧ y = .str j ∧ Q (.bl (!(decide (j.cps.toList < i.cps.toList)))) H
theorem op_leA : OpR X (compareOp .LtE) rLeA := op_le.or op_le_str
theorem s_lt {i j : Int} {H : Hp} {Q : VK} (h : Q (.bl (decide (i < j))) H) : rLtA (.int i) (.int j) H Q := .inl ⟨i, j, rfl, rfl, h⟩
theorem s_le {i j : Int} {H : Hp} {Q : VK} (h : Q (.bl (decide (i ≤ j))) H) : rLeA (.int i) (.int j) H Q := .inl ⟨i, j, rfl, rfl, h⟩
/-- in -/
def rInS (neg : Bool) : R2 := fun x y H Q => ∃ (c : Nat) (j : Str), x = .str ⟨#[c]⟩ ∧ y = .str j ∧ Q (.bl (if neg then !decide (c ∈ j.cps.toList) else decide (c ∈ j.cps.toList))) H
theorem op_inS : OpR X (compareOp .In) (rInS false) := op_in_sign
theorem op_notinS : OpR X (compareOp .NotIn) (rInS true) := op_notin_sign
def rInA (K : PySem.W.Frag) (neg : Bool) : R2 := fun x y H Q => rIn K neg x y H Q ∨ rInS neg x y H Q
theorem op_inA : OpR X (compareOp .In) (rInA X.K false) := op_in_seq.or op_inS
theorem op_notinA : OpR X (compareOp .NotIn) (rInA X.K true) := op_notIn_seq.or op_notinS
theorem s_in_seq {K : PySem.W.Frag} {neg : Bool} {x : V} {p : Addr} {xs : List V} {H : Hp} {Q : VK} (hq : SqL K H p xs ∨ SqT K H p xs) (hx : flatV x = true) (hxs : xs.all flatV = true) (h : Q (.bl (if neg then !inV x xs else inV x xs)) H) : rInA K neg x (.ref p) H Q := .inl ⟨p, xs, rfl, hq, hx, hxs, h⟩
/-! ### slices -/
def rSlA (K : PySem.W.Frag) : V → Option Int → Option Int → Hp → VK → Prop := fun x lo hi H Q => rSlL K x lo hi H Q ∨ rSlS x lo hi H Q ∨ rSlT K x lo hi H Q
theorem sl_any : SlR X (rSlA X.K) := sl_list.or (sl_str.or sl_tup)
theorem s_sl_lst {K : PySem.W.Frag} {a : Addr} {xs : List V} {lo hi : Option Int} {H : Hp} {Q : VK} (ha : SqL K H a xs) (h : ∀ p, H p = none → Q (.ref p) (upd H p (.lst (cutV xs lo hi)))) : rSlA K (.ref a) lo hi H Q := .inl ⟨a, xs, rfl, ha, h⟩
theorem s_sl_str {K : PySem.W.Frag} {z : Str} {lo hi : Option Int} {H : Hp} {Q : VK} (hl : z.length ≤ sizeLine) (h : Q (.str (Txt.slice z lo hi)) H) : rSlA K (.str z) lo hi H Q := .inr (.inl ⟨z, rfl, hl, h⟩)
/-! ### items -/
theorem s_ix_lst {K : PySem.W.Frag} {a : Addr} {xs : List V} {i : Int} {v : V} {H : Hp} {Q : VK} (ha : SqL K H a xs) (hv : atI xs i = some v) (h : Q v H) : rIx K (.ref a) (.int i) H Q := .inl ⟨a, xs, i, v, rfl, rfl, ha, hv, h⟩
theorem s_ix_tup {K : PySem.W.Frag} {a : Addr} {xs : List V} {i : Int} {v : V} {H : Hp} {Q : VK} (ha : SqT K H a xs) (hv : atI xs i = some v) (h : Q v H) : rIx K (.ref a) (.int i) H Q := .inr (.inl ⟨a, xs, i, v, rfl, rfl, ha, hv, h⟩)
theorem s_ix_str {K : PySem.W.Frag} {z : Str} {i : Int} {c : Nat} {H : Hp} {Q : VK} (hl : z.length ≤ sizeLine) (hv : atI z.cps.toList i = some c) (h : Q (.str ⟨#[c]⟩) H) : rIx K (.str z) (.int i) H Q := .inr (.inr ⟨z, i, c, rfl, rfl, hl, hv, h⟩)
/-! ### len -/
def rLen (K : PySem.W.Frag) : List V → Hp → VK → Prop := fun xs H Q => ∃ x n, xs = [x] ∧ LenV K x H n ∧ Q (.int n) H
theorem call_lenA : CallR X (.builtin "len") (rLen X.K) := call_len
theorem s_len_lst {K : PySem.W.Frag} {a : Addr} {xs : List V} {H : Hp} {Q : VK} (ha : SqL K H a xs) (h : Q (.int xs.length) H) : rLen K [.ref a] H Q := ⟨_, _, rfl, .inl ⟨xs, ha, rfl⟩, h⟩
theorem s_len_tup {K : PySem.W.Frag} {a : Addr} {xs : List V} {H : Hp} {Q : VK} (ha : SqT K H a xs) (h : Q (.int xs.length) H) : rLen K [.ref a] H Q := ⟨_, _, rfl, .inr ⟨xs, ha, rfl⟩, h⟩
theorem s_len_str {K : PySem.W.Frag} {z : Str} {H : Hp} {Q : VK} (hl : z.length ≤ sizeLine) (h : Q (.int z.length) H) : rLen K [.str z] H Q := ⟨_, _, rfl, ⟨hl, rfl⟩, h⟩
/-! ### a constant, a class of the module -/
structure Glob (mg : Str → Option Value) (x : Str) (v : V) : Prop where
  ex : ∃ u, mg x = some u ∧ RelV v u
theorem qe_gl {x : Str} {v : V} {pos : Pos} (G : Glob X.mg x v) (hg : Gl X x := by rfl) (hd : (x == ("__debug__" : Str)) = false := by decide) : QE X (.Name x pos) (tC v) := by
  obtain ⟨u, h, r⟩ := G.ex
  exact ⟨pe_glob hg h r hd⟩
/-! ### what is walked: a list, a tuple, a text -/
def iAny (K : PySem.W.Frag) (tl : TE) : TI := fun σ H R => tl σ H fun x H1 => (∃ a, x = .ref a ∧ (∃ xs, SqL K H1 a xs) ∧ R (Itl K a) H1) ∨ (∃ a, x = .ref a ∧ (∃ xs, SqT K H1 a xs) ∧ R (Itt K a) H1) ∨ ∃ z, x = .str z ∧ R (Its z) H1
theorem qi_any {tg l : Expr} {tl : TE} (hl : QE X l tl) : QI X tg l (iAny X.K tl) := by
  refine ⟨fun pins s σ H R I h => ?_⟩
  refine thn (hl.run pins s σ H _ I h) fun v s1 ⟨x, H1, I1, r1, q1⟩ => ?_
  have one : ∀ (l : Expr) (t : TE), PE X l t → True := fun _ _ _ => trivial
  rcases q1 with ⟨a, e, ⟨xs, hq⟩, q⟩ | ⟨a, e, ⟨xs, hq⟩, q⟩ | ⟨z, e, q⟩
  · subst e
    cases r1
    obtain ⟨its, rv, p, hz⟩ := I1.list hq
    refine wpAny_pyIter_list p.isList ?_
    refine ⟨s1.heap.objs.size, [s1.heap.objs.size], _, _, H1, rfl, I1.kept (t' := s1.toks) fun b o e => Heap.get?_push_of_some _ e, turn_list a _, ⟨_, Heap.get?_push_size _ rfl, rfl, rfl⟩, fun b hb => ?_, q⟩
    have e : b = s1.heap.objs.size := by simpa using hb
    subst e
    exact I1.fpOk (Nat.le_refl _) (I1.hok.fresh (Nat.le_refl _))
  · subst e
    cases r1
    obtain ⟨its, rv, p, hz⟩ := I1.tuple hq
    refine wpAny_pyIter_tuple (show s1.heap.IsTuple a its.toArray from p) ?_
    refine ⟨s1.heap.objs.size, [s1.heap.objs.size], _, _, H1, rfl, I1.kept (t' := s1.toks) fun b o e => Heap.get?_push_of_some _ e, turn_tuple a _, ⟨_, Heap.get?_push_size _ rfl, rfl, rfl⟩, fun b hb => ?_, q⟩
    have e : b = s1.heap.objs.size := by simpa using hb
    subst e
    exact I1.fpOk (Nat.le_refl _) (I1.hok.fresh (Nat.le_refl _))
  · subst e
    obtain ⟨t, rfl⟩ := r1
    refine wpAny_pyIter_strU ?_
    refine ⟨s1.heap.objs.size, [s1.heap.objs.size], _, _, H1, rfl, I1.kept (t' := s1.toks) fun b o e => Heap.get?_push_of_some _ e, turn_str _ z t, ⟨_, Heap.get?_push_size _ rfl, rfl, rfl⟩, fun b hb => ?_, q⟩
    have e : b = s1.heap.objs.size := by simpa using hb
    subst e
    exact I1.fpOk (Nat.le_refl _) (I1.hok.fresh (Nat.le_refl _))
/-- not, as a value -/
theorem qe_notV {a : Expr} {ta : TE} {pos : Pos} (ha : QE X a ta) : QE X (.UnaryOp .Not a pos) (tNotV ta) := ⟨pe_not ha.run⟩
end
end L2

set_option Elab.async false
set_option linter.all false
set_option maxRecDepth 100000
set_option maxHeartbeats 4000000
namespace L2
open PySem PySem.Spec PyProof.Rows
/-! ### range(i, j, -1) -/
/-- hi, hi - 1, .. (n of them) -/
def Itd (hi : Int) (n : Nat) : It := ⟨fun i _ => i < n, fun i H x H' => H' = H ∧ x = .int (hi - i), fun i _ => n ≤ i⟩
theorem rangeSize_down (a b : Int) : Builtin.Range.rangeSize a b (-1) = if b < a then a - b else 0 := by
  unfold Builtin.Range.rangeSize
  simp only [show ¬ ((-1 : Int) > 0) by decide, if_false, Int.neg_neg, Int.ediv_one]
  split <;> omega
theorem small_down {a b : Int} (ha : -(2 ^ 62) ≤ a) (ha' : a < 2 ^ 62) (hb : -(2 ^ 62) ≤ b) (hb' : b < 2 ^ 62) : Builtin.Range.small a b (-1) = true := by
  unfold Builtin.Range.small
  rw [rangeSize_down]
  simp only [Builtin.Range.rangeFitsLong, Bool.and_eq_true, Bool.or_eq_true, decide_eq_true_eq, beq_iff_eq, show ¬ ((-1 : Int) > 0) by decide, if_false]
  split <;> omega
theorem turn_down {P : Program} {w : World} {K : PySem.W.Frag} {tg : Expr} (it : Addr) (hi : Int) (n : Nat) : Turn P w K tg (Itd hi n) [it] it (fun i h => IsRangeIter h it (hi + (i : Nat) * (-1)) ((n : Int) - (i : Nat)) (-1)) where
  mem := by simp
  obj := fun i h st b hb => by
    have e : b = it := by simpa using hb
    subst e
    exact ⟨_, st, fun v z => by
      have z' : Data.fields _ = Data.cell v := z
      cases z'⟩
  keep := fun i h h' st k => k it (by simp) _ st
  item := by
    intro X hP hw hK hc i pins s σ H E I hf st hg
    subst hP hw hK
    obtain ⟨f0, f1, f2, f3, f4, f5⟩ := hf it (by simp)
    have W := Walks.range (prog := X.prog) (w := X.w) (I.ok.hd hc) it hi (-1) n
    refine W.item i s _ _ hg st fun v h' tk hv st' kk => ?_
    obtain ⟨t, rfl⟩ := hv
    have I1 : Inv X pins σ H { s with heap := h', toks := tk } := I.turned (fun b o hb e => kk b o (by simpa using hb) e) f0 f1 f3 f4 f5
    refine ⟨_, rfl, go_of (s := { s with heap := h', toks := tk }) (n := "range_iterator") st' rfl rfl (by decide) ⟨.int (hi - i), H, I1, ⟨t, ?_⟩, ⟨rfl, rfl⟩, st', fun b hb => (hf b hb).1⟩⟩
    rw [Int.mul_neg_one, Int.sub_eq_add_neg]
  done := by
    intro X hP hw hK hc i pins s σ H E I hf st hg
    subst hP hw hK
    obtain ⟨f0, f1, f2, f3, f4, f5⟩ := hf it (by simp)
    exact wpAny_pyNext_range_end (I.ok.hd hc) st (by have : n ≤ i := hg; omega) fun h' eb => ⟨rfl, I.turned (t' := s.toks) (fun b o hb e => eb b o hb e) f0 f1 f3 f4 f5⟩
  self := fun _ _ _ _ _ st h => wpAny_pyIter_rangeiter st h
section
variable {X : Cx} {tg : Expr}
def iRng3 (ta : TA) : TI := fun σ H R => ta σ H fun vs H1 => ∃ i j : Int, vs = [.int i, .int j, .int (-1)] ∧ (-(2 ^ 62) ≤ i ∧ i < 2 ^ 62 ∧ -(2 ^ 62) ≤ j ∧ j < 2 ^ 62) ∧ R (Itd i (i - j).toNat) H1
theorem qi_range3 {a b c : Expr} {ta : TA} {p pos : Pos} (hg : Gl X "range") (hm : X.mg "range" = none) (ha : QA X [a, b, c] ta) (hs : starEach [a, b, c] X.env = [(false, eval a X.env), (false, eval b X.env), (false, eval c X.env)] := by rfl) (hs2 : starEach [b, c] X.env = [(false, eval b X.env), (false, eval c X.env)] := by rfl) :
    QI X tg (.Call (.Name "range" p) [a, b, c] [] pos) (iRng3 ta) := by
  refine ⟨fun pins s σ H R I h => ?_⟩
  refine Call_ (ld_blt I hg hm boot_range (PyProof.Rows.callWith_type1 (thn (ha.run pos pins s σ H _ I h) fun us s1 ⟨vs, H1, I1, r1, q1⟩ => ?_) (by rw [hs, hs2]) (by rw [hs2]; rfl)))
  obtain ⟨i, j, e, ⟨q1, q2, q3, q4⟩, q⟩ := q1
  subst e
  cases r1 with
  | cons r rr =>
    cases rr with
    | cons r' rr =>
      cases rr with
      | cons r'' rr =>
        cases rr
        obtain ⟨t, rfl⟩ := r
        obtain ⟨t', rfl⟩ := r'
        obtain ⟨t'', rfl⟩ := r''
        refine call_range_3 (by decide) ?_ (.inl (PyProof.noPylong_small (by omega)))
        refine wpAny_pyIter_range (IsRange.new ..) (small_down q1 q2 q3 q4) ?_
        have I2 : Inv X pins σ H1 { s1 with heap := s1.heap.push { cls := .type "range", data := .fields #[.int i t, .int j t', .int (-1) t''] }, toks := s1.toks } := I1.kept fun b o e => Heap.get?_push_of_some _ e
        refine ⟨(s1.heap.push { cls := .type "range", data := .fields #[.int i t, .int j t', .int (-1) t''] }).objs.size, [(s1.heap.push { cls := .type "range", data := .fields #[.int i t, .int j t', .int (-1) t''] }).objs.size], _, _, H1, rfl,
          I2.kept (t' := s1.toks) fun b o e => Heap.get?_push_of_some _ e, turn_down _ i (i - j).toNat, ?_, fun b hb => ?_, q⟩
        · have e1 : i + ((0 : Nat) : Int) * (-1) = i := by simp
          have e2 : (((i - j).toNat : Nat) : Int) - ((0 : Nat) : Int) = Builtin.Range.rangeSize i j (-1) := by rw [rangeSize_down]; split <;> omega
          show IsRangeIter _ _ (i + ((0 : Nat) : Int) * (-1)) ((((i - j).toNat : Nat) : Int) - ((0 : Nat) : Int)) (-1)
          rw [e1, e2]
          exact Heap.get?_push_size _ rfl
        · have e : b = (s1.heap.push { cls := .type "range", data := .fields #[.int i t, .int j t', .int (-1) t''] }).objs.size := by simpa using hb
          subst e
          exact I2.fpOk (Nat.le_refl _) (I2.hok.fresh (Nat.le_refl _))
theorem for_down {hi : Int} {n : Nat} {g : TG} {tb : TS} {D : Ends} {σ : St} {H : Hp} (Pv : Nat → St → Hp → Prop) (h0 : Pv 0 σ H)
    (hs : ∀ i σ H, i < n → Pv i σ H → g (.int (hi - i)) σ H fun σ2 H2 => tb { D with nx := Pv (i + 1), ct := Pv (i + 1), bk := D.nx } σ2 H2) (hd : ∀ σ H, Pv n σ H → D.nx σ H) :
    ∃ W : Nat → Nat → St → Hp → Prop, (∃ m, W 0 m σ H) ∧ ∀ i m σ H, W i m σ H →
      ((Itd hi n).stop i H ∧ D.nx σ H) ∨ ((Itd hi n).go i H ∧ ∃ N : St → Hp → Prop, (∀ σ' H', N σ' H' → ∃ m', m' < m ∧ W (i + 1) m' σ' H') ∧ ∀ x H', (Itd hi n).yld i H x H' → g x σ H' fun σ2 H2 => tb { D with nx := N, ct := N, bk := D.nx } σ2 H2) := by
  refine ⟨fun i m σ H => m = n - i ∧ i ≤ n ∧ Pv i σ H, ⟨n, by simp, Nat.zero_le _, h0⟩, ?_⟩
  rintro i m σ H ⟨rfl, hi', p⟩
  by_cases hlt : i < n
  · refine .inr ⟨hlt, Pv (i + 1), fun σ' H' p' => ⟨n - (i + 1), by omega, rfl, hlt, p'⟩, fun x H' y => ?_⟩
    obtain ⟨e, y⟩ := y
    subst e y
    exact hs i σ _ hlt p
  · have e : i = n := by omega
    subst e
    exact .inl ⟨Nat.le_refl _, hd σ H p⟩
end
/-! ### reversed(list) -/
/-- the list at a, from its end (n of them; the loop leaves it as it is) -/
def Itv (K : PySem.W.Frag) (a : Addr) (n : Nat) : It :=
  ⟨fun i H => ∃ xs, SqL K H a xs ∧ xs.length = n ∧ i < n, fun i H x H' => H' = H ∧ ∀ xs, SqL K H a xs → xs[n - 1 - i]? = some x, fun i _ => i = n⟩
theorem turn_rev {P : Program} {w : World} {K : PySem.W.Frag} {tg : Expr} (a it : Addr) (n : Nat) : Turn P w K tg (Itv K a n) [it] it (fun i h => i ≤ n ∧ h.IsRevIter it a ((n : Int) - 1 - (i : Int))) where
  mem := by simp
  obj := fun i h st b hb => by
    have e : b = it := by simpa using hb
    subst e
    obtain ⟨o, e, c, d⟩ := st.2
    exact ⟨o, e, fun v z => by rw [d] at z; cases z⟩
  keep := fun i h h' st k => ⟨st.1, st.2.at fun o e => k it (by simp) o e⟩
  item := by
    intro X hP hw hK hc i pins s σ H E I hf st hg
    subst hP hw hK
    obtain ⟨xs, hq, hl, hi⟩ := hg
    obtain ⟨its, rv, p, hz⟩ := I.list hq
    have hx : xs[n - 1 - i]? = some (xs[n - 1 - i]'(by omega)) := List.getElem?_eq_getElem (by omega)
    obtain ⟨u, hu, ru⟩ := rv.get hx
    obtain ⟨f0, f1, f2, f3, f4, f5⟩ := hf it (by simp)
    have e : (n : Int) - 1 - (i : Int) = ((n - 1 - i : Nat) : Int) := by omega
    have hit := st.2
    rw [e] at hit
    refine wpAny_pyNext_rev_item hit p.isList (x := u) (by simpa using hu) fun h' st' sb => ?_
    have I1 : Inv X pins σ H { s with heap := h' } := I.turned (t' := s.toks) (fun b o hb e => (sb.2 b hb).trans e) f0 f1 f3 f4 f5
    have e2 : ((n - 1 - i : Nat) : Int) - 1 = (n : Int) - 1 - ((i + 1 : Nat) : Int) := by omega
    rw [e2] at st'
    obtain ⟨o, eo, c, d⟩ := id st'
    exact ⟨u, rfl, go_of (s := { s with heap := h' }) eo c d (by decide) ⟨_, H, I1, ru, ⟨rfl, fun ys hy => by rw [I.list_inj hy hq]; exact hx⟩, ⟨hi, st'⟩, fun b hb => (hf b hb).1⟩⟩
  done := by
    intro X hP hw hK hc i pins s σ H E I hf st hg
    subst hP hw hK
    have hg : i = n := hg
    subst hg
    obtain ⟨f0, f1, f2, f3, f4, f5⟩ := hf it (by simp)
    have e : (i : Int) - 1 - (i : Int) = -1 := by omega
    have hit := st.2
    rw [e] at hit
    exact wpAny_pyNext_rev_end (I.ok.hd hc) hit fun h' eb => ⟨rfl, I.turned (t' := s.toks) (fun b o hb e => eb b o hb e) f0 f1 f3 f4 f5⟩
  self := fun _ _ _ _ _ st h => wpAny_pyIter_revIter st.2 h
theorem boot_rev : bootBuiltins "reversed" = some (.type "reversed") := by decide +kernel
section
variable {X : Cx} {tg : Expr}
def iRev (K : PySem.W.Frag) (ta : TA) : TI := fun σ H R => ta σ H fun vs H1 => ∃ a xs, vs = [.ref a] ∧ SqL K H1 a xs ∧ R (Itv K a xs.length) H1
theorem qi_rev {a : Expr} {ta : TA} {p pos : Pos} (hg : Gl X "reversed") (hm : X.mg "reversed" = none) (ha : QA X [a] ta) (hs : starEach [a] X.env = [(false, eval a X.env)] := by rfl) : QI X tg (.Call (.Name "reversed" p) [a] [] pos) (iRev X.K ta) := by
  refine ⟨fun pins s σ H R I h => ?_⟩
  refine Call_ (ld_blt I hg hm boot_rev (PyProof.Rows.callWith_type1 (thn (ha.run pos pins s σ H _ I h) fun us s1 ⟨vs, H1, I1, r1, q1⟩ => ?_) hs rfl))
  obtain ⟨l, xs, e, hq, q⟩ := q1
  subst e
  cases r1 with
  | cons r rr =>
    cases rr
    cases r
    obtain ⟨its, rv, pl, hz⟩ := I1.list hq
    refine call_reversed_list pl.isList ?_
    have hl := rv.length
    have st0 : (s1.heap.push (PySem.revObj l (((its.toArray).size : Int) - 1))).IsRevIter s1.heap.objs.size l ((xs.length : Int) - 1 - ((0 : Nat) : Int)) := by
      refine ⟨_, Heap.get?_push_size _ rfl, rfl, ?_⟩
      have e : ((its.toArray).size : Int) - 1 = (xs.length : Int) - 1 - ((0 : Nat) : Int) := by simp [hl]
      rw [← e]
      rfl
    refine wpAny_pyIter_revIter (it := s1.heap.objs.size) (l := l) (i := (xs.length : Int) - 1 - ((0 : Nat) : Int)) st0 ?_
    refine ⟨s1.heap.objs.size, [s1.heap.objs.size], _, _, H1, rfl, I1.kept (t' := s1.toks) fun b o e => Heap.get?_push_of_some _ e, turn_rev l _ xs.length, ⟨Nat.zero_le _, st0⟩, fun b hb => ?_, q⟩
    have e : b = s1.heap.objs.size := by simpa using hb
    subst e
    exact I1.fpOk (Nat.le_refl _) (I1.hok.fresh (Nat.le_refl _))
theorem for_rev {K : PySem.W.Frag} {a : Addr} {xs : List V} {g : TG} {tb : TS} {D : Ends} {σ : St} {H : Hp} (Pv : Nat → St → Hp → Prop) (h0 : Pv 0 σ H) (hl : ∀ i σ H, i ≤ xs.length → Pv i σ H → SqL K H a xs)
    (hs : ∀ i x σ H, i < xs.length → xs[xs.length - 1 - i]? = some x → Pv i σ H → g x σ H fun σ2 H2 => tb { D with nx := Pv (i + 1), ct := Pv (i + 1), bk := D.nx } σ2 H2) (hd : ∀ σ H, Pv xs.length σ H → D.nx σ H) :
    ∃ W : Nat → Nat → St → Hp → Prop, (∃ m, W 0 m σ H) ∧ ∀ i m σ H, W i m σ H →
      ((Itv K a xs.length).stop i H ∧ D.nx σ H) ∨ ((Itv K a xs.length).go i H ∧ ∃ N : St → Hp → Prop, (∀ σ' H', N σ' H' → ∃ m', m' < m ∧ W (i + 1) m' σ' H') ∧ ∀ x H', (Itv K a xs.length).yld i H x H' → g x σ H' fun σ2 H2 => tb { D with nx := N, ct := N, bk := D.nx } σ2 H2) := by
  refine ⟨fun i m σ H => m = xs.length - i ∧ i ≤ xs.length ∧ Pv i σ H, ⟨xs.length, by simp, Nat.zero_le _, h0⟩, ?_⟩
  rintro i m σ H ⟨rfl, hi, p⟩
  have q := hl i σ H hi p
  by_cases hlt : i < xs.length
  · refine .inr ⟨⟨xs, q, rfl, hlt⟩, Pv (i + 1), fun σ' H' p' => ⟨xs.length - (i + 1), by omega, rfl, hlt, p'⟩, fun x H' y => ?_⟩
    obtain ⟨e, y⟩ := y
    subst e
    exact hs i x σ _ hlt (y xs q) p
  · have e : i = xs.length := by omega
    subst e
    exact .inl ⟨rfl, hd σ H p⟩
end
end L2

set_option Elab.async false
set_option linter.all false
set_option maxRecDepth 100000
set_option maxHeartbeats 4000000
namespace L2
open PySem PySem.Spec PyProof.Rows
section
variable {prog : Program} {w : World} {A : Around} {E : Value → Shared → Prop} {s : Shared}
theorem nextOf_tup_item {it t : Addr} {i : Nat} {items : Array Value} {x : Value} {Q : Value → Shared → Prop} (hit : s.heap.IsTupleIter it t i) (ht : s.heap.IsTuple t items) (hx : items[i]? = some x)
    (hQ : ∀ h', h'.IsTupleIter it t (i + 1) → Heap.SameBut it s.heap h' → Q x { s with heap := h' }) : wpAny (model prog w) A (Builtin.SmallTypes.nextOf (.ref it)) Q E s := by
  obtain ⟨o, ho, hc, hd⟩ := id hit
  obtain ⟨ol, hol, _, nl, hdl⟩ := ht
  unfold Builtin.SmallTypes.nextOf
  refine wpAny_bind (wpAny_callSpecial?_slot (name := Str.ofString "__next__") hit.typeIs PySem.F.slot_tuple_iterator_next
    (wpAny_call_entry PySem.F.slot_tuple_iterator_next hit.typeIs PySem.F.entry_tuple_iterator_next ?_ (PySem.F.args_tuple_iterator_next_1 _)))
  show wpAny _ _ (field (.ref it) 0 >>= _) _ _ s
  refine wpAny_bind (wpAny_field ho hd (x := .ref t) rfl ?_)
  show wpAny _ _ (if (Value.ref t == Value.none) = true then _ else _) _ _ s
  rw [if_neg (show ¬ ((Value.ref t == Value.none) = true) from Bool.false_ne_true)]
  show wpAny _ _ (field (.ref it) 1 >>= _) _ _ s
  refine wpAny_bind (wpAny_field ho hd (x := .int i 0) rfl ?_)
  show wpAny _ _ (seqItems? (.ref t) >>= _) _ _ s
  refine wpAny_bind (wpAny_seqItems hol hdl ?_)
  simp only [Int.toNat_natCast, hx]
  refine wpAny_bind (wpAny_setField ho hd (by simp) (wpAny_pure ⟨x, rfl, wpAny_pure (hQ _ ?_ (Heap.SameBut.update ..))⟩))
  exact ⟨_, Heap.get?_update_self _ ho (Obj.isFreed_of_fields (Obj.data_mapFields hd _)), (Obj.cls_mapFields ..).trans hc, by
    rw [Obj.data_mapFields hd]; simp [rawInt]⟩
theorem nextOf_tup_end {it t : Addr} {i : Nat} {items : Array Value} {Q : Value → Shared → Prop} (hh : A.handled = none) (hit : s.heap.IsTupleIter it t i) (ht : s.heap.IsTuple t items) (hx : items[i]? = none)
    (hE : ∀ h' e, Heap.ExtBut it s.heap h' → (∃ o, h'.get? e = some o ∧ o.cls = .type "StopIteration") → E (.ref e) { s with heap := h' }) : wpAny (model prog w) A (Builtin.SmallTypes.nextOf (.ref it)) Q E s := by
  obtain ⟨o, ho, hc, hd⟩ := id hit
  obtain ⟨ol, hol, _, nl, hdl⟩ := ht
  unfold Builtin.SmallTypes.nextOf
  refine wpAny_bind (wpAny_callSpecial?_slot (name := Str.ofString "__next__") hit.typeIs PySem.F.slot_tuple_iterator_next
    (wpAny_call_entry PySem.F.slot_tuple_iterator_next hit.typeIs PySem.F.entry_tuple_iterator_next ?_ (PySem.F.args_tuple_iterator_next_1 _)))
  show wpAny _ _ (field (.ref it) 0 >>= _) _ _ s
  refine wpAny_bind (wpAny_field ho hd (x := .ref t) rfl ?_)
  show wpAny _ _ (if (Value.ref t == Value.none) = true then _ else _) _ _ s
  rw [if_neg (show ¬ ((Value.ref t == Value.none) = true) from Bool.false_ne_true)]
  show wpAny _ _ (field (.ref it) 1 >>= _) _ _ s
  refine wpAny_bind (wpAny_field ho hd (x := .int i 0) rfl ?_)
  show wpAny _ _ (seqItems? (.ref t) >>= _) _ _ s
  refine wpAny_bind (wpAny_seqItems hol hdl ?_)
  simp only [Int.toNat_natCast, hx]
  refine wpAny_bind (wpAny_rule (wpAny_bind (wpAny_setField ho hd (by simp) ?_)))
  show wpAny _ _ (newExc (.type "StopIteration") [] >>= _) _ _ _
  refine wpAny_bind ?_
  simp only [newExc, newTuple]
  refine wpAny_bind (wpAny_newObj_type ?_ (by size_fits))
  refine wpAny_bind (m := firstArgMember _ _) (wpAny_of_eq (a := Value.none) (by first | rfl | (simp only [firstArgMember]; rfl)) ?_)
  refine wpAny_newObj_type ?_ (by size_fits)
  simp only [raiseNew]
  refine wpAny_bind (wpAny_handled ?_)
  first | rw [show A.in1.handled = none from hh] | rw [hh]
  refine wpAny_bind (wpAny_pure (wpAny_throw ?_))
  exact hE _ _ (((Heap.SameBut.update ..).extBut.push _).push _) ⟨_, Heap.get?_push_size _ rfl, rfl⟩
end
theorem draws_tup {prog : Program} {w : World} {A : Around} (hh : A.handled = none) (it l : Addr) (hne : l ≠ it) (items : Array Value) :
    Draws prog w A it [it, l] items.size (fun i v => items[i]? = some v) (fun i h => h.IsTupleIter it l i ∧ h.IsTuple l items) where
  live := fun _ _ st => let ⟨o, ho, _⟩ := st.1; ⟨o, ho⟩
  frame := fun _ _ _ st hk => ⟨st.1.at fun o e => hk it (by simp) o e, let ⟨o, e, r⟩ := st.2; ⟨o, hk l (by simp) o e, r⟩⟩
  item := fun i s Q E hi st hQ => by
    refine nextOf_tup_item st.1 st.2 (x := items[i]) (by simp [hi]) fun h' hit' hs' => ?_
    exact hQ _ h' s.toks (by simp [hi]) ⟨hit', st.2.extBut hs'.extBut hne⟩ hs'
  done := fun s Q E st hE => nextOf_tup_end hh st.1 st.2 (by simp) hE
/-- enumerate(tuple) made -/
theorem meets_enum_newT (l : Addr) (items : Array Value) (n : Nat) (dct : Option Addr) (sl : Array (Option Value)) :
    Meets (Builtin.«enumerate.__new__» ⟨[.type "enumerate", .ref l], []⟩) (fun _ R s => s.heap.get? l = some { cls := .type "tuple", dict := dct, data := .seq items n, slots := sl } ∧
      R (.ok (.ret (.ref (s.heap.push { cls := .type "tuple_iterator", data := .fields #[.ref l, .int 0 0] }).objs.size)))
        { s with heap := (s.heap.push { cls := .type "tuple_iterator", data := .fields #[.ref l, .int 0 0] }).push { cls := .type "enumerate", data := .fields #[.none, .bool false, .ref s.heap.objs.size, rawInt 0, .none, .none] } }) :=
  .of_wp fun prog w A R s h => by
    obtain ⟨hp, g, d, tk, os⟩ := s; obtain ⟨hl, h⟩ := h
    have hsub := sub_enumerate
    have hL : Heap.IsTuple (Shared.heap ⟨hp, g, d, tk, os⟩) l items := ⟨_, hl, rfl, n, rfl⟩
    wp_walk using PySem.AutoSeq1.wpAny_loadPart' hl
    refine wpAny_stack_any fun st => wpAny_pure ?_
    split
    · rename_i c _ _ _ _ _
      cases (c == Value.type "enumerate")
      · wp_walk using PySem.AutoSeq1.wpAny_loadPart' hl, wpAny_pyIter_tuple hL
        exact ⟨_, rfl, h⟩
      · wp_walk using PySem.AutoSeq1.wpAny_loadPart' hl, wpAny_pyIter_tuple hL
        exact ⟨_, rfl, h⟩
    · wp_walk using PySem.AutoSeq1.wpAny_loadPart' hl, wpAny_pyIter_tuple hL
      exact ⟨_, rfl, h⟩
section
variable {prog : Program} {w : World} {A : Around} {E : Value → Shared → Prop} {s : Shared}
theorem call_enum_tup {l : Addr} {items : Array Value} {Q : Value → Shared → Prop} (hL : s.heap.IsTuple l items)
    (h : ∀ h', IsEnum h' (s.heap.objs.size + 1) s.heap.objs.size 0 .none → h'.IsTupleIter s.heap.objs.size l 0 → h'.objs.size = s.heap.objs.size + 2 →
      (∀ b o, s.heap.get? b = some o → h'.get? b = some o) → Q (.ref (s.heap.objs.size + 1)) { s with heap := h' }) :
    wpAny (model prog w) A (call (.type "enumerate") [.ref l]) Q E s := by
  obtain ⟨⟨c, dct, dt, sl⟩, hl, hc, n, hd⟩ := hL
  replace hc : c = .type "tuple" := hc
  replace hd : dt = .seq items n := hd
  subst hc hd
  refine callType_new PySem.F.called_enumerate (by decide) (PySem.F.typeCall_enumerate_1 _) (PySem.F.newCall_enumerate_1 _) (fun obj => PySem.F.args_object_init_2 obj _) PySem.F.entry_enumerate_new
    (meets_enum_newT l items n dct sl) ⟨hl, ?_⟩
  have hz : (s.heap.push { cls := .type "tuple_iterator", data := .fields #[.ref l, .int 0 0] }).objs.size = s.heap.objs.size + 1 := Heap.size_push ..
  show _ ∧ _
  rw [hz]
  have he : IsEnum ((s.heap.push { cls := .type "tuple_iterator", data := .fields #[.ref l, .int 0 0] }).push
      { cls := .type "enumerate", data := .fields #[.none, .bool false, .ref s.heap.objs.size, rawInt 0, .none, .none] }) (s.heap.objs.size + 1) s.heap.objs.size 0 .none := by
    unfold IsEnum
    rw [← hz]
    exact Heap.get?_push_size _ rfl
  refine ⟨⟨_, he, rfl⟩, h _ he ⟨_, Heap.get?_push_of_some _ (Heap.get?_push_size _ rfl), rfl, rfl⟩ (by rw [Heap.size_push, hz]) fun b o e => Heap.get?_push_of_some _ (Heap.get?_push_of_some _ e)⟩
/-- an enumerate whose first pair is still alive -/
def EnLate (h : Heap) (e it : Addr) (i : Int) : Prop := ∃ (a : Addr) (oa : Obj) (f1 old : Value), h.get? e = some { cls := .type "enumerate", dict := none, data := .fields #[rawInt a, f1, .ref it, rawInt i, .none, old], slots := #[] } ∧ h.get? a = some oa ∧ a ≠ e ∧ a ≠ it
theorem wpAny_loadAlive {a : Addr} {Q : Option Obj → Shared → Prop} (h : Q (s.heap.get? a) s) : wpAny (model prog w) A (loadIfAlive a) Q E s := by
  intro Γ p hΓ
  show Sem.wp _ Γ (.loadIfAlive a .pure) _ _ p s
  rw [Sem.wp_loadIfAlive]
  exact h
end
end L2

set_option Elab.async false
set_option linter.all false
set_option maxRecDepth 100000
set_option maxHeartbeats 4000000
namespace L2
open PySem PySem.Spec PyProof.Rows
section
variable {prog : Program} {w : World} {A : Around} {E : Value → Shared → Prop} {s : Shared}
theorem en_late_next {e it : Addr} {fp : List Addr} {n i : Nat} {P : Nat → Value → Prop} {St : Nat → Heap → Prop} {Q : Value → Shared → Prop}
    (D : Draws prog w A it fp n P St) (he0 : EnLate s.heap e it i) (hst : St i s.heap) (hlt : i < n) (hne : e ≠ it) (hef : e ∉ fp)
    (hQ : ∀ x h' tk, P i x → EnLate h' e it ((i : Int) + 1) → St (i + 1) h' →
      h'.get? s.heap.objs.size = some { cls := .type "tuple", data := .seq #[.int i tk, x] } → h'.objs.size = s.heap.objs.size + 1 →
      (∀ b o, b ≠ e → b ≠ it → s.heap.get? b = some o → h'.get? b = some o) → Q (.ref s.heap.objs.size) { s with heap := h', toks := tk + 1 }) :
    wpAny (model prog w) A (Builtin.«enumerate.__next__» ⟨[.ref e], []⟩) (fun fin s' => ∃ v, fin = .done (.ret v) ∧ Q v s') E s := by
  obtain ⟨a, oa, f1, old, he, hoa, hae, hai⟩ := he0
  obtain ⟨hp, g, d, tk₀, os⟩ := s
  show wpAny _ _ (field (.ref e) 2 >>= _) _ _ _
  refine wpAny_bind (wpAny_field he rfl (x := .ref it) rfl ?_)
  refine wpAny_bind (D.item i _ _ _ hlt hst fun x h₁ tk hPx hit₁ hs₁ => ?_)
  replace hs₁ : Heap.SameBut it hp h₁ := hs₁
  have he₁ := (hs₁.2 e hne).trans he
  have ha₁ := hs₁.extBut a oa hai hoa
  show wpAny _ _ (field (.ref e) 3 >>= _) _ _ ⟨h₁, g, d, tk, os⟩
  refine wpAny_bind (wpAny_field he₁ rfl (x := rawInt i) rfl ?_)
  show wpAny _ _ (field (.ref e) 4 >>= _) _ _ ⟨h₁, g, d, tk, os⟩
  refine wpAny_bind (wpAny_field he₁ rfl (x := .none) rfl ?_)
  show wpAny _ _ (mkInt i >>= _) _ _ ⟨h₁, g, d, tk, os⟩
  refine wpAny_bind (wpAny_mkInt ?_)
  show wpAny _ _ (setField (.ref e) 3 (rawInt ((i : Int) + 1)) >>= _) _ _ ⟨h₁, g, d, tk + 1, os⟩
  refine wpAny_bind (wpAny_setField_rec he₁ (by simp) fun h₂ he₂ hs₂ => ?_)
  replace hs₂ : Heap.SameBut e h₁ h₂ := hs₂
  have ha₂ := hs₂.extBut a oa hae ha₁
  replace he₂ : h₂.get? e = some { cls := .type "enumerate", dict := none, data := .fields #[rawInt a, f1, .ref it, rawInt ((i : Int) + 1), .none, old], slots := #[] } := he₂
  show wpAny _ _ (setField (.ref e) 4 .none >>= _) _ _ ⟨h₂, g, d, tk + 1, os⟩
  refine wpAny_bind (wpAny_setField_rec he₂ (by simp) fun h₃ he₃ hs₃ => ?_)
  replace hs₃ : Heap.SameBut e h₂ h₃ := hs₃
  have ha₃ := hs₃.extBut a oa hae ha₂
  replace he₃ : h₃.get? e = some { cls := .type "enumerate", dict := none, data := .fields #[rawInt a, f1, .ref it, rawInt ((i : Int) + 1), .none, old], slots := #[] } := he₃
  show wpAny _ _ (newTuple [.int i tk, x] >>= _) _ _ ⟨h₃, g, d, tk + 1, os⟩
  refine wpAny_bind (wpAny_newTuple ?_)
  have he₄ : (h₃.push { cls := .type "tuple", data := .seq #[.int i tk, x] }).get? e = some { cls := .type "enumerate", dict := none, data := .fields #[rawInt a, f1, .ref it, rawInt ((i : Int) + 1), .none, old], slots := #[] } := Heap.get?_push_of_some _ he₃
  have ha₄ : (h₃.push { cls := .type "tuple", data := .seq #[.int i tk, x] }).get? a = some oa := Heap.get?_push_of_some _ ha₃
  generalize hh₄ : h₃.push { cls := .type "tuple", data := .seq #[.int i tk, x] } = h₄ at he₄ ha₄
  have hsz : h₃.objs.size = hp.objs.size := by rw [hs₃.1, hs₂.1, hs₁.1]
  have hel : e < hp.objs.size := Heap.lt_size he
  have ht₄ : h₄.get? hp.objs.size = some { cls := .type "tuple", data := .seq #[.int i tk, x] } := by rw [← hh₄, ← hsz]; exact Heap.get?_push_size _ rfl
  have hz₄ : h₄.objs.size = hp.objs.size + 1 := by rw [← hh₄, Heap.size_push, hsz]
  have hk₄ : ∀ b o, b ≠ e → b ≠ it → hp.get? b = some o → h₄.get? b = some o := fun b o hbe hbi hb => by
    rw [← hh₄]; exact Heap.get?_push_of_some _ (hs₃.extBut b o hbe (hs₂.extBut b o hbe (hs₁.extBut b o hbi hb)))
  have hit₄ : St (i + 1) h₄ := D.frame _ _ _ hit₁ fun b hb o y => by
    have hbe : b ≠ e := fun q => hef (q ▸ hb)
    rw [← hh₄]; exact Heap.get?_push_of_some _ (hs₃.extBut b o hbe (hs₂.extBut b o hbe y))
  show wpAny _ _ (Builtin.SmallTypes.ownedTupleIsFree (.ref e) >>= _) _ _ ⟨h₄, g, d, tk + 1, os⟩
  rw [hsz]
  clear hh₄ ha₃ ha₂ ha₁ he₃ hs₃ he₂ hs₂ he₁ hs₁ hit₁ hsz h₃ h₂ h₁
  refine wpAny_bind ?_
  unfold Builtin.SmallTypes.ownedTupleIsFree
  refine wpAny_bind (wpAny_field he₄ rfl (x := rawInt a) rfl ?_)
  show wpAny _ _ (loadIfAlive ((a : Int).toNat) >>= _) _ _ ⟨h₄, g, d, tk + 1, os⟩
  refine wpAny_bind (wpAny_loadAlive ?_)
  rw [Int.toNat_natCast]
  show wpAny _ _ (if (h₄.get? a).isNone = true then _ else _) _ _ ⟨h₄, g, d, tk + 1, os⟩
  rw [ha₄]
  rw [if_neg (by simp)]
  refine wpAny_bind (wpAny_field he₄ rfl (x := f1) rfl ?_)
  have fin : ∀ h₅, EnLate h₅ e it ((i : Int) + 1) → Heap.SameBut e h₄ h₅ → Q (.ref hp.objs.size) ⟨h₅, g, d, tk + 1, os⟩ := fun h₅ hl hs₅ =>
    hQ x h₅ tk hPx hl (D.frame _ _ _ hit₄ fun b hb o y => hs₅.extBut b o (fun q => hef (q ▸ hb)) y) (hs₅.extBut _ _ (Nat.ne_of_gt hel) ht₄) (by rw [hs₅.1, hz₄]) fun b o hbe hbi hb => hs₅.extBut b o hbe (hk₄ b o hbe hbi hb)
  by_cases hf : (f1 != Value.bool true) = true
  · simp only [hf, if_true]
    refine wpAny_bind (wpAny_setField_rec he₄ (by simp) fun h₅ he₅ hs₅ => ?_)
    replace hs₅ : Heap.SameBut e h₄ h₅ := hs₅
    refine wpAny_pure ?_
    simp only [Bool.false_eq_true, if_false]
    refine wpAny_pure ⟨_, rfl, fin h₅ ⟨a, oa, .bool true, old, he₅, hs₅.extBut a oa hae ha₄, hae, hai⟩ hs₅⟩
  · simp only [hf]
    refine wpAny_pure ?_
    simp only [Bool.false_eq_true, if_false]
    exact wpAny_pure ⟨_, rfl, fin h₄ ⟨a, oa, f1, old, he₄, ha₄, hae, hai⟩ (Heap.SameBut.refl ..)⟩
/-- fresh or late -/
def EnSt (h : Heap) (e it : Addr) (i : Nat) : Prop := (i = 0 ∧ ∃ old, IsEnum h e it 0 old) ∨ (0 < i ∧ EnLate h e it i)
theorem EnSt.obj {h : Heap} {e it : Addr} {i : Nat} (x : EnSt h e it i) : ∃ vs, h.get? e = some { cls := .type "enumerate", dict := none, data := .fields vs, slots := #[] } := by
  rcases x with ⟨_, old, x⟩ | ⟨_, _, _, _, _, x, _⟩
  · exact ⟨_, x⟩
  · exact ⟨_, x⟩
theorem en_next {e it : Addr} {fp : List Addr} {n i : Nat} {P : Nat → Value → Prop} {St : Nat → Heap → Prop} {Q : Option Value → Shared → Prop}
    (D : Draws prog w A.in1 it fp n P St) (he : EnSt s.heap e it i) (hst : St i s.heap) (hlt : i < n) (hne : e ≠ it) (hef : e ∉ fp)
    (hQ : ∀ x h' tk, P i x → EnSt h' e it (i + 1) → St (i + 1) h' →
      h'.get? s.heap.objs.size = some { cls := .type "tuple", data := .seq #[.int i tk, x] } → h'.objs.size = s.heap.objs.size + 1 →
      (∀ b o, b ≠ e → b ≠ it → s.heap.get? b = some o → h'.get? b = some o) → Q (some (.ref s.heap.objs.size)) { s with heap := h', toks := tk + 1 }) :
    wpAny (model prog w) A (pyNext (.ref e)) Q E s := by
  obtain ⟨vs, ho⟩ := he.obj
  have hT : s.TypeIs (.ref e) "enumerate" := ⟨_, ho, rfl⟩
  have hel : e < s.heap.objs.size := Heap.lt_size ho
  have hil : it < s.heap.objs.size := by obtain ⟨_, y⟩ := D.live _ _ hst; exact Heap.lt_size y
  rcases he with ⟨rfl, old, he⟩ | ⟨_, he⟩
  · refine wpAny_pyNext_enum_itemD D he hst hlt hne hef fun x h' tk a b c z k q => ?_
    exact hQ x h' tk a (.inr ⟨Nat.succ_pos _, _, _, _, _, b, z, Nat.ne_of_gt hel, Nat.ne_of_gt hil⟩) c z k q
  · unfold pyNext
    exact wpAny_bind (wpAny_attempt (wpAny_callSpecial?_slot (name := Str.ofString "__next__") hT PySem.F.slot_enumerate_next
      (wpAny_call_entry PySem.F.slot_enumerate_next hT PySem.F.entry_enumerate_next
        (en_late_next D he hst hlt hne hef fun x h' tk a b c z k q => wpAny_pure (hQ x h' tk a (.inr ⟨Nat.succ_pos _, b⟩) c z k q)) (PySem.F.args_enumerate_next_1 _))))
theorem en_end {e it : Addr} {fp : List Addr} {n : Nat} {P : Nat → Value → Prop} {St : Nat → Heap → Prop} {Q : Option Value → Shared → Prop}
    (D : Draws prog w A.in1 it fp n P St) (he : EnSt s.heap e it n) (hst : St n s.heap)
    (hQ : ∀ h', Heap.ExtBut it s.heap h' → Q none { s with heap := h' }) : wpAny (model prog w) A (pyNext (.ref e)) Q E s := by
  obtain ⟨vs, ho⟩ := he.obj
  have hT : s.TypeIs (.ref e) "enumerate" := ⟨_, ho, rfl⟩
  have h2 : vs[2]? = some (.ref it) := by
    rcases he with ⟨rfl, old, he⟩ | ⟨_, a, oa, f1, old, he, _⟩
    · unfold IsEnum at he
      rw [ho] at he
      injection he with he
      injection he with _ _ he _
      injection he with he
      rw [he]; rfl
    · rw [ho] at he
      injection he with he
      injection he with _ _ he _
      injection he with he
      rw [he]; rfl
  unfold pyNext
  refine wpAny_bind (wpAny_attempt (wpAny_callSpecial?_slot (name := Str.ofString "__next__") hT PySem.F.slot_enumerate_next
    (wpAny_call_entry PySem.F.slot_enumerate_next hT PySem.F.entry_enumerate_next ?_ (PySem.F.args_enumerate_next_1 _))))
  show wpAny _ _ (field (.ref e) 2 >>= _) _ _ _
  refine wpAny_bind (wpAny_field ho rfl (x := .ref it) h2 ?_)
  refine wpAny_bind (D.done _ _ _ hst fun h' x he' hx' => ?_)
  obtain ⟨o, ho', hc⟩ := hx'
  refine wpAny_bind (wpAny_isInstance (T := "StopIteration") (b := true) ⟨o, ho', hc⟩ isSubtype_stop ?_)
  exact wpAny_pure (hQ _ he')
end
end L2

set_option Elab.async false
set_option linter.all false
set_option maxRecDepth 100000
set_option maxHeartbeats 4000000
namespace L2
open PySem PySem.Spec PyProof.Rows
/-! ### list(an iterator) -/
/-- an iterator at it that list() takes whole: J i ys H h: i taken, ys the values so far -/
structure Src (X : Cx) (pins : List (Addr × Obj)) (σ : St) (it : Addr) (T : String) (n : Nat) (H0 : Hp) (J : Nat → List V → Hp → Heap → Prop) : Prop where
  ty : ∀ i ys H h, J i ys H h → ∃ o, h.get? it = some o ∧ o.cls = .type T
  nl : (Value.type T == Value.type "list") = false ∧ (Value.type T == Value.type "tuple") = false
  nolen : typeLookup (.type T) "__len__" = pure none
  nohint : typeLookup (.type T) "__length_hint__" = pure none
  self : ∀ (A : Around) (s : Shared) (ys : List V) (H : Hp) (Q : Value → Shared → Prop) (E : Value → Shared → Prop), J 0 ys H s.heap → Q (.ref it) s → wpAny (model X.prog X.w) A (pyIter (.ref it)) Q E s
  keep : ∀ i ys H h h' S zs zs', H0 S = none → H S = some (.lst zs) → J i ys H h → (∀ b o, b ≠ S → h.get? b = some o → h'.get? b = some o) → (∃ o, h'.get? S = some o) → J i ys (upd H S (.lst zs')) h'
  fresh : ∀ i ys H h, J i ys H h → H it = none
  item : ∀ (A : Around) (i : Nat) (s : Shared) (H : Hp) (ys : List V) (E : Value → Shared → Prop), A.handled = none → i < n → Inv X pins σ H s → J i ys H s.heap →
    wpAny (model X.prog X.w) A (pyNext (.ref it)) (fun r s' => ∃ u x H', r = some u ∧ RelV x u ∧ Inv X pins σ H' s' ∧ J (i + 1) (ys ++ [x]) H' s'.heap ∧ ∀ S zs, H S = some (.lst zs) → H' S = some (.lst zs)) E s
  done : ∀ (A : Around) (s : Shared) (H : Hp) (ys : List V) (E : Value → Shared → Prop), A.handled = none → Inv X pins σ H s → J n ys H s.heap →
    wpAny (model X.prog X.w) A (pyNext (.ref it)) (fun r s' => r = none ∧ Inv X pins σ H s') E s
section
variable {X : Cx} {pins : List (Addr × Obj)} {σ : St} {it : Addr} {T : String} {n : Nat} {H0 : Hp} {J : Nat → List V → Hp → Heap → Prop}
theorem src_loop (C : Src X pins σ it T n H0 J) (hn : n ≤ sizeLine) {A : Around} (hh : A.handled = none) {R : Result → Shared → Prop} (S : Addr) (hS0 : H0 S = none) (res : Value)
    (fin : ∀ s' H' ys', Inv X pins σ H' s' → H' S = some (.lst ys') → ys'.length = n → (∃ h, J n ys' H' h) → R (.ok (.ret res)) s') :
    ∀ (k i : Nat) (s : Shared) (H : Hp) (ys : List V), n - i = k → i ≤ n → Inv X pins σ H s → J i ys H s.heap → H S = some (.lst ys) → ys.length = i →
    codeAny (model X.prog X.w) A (.builtin "list.extend.loop" ⟨[.ref S, .ref it, res], []⟩) R s := by
  intro k
  induction k with
  | zero =>
    intro i s H ys hk hi I j hS hl
    have hin : i = n := by omega
    subst hin
    refine codeAny_builtin PySem.F.entry_extend_loop ?_
    rw [Around.under_plainId PySem.F.plain_extend_loop _]
    show wpAny _ A.in1 (pyNext (.ref it) >>= _) _ _ s
    refine wpAny_bind (thn (C.done A.in1 s H ys _ hh I j) fun r s' ⟨hr, I'⟩ => ?_)
    subst hr
    exact wpAny_pure (fin s' H ys I' hS hl ⟨_, j⟩)
  | succ k ih =>
    intro i s H ys hk hi I j hS hl
    have hlt : i < n := by omega
    refine codeAny_builtin PySem.F.entry_extend_loop ?_
    rw [Around.under_plainId PySem.F.plain_extend_loop _]
    show wpAny _ A.in1 (pyNext (.ref it) >>= _) _ _ s
    refine wpAny_bind (thn (C.item A.in1 i s H ys _ hh hlt I j) fun r s' ⟨u, x, H', hr, rx, I', j', kS⟩ => ?_)
    subst hr
    have hS' := kS S ys hS
    obtain ⟨z, its, m, rv, hl', e⟩ := I'.lstM hS'
    show wpAny _ A.in1 (updateSeq S (·.push u) >>= _) _ _ _
    refine wpAny_bind ?_
    have hu : (its.toArray.push u) = (its ++ [u]).toArray := by simp
    have I2 := I'.lset (f := (·.push u)) (its' := its ++ [u]) (ys := ys ++ [x]) (t' := s'.toks) hS' e hu (rv.append (.cons rx .nil)) (by rw [List.length_append, List.length_singleton]; omega)
    refine wpAny_updateSeq e rfl (wpAny_pure ⟨plainId_quiet PySem.F.plain_extend_loop _, ih (i + 1) _ _ (ys ++ [x]) (by omega) hlt I2 ?_ upd_same (by simp [hl])⟩)
      (by rw [List.size_toArray]; omega) (by show (its.toArray.push u).size ≤ sizeLine + 1; rw [Array.size_push, List.size_toArray]; omega)
    exact C.keep _ _ _ _ _ S ys (ys ++ [x]) hS0 hS' j' (fun b o hb eb => (Heap.get?_update_other _ _ (Ne.symm hb)).trans eb) ⟨_, Heap.get?_update_self _ e rfl⟩
/-- list(it) -/
theorem call_list_src {H : Hp} (C : Src X pins σ it T n H J) (hn : n ≤ sizeLine) {A : Around} (hh : A.handled = none) {s : Shared} {Q : VK} {E : Value → Shared → Prop} (I : Inv X pins σ H s) (j : J 0 [] H s.heap)
    (jn : ∀ S, s.heap.objs.size ≤ S → H S = none → ∀ h', (∀ b o, s.heap.get? b = some o → h'.get? b = some o) → J 0 [] (upd H S (.lst [])) h')
    (q : ∀ S H' ys, H S = none → H' S = some (.lst ys) → ys.length = n → (∃ h, J n ys H' h) → Q (.ref S) H') :
    wpAny (model X.prog X.w) A (call (.type "list") [.ref it]) (EP X pins σ Q) E s := by
  have hf : H s.heap.objs.size = none := I.hok.fresh (Nat.le_refl _)
  have hne : s.heap.objs.size ≠ it := by
    obtain ⟨o, e, _⟩ := C.ty _ _ _ _ j
    exact Nat.ne_of_gt (Heap.lt_size e)
  refine callType_codes (Q₁ := fun obj s₁ => obj = .ref s.heap.objs.size ∧ s₁ = { s with heap := s.heap.push { cls := .type "list", data := .seq #[] } }) PySem.F.called_list (PySem.F.typeCall_list_1 _) PySem.F.entry_list_init
    (code_list_new _ ⟨rfl, rfl⟩) fun obj s₁ h₁ => ?_
  obtain ⟨rfl, rfl⟩ := h₁
  have hS : (s.heap.push { cls := .type "list", data := .seq #[] }).get? s.heap.objs.size = some { cls := .type "list", data := .seq #[] } := Heap.get?_push_size _ rfl
  have I1 : Inv X pins σ (upd H s.heap.objs.size (.lst [])) { s with heap := s.heap.push { cls := .type "list", data := .seq ([] : List Value).toArray } } := I.lnew (ys := []) (its := []) (t' := s.toks) .nil (by simp)
  have j1 : J 0 [] (upd H s.heap.objs.size (.lst [])) (s.heap.push { cls := .type "list", data := .seq ([] : List Value).toArray })   := jn _ (Nat.le_refl _) hf _ fun b o e => Heap.get?_push_of_some _ e
  refine ⟨⟨_, hS, rfl⟩, PySem.F.args_list_init_2 _ _, ?_⟩
  generalize hs1 : ({ s with heap := s.heap.push { cls := .type "list", data := .seq ([] : List Value).toArray } } : Shared) = s1 at I1
  have hS1 : s1.heap.get? s.heap.objs.size = some { cls := .type "list", data := .seq ([] : List Value).toArray } := by rw [← hs1]; exact hS
  replace j1 : J 0 [] (upd H s.heap.objs.size (.lst [])) s1.heap := by rw [← hs1]; exact j1
  have hs1' : ({ s with heap := s.heap.push { cls := .type "list", data := .seq #[] } } : Shared) = s1 := hs1
  first | rw [hs1'] | skip
  show wpAny _ A.in1.in1 (do let old ← Builtin.List.listItems (.ref s.heap.objs.size); Builtin.List.listUpdate (.ref s.heap.objs.size) (fun _ => #[]); letGo old.toList.reverse; Builtin.List.listExtendWith (.ref s.heap.objs.size) (.ref it) .none) _ _ s1
  generalize s.heap.objs.size = S at *
  refine wpAny_bind ?_
  unfold Builtin.List.listItems
  refine wpAny_bind (wpAny_seqItems hS1 rfl (wpAny_pure ?_))
  show wpAny _ A.in1.in1 (updateSeq S (fun _ => #[]) >>= fun _ => letGo (#[] : Array Value).toList.reverse >>= fun _ => Builtin.List.listExtendWith (.ref S) (.ref it) .none) _ _ s1
  refine wpAny_bind (wpAny_updateSeq hS1 rfl ?_)
  have I2 := I1.lset (f := fun _ => #[]) (its' := []) (ys := []) (t' := s1.toks) upd_same hS1 rfl .nil (by simp)
  have hS2 := Heap.get?_update_self (Obj.mapSeq (fun _ => (#[] : Array Value))) hS1 rfl
  have j2 := C.keep _ _ _ _ (s1.heap.update S (Obj.mapSeq fun _ => #[])) S [] [] hf upd_same j1 (fun b o hb eb => (Heap.get?_update_other _ _ (Ne.symm hb)).trans eb) ⟨_, hS2⟩
  rw [upd_upd] at I2 j2
  generalize hs2 : ({ s1 with heap := s1.heap.update S (Obj.mapSeq fun _ => #[]), toks := s1.toks } : Shared) = s2 at I2
  replace j2 : J 0 [] (upd H S (.lst [])) s2.heap := by rw [← hs2]; exact j2
  have hs2' : ({ s1 with heap := s1.heap.update S (Obj.mapSeq fun _ => #[]) } : Shared) = s2 := hs2
  first | rw [hs2'] | skip
  refine wpAny_bind (wpAny_letGo ?_)
  obtain ⟨oi, ei, ci⟩ := C.ty _ _ _ _ j2
  have hT : s2.TypeIs (.ref it) T := ⟨oi, ei, ci⟩
  unfold Builtin.List.listExtendWith
  refine wpAny_bind (wpAny_typeOf hT ?_)
  have h1 : Builtin.List.listSameRef (.ref S) (.ref it) = false := by simp [Builtin.List.listSameRef, hne]
  have h2 := C.nl.1
  have h3 := C.nl.2
  simp only [h1, h2, h3, Bool.or_false, Bool.false_eq_true, if_false]
  refine wpAny_bind (C.self _ s2 _ _ _ _ j2 ?_)
  refine wpAny_bind (wpAny_holding ?_)
  unfold Builtin.List.listLengthHint
  refine wpAny_bind (wpAny_specialOf hT C.nolen ?_)
  show wpAny _ A.in1.in1 (specialOf (Value.ref it) (Str.ofString "__length_hint__") >>= _) _ _ _
  refine wpAny_bind (wpAny_specialOf hT C.nohint ?_)
  refine wpAny_pure ?_
  show wpAny _ A.in1.in1 (rule "list.extend.makes-room" >>= fun _ => Builtin.List.listTouch (.ref S) >>= fun _ =>
    again (.builtin "list.extend.loop" ⟨[.ref S, .ref it, .none], []⟩)) _ _ _
  refine wpAny_bind (wpAny_rule ?_)
  refine wpAny_bind ?_
  show wpAny _ A.in1.in1 (updateSeq S (·.push .none) >>= fun _ => updateSeq S (·.pop)) _ _ _
  obtain ⟨_, its2, m2, rv2, _, e2⟩ := I2.lstM upd_same
  cases rv2
  refine wpAny_bind (wpAny_updateSeq e2 rfl ?_)
  have I3 := I2.lset (f := (·.push Value.none)) (its' := [.none]) (ys := [.non]) (t' := s2.toks) upd_same e2 (by simp) (.cons rfl .nil) (by show 1 ≤ sizeLine; decide)
  have hS3 := Heap.get?_update_self (Obj.mapSeq (·.push Value.none)) e2 rfl
  have j3 := C.keep _ _ _ _ (s2.heap.update S (Obj.mapSeq (·.push Value.none))) S [] [.non] hf upd_same j2 (fun b o hb eb => (Heap.get?_update_other _ _ (Ne.symm hb)).trans eb) ⟨_, hS3⟩
  rw [upd_upd] at I3 j3
  generalize hs3 : ({ s2 with heap := s2.heap.update S (Obj.mapSeq (·.push Value.none)), toks := s2.toks } : Shared) = s3 at I3
  replace j3 : J 0 [] (upd H S (.lst [.non])) s3.heap := by rw [← hs3]; exact j3
  have hs3' : ({ s2 with heap := s2.heap.update S (Obj.mapSeq (·.push Value.none)) } : Shared) = s3 := hs3
  first | rw [hs3'] | skip
  obtain ⟨_, its3, m3, rv3, hl3, e3⟩ := I3.lstM upd_same
  have hl3' : its3.length = 1 := hl3.symm
  refine wpAny_updateSeq e3 rfl ?_ (by rw [List.size_toArray, hl3']; decide) (by show its3.toArray.pop.size ≤ sizeLine + 1; rw [Array.size_pop, List.size_toArray, hl3']; decide)
  have I4 := I3.lset (f := (·.pop)) (its' := []) (ys := []) (t' := s3.toks) upd_same e3 (by
    cases its3 with
    | nil => simp at hl3'
    | cons a r => cases r with
      | nil => simp
      | cons b r' => simp at hl3') .nil (by simp)
  have hS4 := Heap.get?_update_self (Obj.mapSeq (·.pop)) e3 rfl
  have j4 := C.keep _ _ _ _ (s3.heap.update S (Obj.mapSeq (·.pop))) S [.non] [] hf upd_same j3 (fun b o hb eb => (Heap.get?_update_other _ _ (Ne.symm hb)).trans eb) ⟨_, hS4⟩
  rw [upd_upd] at I4 j4
  refine wpAny_pure ⟨plainId_quiet PySem.F.plain_extend_loop _, src_loop C hn (A := A.in1) hh S hf .none ?_ n 0 _ _ [] rfl (Nat.zero_le _) I4 j4 upd_same rfl⟩
  intro s' H' ys' I' hS' hl' hj'
  exact ⟨rfl, .ref S, H', I', rfl, q S H' ys' hf hS' hl' hj'⟩
end
end L2

set_option Elab.async false
set_option linter.all false
set_option maxRecDepth 100000
set_option maxHeartbeats 4000000
namespace L2
open PySem PySem.Spec PyProof.Rows
section
variable {X : Cx} {pins : List (Addr × Obj)} {σ : St} {H : Hp} {s : Shared} {h' : Heap}
/-- two untracked records have turned -/
theorem Inv.turned2 {t' : Nat} {i1 i2 : Addr} (I : Inv X pins σ H s) (k : ∀ b o, b ≠ i1 → b ≠ i2 → s.heap.get? b = some o → h'.get? b = some o) (f1 : FpOk X pins H i1) (f2 : FpOk X pins H i2) : Inv X pins σ H { s with heap := h', toks := t' } := by
  obtain ⟨n1, l1, _, e1, c1, p1⟩ := f1
  obtain ⟨n2, l2, _, e2, c2, p2⟩ := f2
  have nit : ∀ b u, H b = some u → b ≠ i1 ∧ b ≠ i2 := fun b u e => ⟨(fun z => by rw [z, n1] at e; exact nomatch e), (fun z => by rw [z, n2] at e; exact nomatch e)⟩
  refine I.step (g' := s.gens) (d' := s.drawn) (ch := [i1, i2]) (fun b hb => ?_) (fun b o _ _ hc e _ => k b o (fun z => hc (by simp [z])) (fun z => hc (by simp [z])) e) (fun b o _ _ hc e _ => ⟨o.slots, k b o (fun z => hc (by simp [z])) (fun z => hc (by simp [z])) e⟩) (fun _ _ _ _ n => n)
    (fun b o hc e => ⟨o, k b o (fun z => hc (by simp [z])) (fun z => hc (by simp [z])) e⟩) (fun _ _ e => e) (fun _ _ _ e => e) (fun b ps e => ⟨#[], by rw [e]; simp⟩) (fun m hm => ?_) (fun b u e => ?_) I.bare
  · rcases List.mem_cons.mp hb with rfl | hb
    · exact ⟨e1, l1, c1, p1⟩
    · rw [List.mem_singleton.mp hb]
      exact ⟨e2, l2, c2, p2⟩
  · obtain ⟨o, es, ep, ho, r⟩ := hm
    exact ⟨o, es, ep, k _ o (Ne.symm l1) (Ne.symm l2) ho, r⟩
  · refine (I.hok b u e).stay (fun c v hc q => k c v ?_ ?_ q) (fun _ q => q) fun _ _ q => q
    · rcases hc with z | z
      · rw [z]; exact (nit b u e).1
      · exact (nit c _ z).1
    · rcases hc with z | z
      · rw [z]; exact (nit b u e).2
      · exact (nit c _ z).2
end
theorem FpOk.of {X : Cx} {pins : List (Addr × Obj)} {H H' : Hp} {b : Addr} (f : FpOk X pins H b) (h : H' b = none) : FpOk X pins H' b := ⟨h, f.2⟩
theorem SqT.kept {K : PySem.W.Frag} {H : Hp} {S a : Addr} {zs zs' xs : List V} (hS : H S = some (.lst zs)) (h : SqT K H a xs) : SqT K (upd H S (.lst zs')) a xs := by
  rcases h with (h | ⟨o, h⟩) | h
  · exact .inl (.inl (by rw [upd_ne (ne_of h hS (by intro z; cases z))]; exact h))
  · exact .inl (.inr ⟨o, by rw [upd_ne (ne_of h hS (by intro z; cases z))]; exact h⟩)
  · exact .inr h
theorem SqT.same {K : PySem.W.Frag} {H H' : Hp} {a : Addr} {xs : List V} (h : SqT K H a xs) (e : Same H H') : SqT K H' a xs := e.tup h
/-- the pairs (0, x0), (1, x1), .. that stand at the addresses ts -/
def Pairs (H : Hp) (xs : List V) (ys : List V) : Prop := ∀ (j : Nat) (y : V), ys[j]? = some y → ∃ (t : Addr) (x : V), y = V.ref t ∧ xs[j]? = some x ∧ H t = some (.tup [.int j, x])
def JEn (K : PySem.W.Frag) (H0 : Hp) (en it a : Addr) (xs : List V) : Nat → List V → Hp → Heap → Prop := fun i ys H h =>
  EnSt h en it i ∧ h.IsTupleIter it a i ∧ (H en = none ∧ H it = none) ∧ SqT K H a xs ∧ ys.length = i ∧ Pairs H xs ys ∧ Same H0 H
theorem en_nolen : typeLookup (.type "enumerate") "__len__" = pure none := by rw [typeLookup_type, builtinLookup_eq_fast]; kernel_rfl
theorem en_nohint : typeLookup (.type "enumerate") "__length_hint__" = pure none := by rw [typeLookup_type, builtinLookup_eq_fast]; kernel_rfl
theorem src_enum {X : Cx} {pins : List (Addr × Obj)} {σ : St} {H0 : Hp} {en it a : Addr} {xs : List V} (fe : FpOk X pins H0 en) (fi : FpOk X pins H0 it) (hne : en ≠ it) (hae : a ≠ en) (hai : a ≠ it) : Src X pins σ en "enumerate" xs.length H0 (JEn X.K H0 en it a xs) where
  ty := fun i ys H h j => by
    obtain ⟨vs, e⟩ := j.1.obj
    exact ⟨_, e, rfl⟩
  nl := by decide
  nolen := en_nolen
  nohint := en_nohint
  self := fun A s ys H Q E j q => by
    rcases j.1 with ⟨_, old, e⟩ | ⟨z, _⟩
    · exact wpAny_pyIter_enum e q
    · exact absurd z (Nat.lt_irrefl _)
  keep := fun i ys H h h' S zs zs' h0 hS j k al => by
    obtain ⟨j1, j2, ⟨j3, j4⟩, j5, j6, j7, j8⟩ := j
    have ne1 : en ≠ S := fun z => by rw [z, hS] at j3; cases j3
    have ne2 : it ≠ S := fun z => by rw [z, hS] at j4; cases j4
    refine ⟨?_, ?_, ⟨by rw [upd_ne ne1]; exact j3, by rw [upd_ne ne2]; exact j4⟩, j5.kept hS, j6, fun m y hy => ?_, fun b o e => ?_⟩
    · rcases j1 with ⟨z, old, e⟩ | ⟨z, a0, oa, f1, old, e, ea, x1, x2⟩
      · exact .inl ⟨z, old, k _ _ ne1 e⟩
      · by_cases hs : a0 = S
        · subst hs
          obtain ⟨o, eo⟩ := al
          exact .inr ⟨z, a0, o, f1, old, k _ _ ne1 e, eo, x1, x2⟩
        · exact .inr ⟨z, a0, oa, f1, old, k _ _ ne1 e, k _ _ hs ea, x1, x2⟩
    · exact j2.at fun o e => k _ _ ne2 e
    · obtain ⟨t, x, e1, e2, e3⟩ := j7 m y hy
      exact ⟨t, x, e1, e2, by rw [upd_ne (ne_of e3 hS (by intro z; cases z))]; exact e3⟩
    · have : b ≠ S := fun z => by rw [z, h0] at e; cases e
      rw [upd_ne this]
      exact j8 b o e
  fresh := fun i ys H h j => j.2.2.1.1
  item := fun A i s H ys E hh hi I j => by
    obtain ⟨j1, j2, ⟨j3, j4⟩, j5, j6, j7, j8⟩ := j
    obtain ⟨its, rv, p, hz⟩ := I.tuple j5
    have hl := rv.length
    have D := draws_tup (prog := X.prog) (w := X.w) (A := A.in1) hh it a hai its.toArray
    refine en_next D j1 ⟨j2, p⟩ (by rw [List.size_toArray]; omega) hne (by simp [hne, Ne.symm hae]) fun x h' tk hx st' it' ht hsz kk => ?_
    have I1 : Inv X pins σ H { s with heap := h', toks := tk + 1 } := I.turned2 (fun b o h1 h2 e => kk b o h1 h2 e) (fe.of j3) (fi.of j4)
    have hx' : its[i]? = some x := by simpa using hx
    have hxs : i < xs.length := hi
    obtain ⟨u, hu, ru⟩ := rv.get (List.getElem?_eq_getElem hxs)
    rw [hx'] at hu
    cases hu
    have hf : H s.heap.objs.size = none := I.hok.fresh (Nat.le_refl _)
    -- the new pair is tracked
    have I2 : Inv X pins σ (upd H s.heap.objs.size (.tup [.int i, xs[i]])) { s with heap := h', toks := tk + 1 } := by
      have hokN : HOk X.prog X.w (upd H s.heap.objs.size (.tup [.int i, xs[i]])) h' := fun b o e => by
        by_cases hb : b = s.heap.objs.size
        · subst hb
          rw [upd_same] at e
          cases e
          exact ⟨by show 2 ≤ sizeLine; decide, [.int i tk, x], .cons ⟨tk, rfl⟩ (.cons ru .nil), ⟨_, ht, rfl, _, rfl⟩⟩
        · rw [upd_ne hb] at e
          refine (I1.hok b o e).stay (fun c v _ q => q) (fun c q => ?_) fun c zs q => ?_
          · rw [upd_ne (ne_of_none q hf)]; exact q
          · rw [upd_ne (ne_of_none q hf)]; exact q
      have u : Un (frs X.stack) [en, it] H (upd H s.heap.objs.size (.tup [.int i, xs[i]])) s.heap h' := {
        keep := fun b o e n _ hx => kk b o (fun z => hx (by simp [z])) (fun z => hx (by simp [z])) e
        slot := fun b o e n _ hx => ⟨o.slots, kk b o (fun z => hx (by simp [z])) (fun z => hx (by simp [z])) e⟩
        free := fun b o e n _ => by rw [upd_ne (Nat.ne_of_lt (Heap.lt_size e))]; exact n
        there := fun b o e hx => ⟨o, kk b o (fun z => hx (by simp [z])) (fun z => hx (by simp [z])) e⟩
        tups := fun b zs e => by rw [upd_ne (ne_of_none e hf)]; exact e
        frzs := fun b o u e => by rw [upd_ne (ne_of_none e hf)]; exact e
        tbls := fun b ps e => ⟨#[], by rw [upd_ne (ne_of_none e hf), e]; simp⟩ }
      refine I.call (g' := s.gens) (d' := s.drawn) (t' := tk + 1) u hokN I.bare fun b hb => ?_
      rcases List.mem_cons.mp hb with rfl | hb
      · exact ⟨fe.2.2.2.1, fe.2.1, fe.2.2.2.2.1, fe.2.2.2.2.2⟩
      · rw [List.mem_singleton.mp hb]
        exact ⟨fi.2.2.2.1, fi.2.1, fi.2.2.2.2.1, fi.2.2.2.2.2⟩
    have sm : Same H (upd H s.heap.objs.size (.tup [.int i, xs[i]])) := Same.upd hf
    have ne1 : en ≠ s.heap.objs.size := by obtain ⟨_, e⟩ := j1.obj; exact Nat.ne_of_lt (Heap.lt_size e)
    have ne2 : it ≠ s.heap.objs.size := by obtain ⟨_, e, _⟩ := j2; exact Nat.ne_of_lt (Heap.lt_size e)
    refine ⟨_, .ref s.heap.objs.size, _, rfl, rfl, I2, ⟨st', it'.1, ⟨by rw [upd_ne ne1]; exact j3, by rw [upd_ne ne2]; exact j4⟩, j5.same sm, by simp [j6], fun m y hy => ?_, j8.trans sm⟩, fun S zs e => sm S _ e⟩
    by_cases hm : m < i
    · rw [List.getElem?_append_left (by omega)] at hy
      obtain ⟨t, z, e1, e2, e3⟩ := j7 m y hy
      exact ⟨t, z, e1, e2, sm _ _ e3⟩
    · have hlen := (List.getElem?_eq_some_iff.mp hy).1
      rw [List.length_append, List.length_singleton] at hlen
      have : m = i := by omega
      subst this
      rw [List.getElem?_append_right (by omega), j6, Nat.sub_self] at hy
      have hy : V.ref s.heap.objs.size = y := by simpa using hy
      exact ⟨_, xs[m], hy.symm, List.getElem?_eq_getElem hxs, upd_same⟩
  done := fun A s H ys E hh I j => by
    obtain ⟨j1, j2, ⟨j3, j4⟩, j5, j6, j7, j8⟩ := j
    obtain ⟨its, rv, p, hz⟩ := I.tuple j5
    have hl := rv.length
    have D := draws_tup (prog := X.prog) (w := X.w) (A := A.in1) hh it a hai its.toArray
    have e : xs.length = its.toArray.size := by rw [List.size_toArray]; omega
    rw [e] at j1 j2
    refine en_end D j1 ⟨j2, p⟩ fun h' eb => ⟨rfl, ?_⟩
    obtain ⟨g0, g1, g2, g3, g4, g5⟩ := fi.of j4
    exact I.turned (t' := s.toks) (fun b o hb e => eb b o hb e) g0 g1 g3 g4 g5
section
variable {X : Cx}
theorem boot_list' : bootBuiltins "list" = some (.type "list") := by decide +kernel
def tListEn (K : PySem.W.Frag) (ta : TA) : TE := fun σ H Q => ta σ H fun vs H1 => ∃ a xs, vs = [.ref a] ∧ SqT K H1 a xs ∧
  ∀ (S : Addr) (ys : List V) (H2 : Hp), H1 S = none → Same H1 H2 → ys.length = xs.length → Pairs H2 xs ys → H2 S = some (.lst ys) → Q (.ref S) H2
/-- list(enumerate(a tuple)) -/
theorem qe_list_enumerate {e : Expr} {ta : TA} {p p2 pos pos2 : Pos} (hg : Gl X "list") (hm : X.mg "list" = none) (hg2 : Gl X "enumerate") (hm2 : X.mg "enumerate" = none) (ha : QA X [e] ta) (hc : X.calm = true := by rfl)
    (hs : starEach [.Call (.Name "enumerate" p2) [e] [] pos2] X.env = [(false, eval (.Call (.Name "enumerate" p2) [e] [] pos2) X.env)] := by rfl) (hs2 : starEach [e] X.env = [(false, eval e X.env)] := by rfl) :
    QE X (.Call (.Name "list" p) [.Call (.Name "enumerate" p2) [e] [] pos2] [] pos) (tListEn X.K ta) := by
  refine ⟨fun pins s σ H Q I h => ?_⟩
  refine Call_ (ld_blt I hg hm boot_list' (PyProof.Rows.callWith_type1 ?_ hs rfl))
  rw [hs]
  show wpAny _ _ (spliced ((false, eval (.Call (.Name "enumerate" p2) [e] [] pos2) X.env) :: [])) _ _ s
  refine Calls.spliced_cons ?_
  refine Call_ (ld_blt I hg2 hm2 PyProof.Rows.boot_enumerate (PyProof.Rows.callWith_type1 (thn (ha.run pos2 pins s σ H _ I h) fun us s1 ⟨vs, H1, I1, r1, q1⟩ => ?_) hs2 rfl))
  obtain ⟨a, xs, e1, hq, q⟩ := q1
  subst e1
  cases r1 with
  | cons r rr =>
    cases rr
    cases r
    obtain ⟨its, rv, pt, hz⟩ := I1.tuple hq
    have hlt : a < s1.heap.objs.size := by obtain ⟨o, e, _⟩ := id pt; exact Heap.lt_size e
    refine call_enum_tup (show s1.heap.IsTuple a its.toArray from pt) fun h' hen hit hsz hk => ?_
    refine Calls.spliced_nil ?_
    have I2 : Inv X pins σ H1 { s1 with heap := h' } := I1.kept (t' := s1.toks) hk
    have fe := I1.fpOk (b := s1.heap.objs.size + 1) (Nat.le_succ _) (I1.hok.fresh (Nat.le_succ _))
    have fi := I1.fpOk (b := s1.heap.objs.size) (Nat.le_refl _) (I1.hok.fresh (Nat.le_refl _))
    have C := src_enum (X := X) (pins := pins) (σ := σ) (H0 := H1) (en := s1.heap.objs.size + 1) (it := s1.heap.objs.size) (a := a) (xs := xs) fe fi (Nat.succ_ne_self _) (Nat.ne_of_lt (Nat.lt_succ_of_lt hlt)) (Nat.ne_of_lt hlt)
    refine call_list_src C (by omega) (I1.ok.hd hc) I2 ⟨.inl ⟨rfl, _, hen⟩, hit, ⟨fe.1, fi.1⟩, hq, rfl, fun j y hy => by simp at hy, Same.refl _⟩ (fun S hge hS h2 k2 => ?_) fun S H' ys hS hS' hl' hj => ?_
    · have sm : Same H1 (upd H1 S (.lst [])) := Same.upd hS
      refine ⟨.inl ⟨rfl, _, k2 _ _ hen⟩, hit.at fun o e => k2 _ _ e, ⟨?_, ?_⟩, hq.same sm, rfl, fun j y hy => by simp at hy, sm⟩
      · rw [upd_ne (show s1.heap.objs.size + 1 ≠ S from fun z => ?_)]
        · exact fe.1
        · have hge : h'.objs.size ≤ S := hge
          omega
      · rw [upd_ne (show s1.heap.objs.size ≠ S from fun z => ?_)]
        · exact fi.1
        · have hge : h'.objs.size ≤ S := hge
          omega
    · obtain ⟨h, j⟩ := hj
      exact q S ys H' hS j.2.2.2.2.2.2 hl' j.2.2.2.2.2.1 hS'
end
end L2

set_option Elab.async false
set_option linter.all false
set_option maxRecDepth 100000
set_option maxHeartbeats 4000000
namespace L2
open PySem PySem.Spec PyProof.Rows
/-! ### for a, b in enumerate(list) -/
def Ite (K : PySem.W.Frag) (a : Addr) (n : Nat) : It :=
  ⟨fun i H => ∃ xs, SqL K H a xs ∧ xs.length = n ∧ i < n, fun i H x H' => ∃ (t : Addr) (y : V), H t = none ∧ (∀ xs, SqL K H a xs → xs[i]? = some y) ∧ x = .ref t ∧ H' = upd H t (.tup [.int i, y]), fun i H => i = n ∧ ∃ xs, SqL K H a xs ∧ xs.length = n⟩
/-- behind a step that turned two records and laid a tuple -/
theorem Inv.pair {X : Cx} {pins : List (Addr × Obj)} {σ : St} {H : Hp} {s : Shared} {h' : Heap} {tk : Nat} {i1 i2 T : Addr} {xs : List V} {its : List Value} (I : Inv X pins σ H s) (f1 : FpOk X pins H i1) (f2 : FpOk X pins H i2)
    (kk : ∀ b o, b ≠ i1 → b ≠ i2 → s.heap.get? b = some o → h'.get? b = some o) (hT : s.heap.objs.size ≤ T) (rv : Vals xs its) (hz : xs.length ≤ sizeLine) (ht : h'.IsTuple T its.toArray) : Inv X pins σ (upd H T (.tup xs)) { s with heap := h', toks := tk } := by
  have hf : H T = none := I.hok.fresh hT
  have I1 : Inv X pins σ H { s with heap := h', toks := tk } := I.turned2 kk f1 f2
  have hokN : HOk X.prog X.w (upd H T (.tup xs)) h' := fun b o e => by
    by_cases hb : b = T
    · subst hb
      rw [upd_same] at e
      cases e
      exact ⟨hz, its, rv, ht⟩
    · rw [upd_ne hb] at e
      refine (I1.hok b o e).stay (fun c v _ q => q) (fun c q => ?_) fun c zs q => ?_
      · rw [upd_ne (ne_of_none q hf)]; exact q
      · rw [upd_ne (ne_of_none q hf)]; exact q
  have u : Un (frs X.stack) [i1, i2] H (upd H T (.tup xs)) s.heap h' := {
    keep := fun b o e n _ hx => kk b o (fun z => hx (by simp [z])) (fun z => hx (by simp [z])) e
    slot := fun b o e n _ hx => ⟨o.slots, kk b o (fun z => hx (by simp [z])) (fun z => hx (by simp [z])) e⟩
    free := fun b o e n _ => by rw [upd_ne (Nat.ne_of_lt (Nat.lt_of_lt_of_le (Heap.lt_size e) hT))]; exact n
    there := fun b o e hx => ⟨o, kk b o (fun z => hx (by simp [z])) (fun z => hx (by simp [z])) e⟩
    tups := fun b zs e => by rw [upd_ne (ne_of_none e hf)]; exact e
    frzs := fun b o u e => by rw [upd_ne (ne_of_none e hf)]; exact e
    tbls := fun b ps e => ⟨#[], by rw [upd_ne (ne_of_none e hf), e]; simp⟩ }
  refine I.call (g' := s.gens) (d' := s.drawn) (t' := tk) u hokN I.bare fun b hb => ?_
  rcases List.mem_cons.mp hb with rfl | hb
  · exact ⟨f1.2.2.2.1, f1.2.1, f1.2.2.2.2.1, f1.2.2.2.2.2⟩
  · rw [List.mem_singleton.mp hb]
    exact ⟨f2.2.2.2.1, f2.2.1, f2.2.2.2.2.1, f2.2.2.2.2.2⟩
theorem turn_enum {P : Program} {w : World} {K : PySem.W.Frag} {elts : List Expr} {kt : Nat} {pt : Pos} (a en it : Addr) (n : Nat) (hne : en ≠ it) (hae : a ≠ en) (hai : a ≠ it) : Turn P w K (.Tuple elts kt pt) (Ite K a n) [en, it] en (fun i h => (∃ old, IsEnum h en it i old) ∧ h.IsListIter it a i) where
  mem := by simp
  obj := fun i h st b hb => by
    rcases List.mem_cons.mp hb with rfl | hb
    · obtain ⟨old, e⟩ := st.1
      exact ⟨_, e, fun v z => by
        have z' : Data.fields _ = Data.cell v := z
        cases z'⟩
    · rw [List.mem_singleton.mp hb]
      obtain ⟨o, e, c, d⟩ := st.2
      exact ⟨o, e, fun v z => by rw [d] at z; cases z⟩
  keep := fun i h h' st k => ⟨let ⟨old, e⟩ := st.1; ⟨old, k en (by simp) _ e⟩, st.2.at fun o e => k it (by simp) o e⟩
  item := by
    intro X hP hw hK hc i pins s σ H E I hf st hg
    subst hP hw hK
    obtain ⟨xs, hq, hl, hi⟩ := hg
    obtain ⟨its, rv, p, hz⟩ := I.list hq
    have hlen := rv.length
    have fe := hf en (by simp)
    have fi := hf it (by simp)
    have W := WalksT.enumerateD (prog := X.prog) (w := X.w) (A := X.A) (Draws.list (A := X.A.in1) (I.ok.hd hc) it a hai its.toArray) en hne (by simp [hne, Ne.symm hae]) (by simp)
    refine W.item i s _ _ (by rw [List.size_toArray]; omega) ⟨st.1, st.2, p.isList⟩ fun T vals h1 tk hP hT ht mid k1 => ?_
    obtain ⟨t, x, hx, rfl⟩ := hP
    refine ⟨_, rfl, W.go elts kt pt i T _ _ _ mid fun h2 st2 k2 => ?_⟩
    have hx' : its[i]? = some x := by simpa using hx
    have hxs : i < xs.length := by omega
    obtain ⟨u, hu, ru⟩ := rv.get (List.getElem?_eq_getElem hxs)
    rw [hx'] at hu
    cases hu
    have hTw : T ∉ [en, it] := W.apart i T _ mid
    have ht2 : h2.IsTuple T ([.int i t, x] : List Value).toArray := by
      obtain ⟨o, eo, r⟩ := ht
      exact ⟨o, k2 T o hTw eo, r⟩
    have kk : ∀ b o, b ≠ en → b ≠ it → s.heap.get? b = some o → h2.get? b = some o := fun b o h1 h3 e => k2 b o (by simp [h1, h3]) (k1 b o (by simp [h1, h3]) e)
    have I2 := I.pair (tk := tk) (T := T) (xs := [.int i, xs[i]]) fe fi kk hT (.cons ⟨t, rfl⟩ (.cons ru .nil)) (by show 2 ≤ sizeLine; decide) ht2
    refine ⟨.ref T, _, I2, rfl, ⟨T, xs[i], I.hok.fresh hT, fun ys hy => by rw [I.list_inj hy hq]; exact List.getElem?_eq_getElem hxs, rfl, rfl⟩, ⟨st2.1, st2.2.1⟩, fun b hb => ?_⟩
    have hb' : b ≠ T := fun z => hTw (z ▸ hb)
    rw [upd_ne hb']
    exact (hf b hb).1
  done := by
    intro X hP hw hK hc i pins s σ H E I hf st hg
    subst hP hw hK
    obtain ⟨rfl, xs, hq, hl⟩ := hg
    obtain ⟨its, rv, p, hz⟩ := I.list hq
    have hlen := rv.length
    have fe := hf en (by simp)
    have fi := hf it (by simp)
    have W := WalksT.enumerateD (prog := X.prog) (w := X.w) (A := X.A) (Draws.list (A := X.A.in1) (I.ok.hd hc) it a hai its.toArray) en hne (by simp [hne, Ne.symm hae]) (by simp)
    have e : i = its.toArray.size := by rw [List.size_toArray]; omega
    rw [e] at st
    exact W.done s _ _ ⟨st.1, st.2, p.isList⟩ fun h' tk kk => ⟨rfl, I.turned2 (fun b o h1 h2 e => kk b o (by simp [h1, h2]) e) fe fi⟩
  self := fun A i s Q E st h => by
    obtain ⟨old, e⟩ := st.1
    exact wpAny_pyIter_enum e h
section
variable {X : Cx}
def iEnum (K : PySem.W.Frag) (ta : TA) : TI := fun σ H R => ta σ H fun vs H1 => ∃ a xs, vs = [.ref a] ∧ SqL K H1 a xs ∧ R (Ite K a xs.length) H1
theorem qi_enum {elts : List Expr} {kt : Nat} {pt : Pos} {e : Expr} {ta : TA} {p pos : Pos} (hg : Gl X "enumerate") (hm : X.mg "enumerate" = none) (ha : QA X [e] ta) (hs : starEach [e] X.env = [(false, eval e X.env)] := by rfl) : QI X (.Tuple elts kt pt) (.Call (.Name "enumerate" p) [e] [] pos) (iEnum X.K ta) := by
  refine ⟨fun pins s σ H R I h => ?_⟩
  refine Call_ (ld_blt I hg hm PyProof.Rows.boot_enumerate (PyProof.Rows.callWith_type1 (thn (ha.run pos pins s σ H _ I h) fun us s1 ⟨vs, H1, I1, r1, q1⟩ => ?_) hs rfl))
  obtain ⟨l, xs, e1, hq, q⟩ := q1
  subst e1
  cases r1 with
  | cons r rr =>
    cases rr
    cases r
    obtain ⟨its, rv, pl, hz⟩ := I1.list hq
    have hlt : l < s1.heap.objs.size := by obtain ⟨o, e, _⟩ := pl.isList; exact Heap.lt_size e
    refine call_enumerate_list pl.isList fun h' hen hit hsz hk => ?_
    refine wpAny_pyIter_enum hen ?_
    have fe := I1.fpOk (b := s1.heap.objs.size + 1) (Nat.le_succ _) (I1.hok.fresh (Nat.le_succ _))
    have fi := I1.fpOk (b := s1.heap.objs.size) (Nat.le_refl _) (I1.hok.fresh (Nat.le_refl _))
    refine ⟨s1.heap.objs.size + 1, [s1.heap.objs.size + 1, s1.heap.objs.size], _, _, H1, rfl, I1.kept (t' := s1.toks) hk, turn_enum l _ _ xs.length (Nat.succ_ne_self _) (Nat.ne_of_lt (Nat.lt_succ_of_lt hlt)) (Nat.ne_of_lt hlt), ⟨⟨_, hen⟩, hit⟩, fun b hb => ?_, q⟩
    rcases List.mem_cons.mp hb with rfl | hb
    · exact fe
    · rw [List.mem_singleton.mp hb]
      exact fi
theorem for_enum {K : PySem.W.Frag} {a : Addr} {xs : List V} {g : TG} {tb : TS} {D : Ends} {σ : St} {H : Hp} (Pv : Nat → St → Hp → Prop) (h0 : Pv 0 σ H) (hl : ∀ i σ H, i ≤ xs.length → Pv i σ H → SqL K H a xs)
    (hs : ∀ i x t σ H, xs[i]? = some x → H t = none → Pv i σ H → g (.ref t) σ (upd H t (.tup [.int i, x])) fun σ2 H2 => tb { D with nx := Pv (i + 1), ct := Pv (i + 1), bk := D.nx } σ2 H2) (hd : ∀ σ H, Pv xs.length σ H → D.nx σ H) :
    ∃ W : Nat → Nat → St → Hp → Prop, (∃ m, W 0 m σ H) ∧ ∀ i m σ H, W i m σ H →
      ((Ite K a xs.length).stop i H ∧ D.nx σ H) ∨ ((Ite K a xs.length).go i H ∧ ∃ N : St → Hp → Prop, (∀ σ' H', N σ' H' → ∃ m', m' < m ∧ W (i + 1) m' σ' H') ∧ ∀ x H', (Ite K a xs.length).yld i H x H' → g x σ H' fun σ2 H2 => tb { D with nx := N, ct := N, bk := D.nx } σ2 H2) := by
  refine ⟨fun i m σ H => m = xs.length - i ∧ i ≤ xs.length ∧ Pv i σ H, ⟨xs.length, by simp, Nat.zero_le _, h0⟩, ?_⟩
  rintro i m σ H ⟨rfl, hi, p⟩
  have q := hl i σ H hi p
  by_cases hlt : i < xs.length
  · refine .inr ⟨⟨xs, q, rfl, hlt⟩, Pv (i + 1), fun σ' H' p' => ⟨xs.length - (i + 1), by omega, rfl, hlt, p'⟩, fun x H' y => ?_⟩
    obtain ⟨t, y, ht, hy, rfl, rfl⟩ := y
    exact hs i y t σ _ (hy xs q) ht p
  · have e : i = xs.length := by omega
    subst e
    exact .inl ⟨⟨rfl, xs, q, rfl⟩, hd σ H p⟩
end
end L2

set_option Elab.async false
set_option linter.all false
set_option maxRecDepth 100000
set_option maxHeartbeats 4000000
namespace L2
open PySem PySem.SeqAt
open PySem.AutoSeq1 (wpAny_loadPart')
open PySem.MeetsSeq PySem.MeetsSeq2 PySem.MeetsSeq3 PySem.SeqRoads2
theorem ne_loopAt (l b : Addr) (items items2 : Array Value) (n n2 : Nat) (dd dd2 : Option Addr) (sl sl2 : Array (Option Value)) (hsz : items.size = items2.size) (e : Nat → Bool) (k : Nat) :
    ∀ i : Nat, items.size - i = k → Meets (Builtin.«list.__eq__.loop» ⟨[.ref l, .ref b, rawInt i, rawInt 3], []⟩)
      (fun A R s => s.heap.get? l = some { cls := .type "list", dict := dd, data := .seq items n, slots := sl } ∧ s.heap.get? b = some { cls := .type "list", dict := dd2, data := .seq items2 n2, slots := sl2 } ∧
        (∀ j (h1 : j < items.size) (h2 : j < items2.size), EqAt A.in1 s items[j] items2[j] (e j)) ∧
        R (.ok (.ret (.bool (!((List.range items.size).drop i).all e)))) s) := by
  induction k with
  | zero =>
    intro i hk prog w A R s h
    obtain ⟨hp, g, d, tk, os⟩ := s; obtain ⟨hl, hb, he, h⟩ := h
    wp_walk using wpAny_loadPart' hl, wpAny_loadPart' hb
    have hi1 : items[((i : Nat) : Int).toNat]? = none := by simp; omega
    have hi2 : items2[((i : Nat) : Int).toNat]? = none := by simp; omega
    have hd : (List.range items.size).drop i = [] := by simp; omega
    rw [hd] at h
    rw [hi1, hi2]
    wp_walk using wpAny_loadPart' hl, wpAny_loadPart' hb
    show R (.ok (.ret (.bool (items.size != items2.size)))) _
    rw [hsz]
    simpa using h
  | succ k ih =>
    intro i hk prog w A R s h
    obtain ⟨hp, g, d, tk, os⟩ := s; obtain ⟨hl, hb, he, h⟩ := h
    wp_walk using wpAny_loadPart' hl, wpAny_loadPart' hb
    have hlt : i < items.size := by omega
    have hlt2 : i < items2.size := by omega
    have hi1 : items[((i : Nat) : Int).toNat]? = some items[i] := by simp [hlt]
    have hi2 : items2[((i : Nat) : Int).toNat]? = some items2[i] := by simp [hlt2]
    have hd : (List.range items.size).drop i = i :: (List.range items.size).drop (i + 1) := by simp [List.drop_eq_getElem_cons, hlt]
    have hc : ((i : Int) + 1) = ((i + 1 : Nat) : Int) := by push_cast; rfl
    rw [hd, List.all_cons] at h
    rw [hi1, hi2]
    refine wpAny_bind (he i hlt hlt2 prog w _ _ ?_)
    cases hb' : e i with
    | true =>
      rw [hb'] at h
      wp_walk
      rw [hc]
      exact ⟨plainId_quiet plain_eq_loop _, codeAny_builtin entry_eq_loop (by
        rw [Around.under_plainId plain_eq_loop _]
        exact ih (i + 1) (by omega) prog w A R _ ⟨hl, hb, he, by simpa using h⟩)⟩
    | false =>
      rw [hb'] at h
      wp_walk using wpAny_loadPart' hl, wpAny_loadPart' hb
      rw [hi1, hi2]
      wp_walk
      simpa using h
theorem list_neAt (l b : Addr) (items items2 : Array Value) (n n2 : Nat) (dd dd2 : Option Addr) (sl sl2 : Array (Option Value)) (hsz : items.size = items2.size) (e : Nat → Bool) :
    Meets (Builtin.«list.__ne__» ⟨[.ref l, .ref b], []⟩)
      (fun A R s => s.heap.get? l = some { cls := .type "list", dict := dd, data := .seq items n, slots := sl } ∧ s.heap.get? b = some { cls := .type "list", dict := dd2, data := .seq items2 n2, slots := sl2 } ∧
        (∀ j (h1 : j < items.size) (h2 : j < items2.size), EqAt A.in1 s items[j] items2[j] (e j)) ∧
        R (.ok (.ret (.bool (!(List.range items.size).all e)))) s) := by
  intro prog w A R s h
  obtain ⟨hp, g, d, tk, os⟩ := s; obtain ⟨hl, hb, he, h⟩ := h
  have f3 := PySem.AutoSeq1.sub_list_list
  have hne : ¬ (items.size != items2.size) = true := by simp [hsz]
  wp_walk using wpAny_loadPart' hl, wpAny_loadPart' hb
  exact ⟨plainId_quiet plain_eq_loop _, codeAny_builtin entry_eq_loop (by
    rw [Around.under_plainId plain_eq_loop _]
    exact ne_loopAt l b items items2 n n2 dd dd2 sl sl2 hsz e _ 0 rfl prog w A R _ ⟨hl, hb, he, by simpa using h⟩)⟩
theorem list_ne_lengthsAt (l b : Addr) (items items2 : Array Value) (n n2 : Nat) (dd dd2 : Option Addr) (sl sl2 : Array (Option Value)) (hc0 : (items.size != items2.size) = true) :
    Meets (Builtin.«list.__ne__» ⟨[.ref l, .ref b], []⟩)
      (fun A R s => s.heap.get? l = some { cls := .type "list", dict := dd, data := .seq items n, slots := sl } ∧ s.heap.get? b = some { cls := .type "list", dict := dd2, data := .seq items2 n2, slots := sl2 } ∧
        R (.ok (.ret (.bool true))) s) := by
  intro prog w A R s h
  obtain ⟨hp, g, d, tk, os⟩ := s; obtain ⟨hl, hb, h⟩ := h
  have f3 := PySem.AutoSeq1.sub_list_list
  wp_walk using wpAny_loadPart' hl, wpAny_loadPart' hb
  exact h
theorem tuple_neAt (l b : Addr) (items items2 : Array Value) (n n2 : Nat) (dd dd2 : Option Addr) (sl sl2 : Array (Option Value)) (e : Nat → Bool) :
    Meets (Builtin.«tuple.__ne__» ⟨[.ref l, .ref b], []⟩)
      (fun A R s => s.heap.get? l = some { cls := .type "tuple", dict := dd, data := .seq items n, slots := sl } ∧ s.heap.get? b = some { cls := .type "tuple", dict := dd2, data := .seq items2 n2, slots := sl2 } ∧
        (∀ j (h1 : j < items.size) (h2 : j < items2.size), EqAt A.in1 s items[j] items2[j] (e j)) ∧
        R (.ok (.ret (.bool (!((List.range (min items.size items2.size)).all e && items.size == items2.size))))) s) :=
  .of_wp fun prog w A R s h => by
    obtain ⟨hp, g, d, tk, os⟩ := s; obtain ⟨hl, hb, he, h⟩ := h
    have f2 := PySem.AutoSeq1.sub_tuple_tuple
    have hZ : (items.toList.zip items2.toList).length = min items.size items2.size := by simp
    wp_walk using wpAny_loadPart' hl, wpAny_loadPart' hb, wpAny_forIn_list _ (fun rest b s' => b.1 = none ∧ s' = ⟨hp, g, d, tk, os⟩ ∧ ∃ i, rest = (items.toList.zip items2.toList).drop i ∧
      R (.ok (.ret (.bool (!(((List.range (min items.size items2.size)).drop i).all e && items.size == items2.size))))) ⟨hp, g, d, tk, os⟩) _
    case turn =>
      rintro ⟨y, x⟩ rest b s' ⟨hb', rfl, i, hz, hR⟩
      have hlt : i < (items.toList.zip items2.toList).length := by
        rcases Nat.lt_or_ge i (items.toList.zip items2.toList).length with h' | h'
        · exact h'
        · rw [List.drop_of_length_le h'] at hz; cases hz
      have hm : i < min items.size items2.size := hZ ▸ hlt
      have h1 : i < items.size := Nat.lt_of_lt_of_le hm (Nat.min_le_left _ _)
      have h2 : i < items2.size := Nat.lt_of_lt_of_le hm (Nat.min_le_right _ _)
      rw [List.drop_eq_getElem_cons hlt] at hz
      injection hz with hyx hrest
      have hy : y = items[i] := by have := congrArg Prod.fst hyx; simpa using this
      have hx : x = items2[i] := by have := congrArg Prod.snd hyx; simpa using this
      subst hy hx
      have hd : (List.range (min items.size items2.size)).drop i = i :: (List.range (min items.size items2.size)).drop (i + 1) := by simp [List.drop_eq_getElem_cons, hm]
      rw [hd, List.all_cons] at hR
      refine wpAny_bind (he i h1 h2 prog w _ _ ?_)
      cases hy : e i with
      | true =>
        rw [hy] at hR
        wp_walk
        exact ⟨rfl, rfl, i + 1, hrest, by simpa using hR⟩
      | false =>
        rw [hy] at hR
        wp_walk
        exact ⟨_, rfl, by simpa using hR⟩
    case fin =>
      rintro ⟨b1, b2⟩ s' ⟨hb', rfl, i, hz, hR⟩
      simp only at hb'
      subst hb'
      have hge : min items.size items2.size ≤ i := by
        rcases Nat.lt_or_ge i (items.toList.zip items2.toList).length with h' | h'
        · rw [List.drop_eq_getElem_cons h'] at hz; cases hz
        · exact hZ ▸ h'
      rw [List.drop_of_length_le (by simpa using hge)] at hR
      wp_walk
      exact ⟨_, rfl, by simpa [Builtin.Tuple.tupleCompareSizes, bne] using hR⟩
    case h =>
      exact ⟨rfl, rfl, 0, rfl, by simpa using h⟩
section
variable {prog : Program} {w : World} {A : Around} {E : Value → Shared → Prop} {s : Shared}
theorem ne_listsAt {l b : Addr} {items items2 : Array Value} {e : Nat → Bool} {Q : Value → Shared → Prop} (hl : s.heap.IsList l items) (hb : s.heap.IsList b items2) (hsz : items.size = items2.size) (hu : A.units < cLine)
    (he : ∀ j (h1 : j < items.size) (h2 : j < items2.size), EqAt A.in1 s items[j] items2[j] (e j)) (h : Q (.bool (!(List.range items.size).all e)) s) : wpAny (model prog w) A (compareOp .NotEq (.ref l) (.ref b)) Q E s := by
  obtain ⟨⟨cls, dd, data, sl⟩, ho, hc, n, hd⟩ := id hl
  obtain ⟨⟨cls2, dd2, data2, sl2⟩, ho2, hc2, n2, hd2⟩ := id hb
  simp only at hc hd hc2 hd2
  subst hc hd hc2 hd2
  exact richCompare_meets_room (op := .NotEq) ⟨_, ho, rfl⟩ ⟨_, ho2, rfl⟩ F.slot_list_ne F.entry_list_ne (F.args_list_ne_2 _ _) (list_neAt l b items items2 n n2 dd dd2 sl sl2 hsz e)
    ⟨ho, ho2, he, show Value.bool (!(List.range items.size).all e) ≠ Value.notImplemented ∧ Q (.bool (!(List.range items.size).all e)) s from ⟨(fun x => nomatch x), h⟩⟩ hu
theorem ne_lists_lengthsAt {l b : Addr} {items items2 : Array Value} {Q : Value → Shared → Prop} (hl : s.heap.IsList l items) (hb : s.heap.IsList b items2) (hsz : (items.size != items2.size) = true) (hu : A.units < cLine)
    (h : Q (.bool true) s) : wpAny (model prog w) A (compareOp .NotEq (.ref l) (.ref b)) Q E s := by
  obtain ⟨⟨cls, dd, data, sl⟩, ho, hc, n, hd⟩ := id hl
  obtain ⟨⟨cls2, dd2, data2, sl2⟩, ho2, hc2, n2, hd2⟩ := id hb
  simp only at hc hd hc2 hd2
  subst hc hd hc2 hd2
  exact richCompare_meets_room (op := .NotEq) ⟨_, ho, rfl⟩ ⟨_, ho2, rfl⟩ F.slot_list_ne F.entry_list_ne (F.args_list_ne_2 _ _) (list_ne_lengthsAt l b items items2 n n2 dd dd2 sl sl2 hsz)
    ⟨ho, ho2, show Value.bool true ≠ Value.notImplemented ∧ Q (.bool true) s from ⟨(fun x => nomatch x), h⟩⟩ hu
theorem ne_tuplesAt {l b : Addr} {items items2 : Array Value} {e : Nat → Bool} {Q : Value → Shared → Prop} (hl : s.heap.IsTuple l items) (hb : s.heap.IsTuple b items2) (hu : A.units < cLine)
    (he : ∀ j (h1 : j < items.size) (h2 : j < items2.size), EqAt A.in1 s items[j] items2[j] (e j)) (h : Q (.bool (!((List.range (min items.size items2.size)).all e && items.size == items2.size))) s) : wpAny (model prog w) A (compareOp .NotEq (.ref l) (.ref b)) Q E s := by
  obtain ⟨⟨cls, dd, data, sl⟩, ho, hc, n, hd⟩ := id hl
  obtain ⟨⟨cls2, dd2, data2, sl2⟩, ho2, hc2, n2, hd2⟩ := id hb
  simp only at hc hd hc2 hd2
  subst hc hd hc2 hd2
  exact richCompare_meets_room (op := .NotEq) ⟨_, ho, rfl⟩ ⟨_, ho2, rfl⟩ F.slot_tuple_ne F.entry_tuple_ne (F.args_tuple_ne_2 _ _) (tuple_neAt l b items items2 n n2 dd dd2 sl sl2 e)
    ⟨ho, ho2, he, show Value.bool (!((List.range (min items.size items2.size)).all e && items.size == items2.size)) ≠ Value.notImplemented ∧ Q (.bool (!((List.range (min items.size items2.size)).all e && items.size == items2.size))) s from ⟨(fun x => nomatch x), h⟩⟩ hu
end
end L2

set_option Elab.async false
set_option linter.all false
set_option maxRecDepth 100000
set_option maxHeartbeats 4000000
namespace L2
open PySem PySem.Spec PyProof.Rows
/-! ### data: flat things, tuples and lists of data -/
inductive Dt where
  | flat (v : V)
  | tup (ds : List Dt)
  | lst (ds : List Dt)
/-- v stands for the data d, nested at most n deep -/
inductive IsD (K : PySem.W.Frag) (H : Hp) : Nat → V → Dt → Prop where
  | flat {n : Nat} {v : V} (h : flatV v = true) : IsD K H n v (.flat v)
  | tup {n : Nat} {a : Addr} {vs : List V} {ds : List Dt} (q : SqT K H a vs) (l : vs.length = ds.length) (h : ∀ (j : Nat) (v : V) (d : Dt), vs[j]? = some v → ds[j]? = some d → IsD K H n v d) : IsD K H (n + 1) (.ref a) (.tup ds)
  | lst {n : Nat} {a : Addr} {vs : List V} {ds : List Dt} (q : SqL K H a vs) (l : vs.length = ds.length) (h : ∀ (j : Nat) (v : V) (d : Dt), vs[j]? = some v → ds[j]? = some d → IsD K H n v d) : IsD K H (n + 1) (.ref a) (.lst ds)
theorem IsD.same {K : PySem.W.Frag} {H H' : Hp} {n : Nat} {v : V} {d : Dt} (h : IsD K H n v d) (e : Same H H') : IsD K H' n v d := by
  induction h with
  | flat h => exact .flat h
  | tup q l _ ih => exact .tup (e.tup q) l ih
  | lst q l _ ih => exact .lst (e.seq q) l ih
theorem IsD.up {K : PySem.W.Frag} {H : Hp} {n m : Nat} {v : V} {d : Dt} (h : IsD K H n v d) (hm : n ≤ m) : IsD K H m v d := by
  induction h generalizing m with
  | flat h => exact .flat h
  | tup q l _ ih =>
    obtain ⟨k, rfl⟩ : ∃ k, m = k + 1 := ⟨m - 1, by omega⟩
    exact .tup q l fun j v d e1 e2 => ih j v d e1 e2 (by omega)
  | lst q l _ ih =>
    obtain ⟨k, rfl⟩ : ∃ k, m = k + 1 := ⟨m - 1, by omega⟩
    exact .lst q l fun j v d e1 e2 => ih j v d e1 e2 (by omega)
theorem eqV_self {v : V} (h : flatV v = true) : eqV v v = true := by
  cases v with
  | non => rfl
  | bl b => simp [eqV]
  | int i => simp [eqV]
  | str x => simp [eqV]
  | byt _ => cases h
  | flt _ => cases h
  | ref _ => cases h
  | ty _ => cases h
section
variable {X : Cx} {pins : List (Addr × Obj)} {σ : St} {H : Hp} {s : Shared}
theorem eqAt_same (I : Inv X pins σ H s) : ∀ {n : Nat} {x y : V} {d : Dt}, IsD X.K H n x d → IsD X.K H n y d → ∀ {A : Around} {u v : Value}, RelV x u → RelV y v → A.units + n < cLine → SeqAt.EqAt A s u v true := by
  intro n
  induction n with
  | zero =>
    intro x y d hx hy A u v rx ry hu
    cases hx with
    | flat fx =>
      cases hy with
      | flat fy =>
        have := eqAt_V (A := A) (s := s) rx ry fx fy
        rw [eqV_self fx] at this
        exact this
  | succ n ih =>
    intro x y d hx hy A u v rx ry hu
    cases hx with
    | flat fx =>
      cases hy with
      | flat fy =>
        have := eqAt_V (A := A) (s := s) rx ry fx fy
        rw [eqV_self fx] at this
        exact this
    | @tup _ a vs ds q l h =>
      cases hy with
      | @tup _ b ws _ q' l' h' =>
        cases rx
        cases ry
        by_cases hab : a = b
        · subst hab
          exact SeqAt.EqAt.same _
        obtain ⟨its, r1, p1, _⟩ := I.tuple q
        obtain ⟨its2, r2, p2, _⟩ := I.tuple q'
        have l1 := r1.length
        have l2 := r2.length
        have := SeqAt.RcAt.tuples (A := A) (e := fun _ => true) (show s.heap.IsTuple a its.toArray from p1) (show s.heap.IsTuple b its2.toArray from p2) (by omega) fun j h1 h2 => by
          have h1' : j < vs.length := by simp only [List.size_toArray] at h1; omega
          have h2' : j < ws.length := by simp only [List.size_toArray] at h2; omega
          obtain ⟨u1, g1, k1⟩ := r1.get (List.getElem?_eq_getElem h1')
          obtain ⟨u2, g2, k2⟩ := r2.get (List.getElem?_eq_getElem h2')
          have e1 : its.toArray[j] = u1 := by
            have : its[j]? = some its[j] := by simp
            rw [this] at g1
            simpa using g1
          have e2 : its2.toArray[j] = u2 := by
            have : its2[j]? = some its2[j] := by simp
            rw [this] at g2
            simpa using g2
          rw [e1, e2]
          have hd : j < ds.length := by omega
          exact ih (h j _ _ (List.getElem?_eq_getElem h1') (List.getElem?_eq_getElem hd)) (h' j _ _ (List.getElem?_eq_getElem h2') (List.getElem?_eq_getElem hd)) k1 k2 (by show A.units + 1 + n < cLine; omega)
        have e : ((List.range (min its.toArray.size its2.toArray.size)).all (fun _ => true) && its.toArray.size == its2.toArray.size) = true := by
          have : its.toArray.size = its2.toArray.size := by simp only [List.size_toArray]; omega
          rw [this]
          simp
        rw [e] at this
        exact SeqAt.EqAt.of_refs hab this
    | @lst _ a vs ds q l h =>
      cases hy with
      | @lst _ b ws _ q' l' h' =>
        cases rx
        cases ry
        by_cases hab : a = b
        · subst hab
          exact SeqAt.EqAt.same _
        obtain ⟨its, r1, p1, _⟩ := I.list q
        obtain ⟨its2, r2, p2, _⟩ := I.list q'
        have l1 := r1.length
        have l2 := r2.length
        have := SeqAt.RcAt.lists (A := A) (e := fun _ => true) p1.isList p2.isList (by simp only [List.size_toArray]; omega) (by omega) fun j h1 h2 => by
          have h1' : j < vs.length := by simp only [List.size_toArray] at h1; omega
          have h2' : j < ws.length := by simp only [List.size_toArray] at h2; omega
          obtain ⟨u1, g1, k1⟩ := r1.get (List.getElem?_eq_getElem h1')
          obtain ⟨u2, g2, k2⟩ := r2.get (List.getElem?_eq_getElem h2')
          have e1 : its.toArray[j] = u1 := by
            have : its[j]? = some its[j] := by simp
            rw [this] at g1
            simpa using g1
          have e2 : its2.toArray[j] = u2 := by
            have : its2[j]? = some its2[j] := by simp
            rw [this] at g2
            simpa using g2
          rw [e1, e2]
          have hd : j < ds.length := by omega
          exact ih (h j _ _ (List.getElem?_eq_getElem h1') (List.getElem?_eq_getElem hd)) (h' j _ _ (List.getElem?_eq_getElem h2') (List.getElem?_eq_getElem hd)) k1 k2 (by show A.units + 1 + n < cLine; omega)
        have e : (List.range its.toArray.size).all (fun _ => true) = true := by simp
        rw [e] at this
        exact SeqAt.EqAt.of_refs hab this
/-- the items of two that stand for the same data -/
theorem itemsAt (I : Inv X pins σ H s) {n : Nat} {A : Around} {vs ws : List V} {its its2 : List Value} {ds : List Dt} (r1 : Vals vs its) (r2 : Vals ws its2) (l : vs.length = ds.length) (l' : ws.length = ds.length)
    (h : ∀ (j : Nat) (v : V) (d : Dt), vs[j]? = some v → ds[j]? = some d → IsD X.K H n v d) (h' : ∀ (j : Nat) (v : V) (d : Dt), ws[j]? = some v → ds[j]? = some d → IsD X.K H n v d) (hu : A.units + n < cLine) :
    ∀ j (h1 : j < its.toArray.size) (h2 : j < its2.toArray.size), SeqAt.EqAt A s its.toArray[j] its2.toArray[j] ((fun _ => true) j) := fun j h1 h2 => by
  have l1 := r1.length
  have l2 := r2.length
  have h1' : j < vs.length := by simp only [List.size_toArray] at h1; omega
  have h2' : j < ws.length := by simp only [List.size_toArray] at h2; omega
  obtain ⟨u1, g1, k1⟩ := r1.get (List.getElem?_eq_getElem h1')
  obtain ⟨u2, g2, k2⟩ := r2.get (List.getElem?_eq_getElem h2')
  have e1 : its.toArray[j] = u1 := by
    have : its[j]? = some its[j] := by simp
    rw [this] at g1
    simpa using g1
  have e2 : its2.toArray[j] = u2 := by
    have : its2[j]? = some its2[j] := by simp
    rw [this] at g2
    simpa using g2
  rw [e1, e2]
  have hd : j < ds.length := by omega
  exact eqAt_same I (h j _ _ (List.getElem?_eq_getElem h1') (List.getElem?_eq_getElem hd)) (h' j _ _ (List.getElem?_eq_getElem h2') (List.getElem?_eq_getElem hd)) k1 k2 hu
end
section
variable {X : Cx}
/-- == of two that stand for the same data -/
def rEqD (K : PySem.W.Frag) (b : Bool) : R2 := fun x y H Q => ∃ (a c : Addr) (n : Nat) (d : Dt), x = .ref a ∧ y = .ref c ∧ n ≤ 190 ∧ IsD K H n x d ∧ IsD K H n y d ∧ Q (.bl b) H
theorem op_eqD (hu : X.A.units + 200 < cLine) : OpR X (compareOp .Eq) (rEqD X.K true) := by
  intro pins s σ H x y v u Q I rx ry h
  obtain ⟨a, c, n, d, rfl, rfl, hn, hx, hy, q⟩ := h
  cases rx
  cases ry
  cases hx with
  | flat fx => cases fx
  | @tup n _ vs ds qx l hd =>
    cases hy with
    | @tup _ _ ws _ qy l' hd' =>
      obtain ⟨its, r1, p1, _⟩ := I.tuple qx
      obtain ⟨its2, r2, p2, _⟩ := I.tuple qy
      have l1 := r1.length
      have l2 := r2.length
      refine SeqAt.eq_tupleAt (e := fun _ => true) (show s.heap.IsTuple a its.toArray from p1) (show s.heap.IsTuple c its2.toArray from p2) (by omega) (itemsAt I r1 r2 l l' hd hd' (by show X.A.units + 1 + n < cLine; omega)) ?_
      have e : ((List.range (min its.toArray.size its2.toArray.size)).all (fun _ => true) && its.toArray.size == its2.toArray.size) = true := by
        have : its.toArray.size = its2.toArray.size := by simp only [List.size_toArray]; omega
        rw [this]
        simp
      rw [e]
      exact ⟨.bl true, H, I, rfl, q⟩
  | @lst n _ vs ds qx l hd =>
    cases hy with
    | @lst _ _ ws _ qy l' hd' =>
      obtain ⟨its, r1, p1, _⟩ := I.list qx
      obtain ⟨its2, r2, p2, _⟩ := I.list qy
      have l1 := r1.length
      have l2 := r2.length
      refine SeqAt.eq_listAt (e := fun _ => true) p1.isList p2.isList (by simp only [List.size_toArray]; omega) (by omega) (itemsAt I r1 r2 l l' hd hd' (by show X.A.units + 1 + n < cLine; omega)) ?_
      have e : (List.range its.toArray.size).all (fun _ => true) = true := by simp
      rw [e]
      exact ⟨.bl true, H, I, rfl, q⟩
theorem op_neD (hu : X.A.units + 200 < cLine) : OpR X (compareOp .NotEq) (rEqD X.K false) := by
  intro pins s σ H x y v u Q I rx ry h
  obtain ⟨a, c, n, d, rfl, rfl, hn, hx, hy, q⟩ := h
  cases rx
  cases ry
  cases hx with
  | flat fx => cases fx
  | @tup n _ vs ds qx l hd =>
    cases hy with
    | @tup _ _ ws _ qy l' hd' =>
      obtain ⟨its, r1, p1, _⟩ := I.tuple qx
      obtain ⟨its2, r2, p2, _⟩ := I.tuple qy
      have l1 := r1.length
      have l2 := r2.length
      refine ne_tuplesAt (e := fun _ => true) (show s.heap.IsTuple a its.toArray from p1) (show s.heap.IsTuple c its2.toArray from p2) (by omega) (itemsAt I r1 r2 l l' hd hd' (by show X.A.units + 1 + n < cLine; omega)) ?_
      have e : (!((List.range (min its.toArray.size its2.toArray.size)).all (fun _ => true) && its.toArray.size == its2.toArray.size)) = false := by
        have : its.toArray.size = its2.toArray.size := by simp only [List.size_toArray]; omega
        rw [this]
        simp
      rw [e]
      exact ⟨.bl false, H, I, rfl, q⟩
  | @lst n _ vs ds qx l hd =>
    cases hy with
    | @lst _ _ ws _ qy l' hd' =>
      obtain ⟨its, r1, p1, _⟩ := I.list qx
      obtain ⟨its2, r2, p2, _⟩ := I.list qy
      have l1 := r1.length
      have l2 := r2.length
      refine ne_listsAt (e := fun _ => true) p1.isList p2.isList (by simp only [List.size_toArray]; omega) (by omega) (itemsAt I r1 r2 l l' hd hd' (by show X.A.units + 1 + n < cLine; omega)) ?_
      have e : (!(List.range its.toArray.size).all (fun _ => true)) = false := by simp
      rw [e]
      exact ⟨.bl false, H, I, rfl, q⟩
def rEqA (K : PySem.W.Frag) : R2 := fun x y H Q => rEq x y H Q ∨ rEqD K true x y H Q
def rNeA (K : PySem.W.Frag) : R2 := fun x y H Q => rNe x y H Q ∨ rEqD K false x y H Q
theorem op_eqA (hu : X.A.units + 200 < cLine) : OpR X (compareOp .Eq) (rEqA X.K) := op_eq.or (op_eqD hu)
theorem op_neA (hu : X.A.units + 200 < cLine) : OpR X (compareOp .NotEq) (rNeA X.K) := op_ne.or (op_neD hu)
theorem s_eq {K : PySem.W.Frag} {x y : V} {H : Hp} {Q : VK} (hs : scal x y = true) (h : Q (.bl (decide (x = y))) H) : rEqA K x y H Q := .inl ⟨hs, h⟩
theorem s_ne {K : PySem.W.Frag} {x y : V} {H : Hp} {Q : VK} (hs : scal x y = true) (h : Q (.bl (!decide (x = y))) H) : rNeA K x y H Q := .inl ⟨hs, h⟩
theorem s_eqD {K : PySem.W.Frag} {a c : Addr} {H : Hp} {Q : VK} {n : Nat} {d : Dt} (hn : n ≤ 190) (hx : IsD K H n (.ref a) d) (hy : IsD K H n (.ref c) d) (h : Q (.bl true) H) : rEqA K (.ref a) (.ref c) H Q := .inr ⟨a, c, n, d, rfl, rfl, hn, hx, hy, h⟩
theorem s_neD {K : PySem.W.Frag} {a c : Addr} {H : Hp} {Q : VK} {n : Nat} {d : Dt} (hn : n ≤ 190) (hx : IsD K H n (.ref a) d) (hy : IsD K H n (.ref c) d) (h : Q (.bl false) H) : rNeA K (.ref a) (.ref c) H Q := .inr ⟨a, c, n, d, rfl, rfl, hn, hx, hy, h⟩
theorem Room.u200 {k : Nat} {A : Around} (r : Room k A) : A.units + 200 < cLine := by have := r.un; omega
end
end L2

set_option Elab.async false
set_option linter.all false
set_option maxRecDepth 100000
set_option maxHeartbeats 4000000
namespace L2
open PySem PySem.Spec PyProof.Rows
section
variable {t u : TS} {c d : TT} {te ta tb tc : TE} {g : TG} {gs : TGs} {ts : TA} {D : Ends} {σ : St} {H : Hp} {Q : VK} {QB : Bool → Hp → Prop} {QA' : List V → Hp → Prop}
theorem s_seq (h : t { D with nx := u D } σ H) : tSeq t u D σ H := h
theorem s_asg (h : te σ H fun x H1 => g x σ H1 D.nx) : tAsg te g D σ H := h
theorem s_ret (h : te σ H D.rt) : tRet te D σ H := h
theorem s_drop (h : te σ H fun _ H1 => D.nx σ H1) : tDrop te D σ H := h
theorem s_next (h : D.nx σ H) : tNext D σ H := h
theorem s_ifS (h : c σ H fun b H1 => if b = true then t D σ H1 else u D σ H1) : tIfS c t u D σ H := h
theorem s_var {i : Nat} {v : V} (e : σ[i]? = some (some v)) (h : Q v H) : tVar i σ H Q := ⟨v, e, h⟩
theorem s_c {v : V} (h : Q v H) : tC v σ H Q := h
theorem s_op {r : R2} (h : ta σ H fun x H1 => tb σ H1 fun y H2 => r x y H2 Q) : tOp r ta tb σ H Q := h
theorem s_un {r : V → Hp → VK → Prop} (h : ta σ H fun x H1 => r x H1 Q) : tUn r ta σ H Q := h
theorem s_test (h : te σ H fun x H' => ∃ k, x = .bl k ∧ QB k H') : tTest te σ H QB := h
theorem s_tB (h : te σ H fun x H' => ∃ k, x = .bl k ∧ QB k H') : tB te σ H QB := h
theorem s_ex {b : Bool} {P : Bool → Prop} (h : P b) : ∃ k, V.bl b = V.bl k ∧ P k := ⟨b, rfl, h⟩
theorem s_exi {i : Int} {P : Int → Prop} (h : P i) : ∃ k, V.int i = V.int k ∧ P k := ⟨i, rfl, h⟩
theorem s_not (h : c σ H fun b H1 => QB (!b) H1) : tNot c σ H QB := h
theorem s_and (h : c σ H fun b H1 => if b = true then d σ H1 QB else QB false H1) : tAnd c d σ H QB := h
theorem s_or (h : c σ H fun b H1 => if b = true then QB true H1 else d σ H1 QB) : tOr c d σ H QB := h
theorem s_andV (h : ta σ H fun x H1 => ∃ k, x = .bl k ∧ if k = true then tb σ H1 Q else Q (.bl false) H1) : tAndV ta tb σ H Q := h
theorem s_orV (h : ta σ H fun x H1 => ∃ k, x = .bl k ∧ if k = true then Q (.bl true) H1 else tb σ H1 Q) : tOrV ta tb σ H Q := h
theorem s_notV (h : ta σ H fun x H1 => ∃ k, x = .bl k ∧ Q (.bl (!k)) H1) : tNotV ta σ H Q := h
theorem s_nil (h : QA' [] H) : tNil σ H QA' := h
theorem s_cons (h : te σ H fun x H1 => ts σ H1 fun xs H2 => QA' (x :: xs) H2) : tCons te ts σ H QA' := h
theorem s_vals {xs : List V} (h : QA' xs H) : tVals xs σ H QA' := h
theorem s_tup (h : ts σ H fun xs H1 => xs.length ≤ sizeLine ∧ ∀ p, H1 p = none → Q (.ref p) (upd H1 p (.tup xs))) : tTup ts σ H Q := h
theorem s_lst (h : ts σ H fun xs H1 => xs.length ≤ sizeLine ∧ ∀ p, H1 p = none → Q (.ref p) (upd H1 p (.lst xs))) : tLst ts σ H Q := h
theorem s_call {sp : Sp} {dvs : List V} {E : XK} (h : ts σ H fun vs H1 => sp (vs ++ dvs) H1 Q E) : tCall sp dvs E ts σ H Q := h
theorem s_cb {r : List V → Hp → VK → Prop} (h : ts σ H fun vs H1 => r vs H1 Q) : tCB r ts σ H Q := h
theorem s_bm {K : PySem.W.Frag} {T : String} {r : V → List V → Hp → VK → Prop} (h : te σ H fun x H1 => tyV K T x H1 ∧ ts σ H1 fun xs H2 => r x xs H2 Q) : tBM K T r te ts σ H Q := h
theorem s_bm0 {K : PySem.W.Frag} {T : String} {r : V → List V → Hp → VK → Prop} (h : te σ H fun x H1 => tyV K T x H1 ∧ r x [] H1 Q) : tBM0 K T r te σ H Q := h
theorem s_sl {r : V → Option Int → Option Int → Hp → VK → Prop} {tl th : TO} (h : te σ H fun x H1 => tl σ H1 fun l H2 => th σ H2 fun u H3 => r x l u H3 Q) : tSl r te tl th σ H Q := h
theorem s_po {QO' : Option Int → Hp → Prop} (h : te σ H fun x H1 => ∃ i, x = .int i ∧ QO' (some i) H1) : tPart te σ H QO' := h
theorem s_po0 {QO' : Option Int → Hp → Prop} (h : QO' none H) : tNoPart σ H QO' := h
theorem s_gname {i : Nat} {v : V} {QS' : St → Hp → Prop} (h : QS' (σ.set i (some v)) H) : gName i v σ H QS' := h
theorem s_gtup {K : PySem.W.Frag} {n : Nat} {a : Addr} {xs : List V} {QS' : St → Hp → Prop} (q : SqT K H a xs) (l : xs.length = n) (h : gs xs σ H QS') : gTup K n gs (.ref a) σ H QS' := ⟨a, xs, rfl, q, l, h⟩
theorem s_gcons {v : V} {r : List V} {QS' : St → Hp → Prop} (h : g v σ H fun σ' H' => gs r σ' H' QS') : gCons g gs (v :: r) σ H QS' := ⟨v, r, rfl, h⟩
theorem s_gnil {QS' : St → Hp → Prop} (h : QS' σ H) : gNil [] σ H QS' := ⟨rfl, h⟩
theorem s_gsub {to ti : TE} {tt : TSet} {v : V} {QS' : St → Hp → Prop} (h : to σ H fun o H1 => ti σ H1 fun i H2 => tt o i v H2 fun H3 => QS' σ H3) : gSub to ti tt v σ H QS' := h
theorem s_isN (h : ta σ H fun x H1 => Q (.bl (decide (x = .non))) H1) : tIsN ta σ H Q := h
theorem s_notN (h : ta σ H fun x H1 => Q (.bl (!decide (x = .non))) H1) : tNotN ta σ H Q := h
theorem s_dnew (h : ∀ p, H p = none → Q (.ref p) (upd H p (.dK []))) : tDNew σ H Q := h
theorem s_int_b {k : Bool} (h : Q (.int (if k = true then 1 else 0)) H) : (∃ i, ([V.bl k] : List V) = [.int i] ∧ Q (.int i) H) ∨ ∃ k', ([V.bl k] : List V) = [.bl k'] ∧ Q (.int (if k' = true then 1 else 0)) H := .inr ⟨k, rfl, h⟩
end
section
variable {wi : TI} {σ0 : St → St} {g : TG} {tt : TT} {te : TE} {ta : TA} {tb : TS} {D : Ends} {σ : St} {H : Hp} {Q : VK} {R : It → Hp → Prop} {K : PySem.W.Frag}
theorem s_comp (h : wi σ H fun J H1 => ∀ L, H1 L = none → CompW J g tt te (σ0 σ) H1 L Q) : tComp wi σ0 g tt te σ H Q := h
theorem s_for (h : wi σ H fun J H1 => ∃ W : Nat → Nat → St → Hp → Prop, (∃ m, W 0 m σ H1) ∧ ∀ i m σ H, W i m σ H →
  (J.stop i H ∧ D.nx σ H) ∨ (J.go i H ∧ ∃ N : St → Hp → Prop, (∀ σ' H', N σ' H' → ∃ m', m' < m ∧ W (i + 1) m' σ' H') ∧ ∀ x H', J.yld i H x H' → g x σ H' fun σ2 H2 => tb { D with nx := N, ct := N, bk := D.nx } σ2 H2)) : tFor wi g tb D σ H := h
theorem s_rng1 (h : ta σ H fun vs H1 => ∃ j : Int, vs = [.int j] ∧ -(2 ^ 62) ≤ j ∧ j < 2 ^ 62 ∧ R (Itr 0 j.toNat) H1) : iRng1 ta σ H R := h
theorem s_rng3 (h : ta σ H fun vs H1 => ∃ i j : Int, vs = [.int i, .int j, .int (-1)] ∧ (-(2 ^ 62) ≤ i ∧ i < 2 ^ 62 ∧ -(2 ^ 62) ≤ j ∧ j < 2 ^ 62) ∧ R (Itd i (i - j).toNat) H1) : iRng3 ta σ H R := h
theorem s_exr {i : Int} {P : Int → Prop} (h : P i) : ∃ j, ([V.int i] : List V) = [.int j] ∧ P j := ⟨i, rfl, h⟩
theorem s_exr3 {i j k : Int} {P : Int → Int → Prop} (hk : k = -1) (h : P i j) : ∃ a b, ([V.int i, V.int j, V.int k] : List V) = [.int a, .int b, .int (-1)] ∧ P a b := ⟨i, j, by rw [hk], h⟩
theorem s_iany (h : te σ H fun x H1 => (∃ a, x = .ref a ∧ (∃ xs, SqL K H1 a xs) ∧ R (Itl K a) H1) ∨ (∃ a, x = .ref a ∧ (∃ xs, SqT K H1 a xs) ∧ R (Itt K a) H1) ∨ ∃ z, x = .str z ∧ R (Its z) H1) : iAny K te σ H R := h
theorem s_irev (h : ta σ H fun vs H1 => ∃ a xs, vs = [.ref a] ∧ SqL K H1 a xs ∧ R (Itv K a xs.length) H1) : iRev K ta σ H R := h
theorem s_ienum (h : ta σ H fun vs H1 => ∃ a xs, vs = [.ref a] ∧ SqL K H1 a xs ∧ R (Ite K a xs.length) H1) : iEnum K ta σ H R := h
theorem s_listen (h : ta σ H fun vs H1 => ∃ a xs, vs = [.ref a] ∧ SqT K H1 a xs ∧ ∀ (S : Addr) (ys : List V) (H2 : Hp), H1 S = none → Same H1 H2 → ys.length = xs.length → Pairs H2 xs ys → H2 S = some (.lst ys) → Q (.ref S) H2) : tListEn K ta σ H Q := h
theorem s_yes {QB : Bool → Hp → Prop} (h : QB true H) : tYes σ H QB := h
/-- one turn of a comprehension -/
theorem s_turn {L : Addr} {Nx : List V → St → Hp → Prop} {x : V} (h : g x σ H fun σ2 H3 => tt σ2 H3 fun b H4 => if b = true then te σ2 H4 fun y H5 => ∃ ys, H5 L = some (.lst ys) ∧ ys.length < sizeLine ∧ (∃ zs, upd H5 L (.lst (ys ++ [y])) L = some (.lst zs) ∧ Nx zs σ2 (upd H5 L (.lst (ys ++ [y])))) else ∃ zs, H4 L = some (.lst zs) ∧ Nx zs σ2 H4) : CompT g tt te L Nx x σ H := h
theorem s_put {L : Addr} {Nx : List V → St → Hp → Prop} {ys : List V} {y : V} (e : H L = some (.lst ys)) (l : ys.length < sizeLine) (h : Nx (ys ++ [y]) σ (upd H L (.lst (ys ++ [y])))) : ∃ ys, H L = some (.lst ys) ∧ ys.length < sizeLine ∧ (∃ zs, upd H L (.lst (ys ++ [y])) L = some (.lst zs) ∧ Nx zs σ (upd H L (.lst (ys ++ [y])))) := ⟨ys, e, l, _, upd_same, h⟩
theorem s_app {l : Addr} {xs : List V} {y : V} (e : H l = some (.lst xs)) (z : xs.length < sizeLine) (h : Q .non (upd H l (.lst (xs ++ [y])))) : rAppend (.ref l) [y] H Q := ⟨l, xs, y, rfl, rfl, e, z, h⟩
theorem s_pop {l : Addr} {xs : List V} {y : V} (e : H l = some (.lst (xs ++ [y]))) (h : Q y (upd H l (.lst xs))) : rPop (.ref l) [] H Q := ⟨l, xs ++ [y], y, rfl, rfl, e, by simp, by simpa using h⟩
theorem s_clear {l : Addr} {xs : List V} (e : H l = some (.lst xs)) (h : Q .non (upd H l (.lst []))) : rClear (.ref l) [] H Q := ⟨l, xs, rfl, rfl, e, h⟩
theorem s_join {sep : Str} {p : Addr} {ys : List Str} (hq : SqL K H p (ys.map V.str)) (hz : (ys.map (·.length)).sum + ys.length * sep.length ≤ 16777216) (h : Q (.str (Txt.join sep ys)) H) : rJoin K (.str sep) [.ref p] H Q := ⟨sep, p, ys, rfl, rfl, hq, hz, h⟩
theorem s_setL {p : Addr} {xs : List V} {k : Int} {j : Nat} {v : V} {QH : Hp → Prop} (e : H p = some (.lst xs)) (hj : ixN xs.length k = some j) (h : QH (upd H p (.lst (xs.set j v)))) : rSetL (.ref p) (.int k) v H QH := ⟨p, xs, k, j, rfl, rfl, e, hj, h⟩
end
end L2

set_option Elab.async false
set_option linter.all false
set_option maxRecDepth 100000
set_option maxHeartbeats 4000000
namespace L2
open PySem PySem.Spec PyProof.Rows
/-! ### the rules that look into the module's objects, K named -/
section
variable {X : Cx} (K : PySem.W.Frag)
theorem k_add (hK : X.K = K := by rfl) : OpR X (binaryOp .Add) (rAddA K) := by subst hK; exact op_addA
theorem k_eq (hu : X.A.units + 200 < cLine) (hK : X.K = K := by rfl) : OpR X (compareOp .Eq) (rEqA K) := by subst hK; exact op_eqA hu
theorem k_ne (hu : X.A.units + 200 < cLine) (hK : X.K = K := by rfl) : OpR X (compareOp .NotEq) (rNeA K) := by subst hK; exact op_neA hu
theorem k_in (hK : X.K = K := by rfl) : OpR X (compareOp .In) (rInA K false) := by subst hK; exact op_inA
theorem k_notin (hK : X.K = K := by rfl) : OpR X (compareOp .NotIn) (rInA K true) := by subst hK; exact op_notinA
theorem k_ix (hK : X.K = K := by rfl) : IxR X (rIx K) := by subst hK; exact ix_seq
theorem k_sl (hK : X.K = K := by rfl) : SlR X (rSlA K) := by subst hK; exact sl_any
theorem k_len (hK : X.K = K := by rfl) : CallR X (.builtin "len") (rLen K) := by subst hK; exact call_lenA
theorem k_join (hK : X.K = K := by rfl) : MtR X "str.join" (rJoin K) := by subst hK; exact mt_join
/-- a thing's type, seen from what stands there -/
inductive TyQ (K : PySem.W.Frag) (H : Hp) : V → Value → Prop where
  | ty {x : V} {t : Value} (h : TyOf K H x t) : TyQ K H x t
  | tup {a : Addr} {xs : List V} (q : SqT K H a xs) : TyQ K H (.ref a) (.type "tuple")
  | lst {a : Addr} {xs : List V} (q : SqL K H a xs) : TyQ K H (.ref a) (.type "list")
def rIsi (K : PySem.W.Frag) (T : String) : List V → Hp → VK → Prop := fun xs H Q => ∃ x t b, xs = [x, .ty T] ∧ TyQ K H x t ∧ PySem.W.kitOne K t (.type T) = some b ∧ Q (.bl b) H
theorem call_isiQ {T : String} : CallR X (.builtin "isinstance") (rIsi X.K T) := by
  intro pins s σ H xs us Q I r h
  obtain ⟨x, t, b, rfl, ty, e, q⟩ := h
  obtain ⟨u, v, rfl, ru, rv⟩ := r.two
  obtain rfl : v = Value.type T := rv
  cases ty with
  | ty ty => exact isinst_ok I ru ty e fun tk => ⟨.bl b, H, I.tok tk, rfl, q⟩
  | tup hq =>
    cases ru
    obtain ⟨its, _, p, _⟩ := I.tuple hq
    obtain ⟨o, h1, h2, _⟩ := p
    exact PySem.W.kia_one PySem.W.kitx_tuple I.kIn ⟨o, h1, h2⟩ e (fun z => nomatch z) fun tk => ⟨.bl b, H, I.tok tk, rfl, q⟩
  | lst hq =>
    cases ru
    obtain ⟨its, _, p, _⟩ := I.list hq
    obtain ⟨o, n, h1, h2, _⟩ := p
    exact PySem.W.kia_one PySem.W.kitx_list I.kIn ⟨o, h1, h2⟩ e (fun z => nomatch z) fun tk => ⟨.bl b, H, I.tok tk, rfl, q⟩
theorem k_isi (T : String) (hK : X.K = K := by rfl) : CallR X (.builtin "isinstance") (rIsi K T) := by subst hK; exact call_isiQ
def rAll (K : PySem.W.Frag) : List V → Hp → VK → Prop := fun xs H Q => ∃ (p : Addr) (bs : List Bool), xs = [.ref p] ∧ SqL K H p (bs.map V.bl) ∧ Q (.bl (bs.all id)) H
theorem k_all (hc : X.calm = true) (hK : X.K = K := by rfl) : CallR X (.builtin "all") (rAll K) := by subst hK; exact call_all hc
def rListOf (K : PySem.W.Frag) : List V → Hp → VK → Prop := fun xs H Q => ∃ p ys, xs = [.ref p] ∧ (SqL K H p ys ∨ SqT K H p ys) ∧ ∀ l, H l = none → Q (.ref l) (upd H l (.lst ys))
theorem k_list (hK : X.K = K := by rfl) : CallR X (.type "list") (rListOf K) := by subst hK; exact call_list_of
def rTupOf (K : PySem.W.Frag) : List V → Hp → VK → Prop := fun xs H Q => ∃ p ys, xs = [.ref p] ∧ ((SqL K H p ys ∧ ∀ l, H l = none → Q (.ref l) (upd H l (.tup ys))) ∨ (SqT K H p ys ∧ Q (.ref p) H))
theorem k_tuple (hK : X.K = K := by rfl) : CallR X (.type "tuple") (rTupOf K) := by subst hK; exact call_tuple_of
def rInt : List V → Hp → VK → Prop := fun xs H Q => (∃ i, xs = [.int i] ∧ Q (.int i) H) ∨ ∃ k, xs = [.bl k] ∧ Q (.int (if k then 1 else 0)) H
theorem k_int : CallR X (.type "int") rInt := call_int1
theorem s_intb {k : Bool} {H : Hp} {Q : VK} (h : Q (.int (if k = true then 1 else 0)) H) : rInt [.bl k] H Q := .inr ⟨k, rfl, h⟩
theorem qi_anyK {tg l : Expr} {tl : TE} (hl : QE X l tl) (hK : X.K = K := by rfl) : QI X tg l (iAny K tl) := by subst hK; exact qi_any hl
theorem qi_revK {tg a : Expr} {ta : TA} {p pos : Pos} (hg : Gl X "reversed") (hm : X.mg "reversed" = none) (ha : QA X [a] ta) (hK : X.K = K := by rfl) (hs : starEach [a] X.env = [(false, eval a X.env)] := by rfl) : QI X tg (.Call (.Name "reversed" p) [a] [] pos) (iRev K ta) := by subst hK; exact qi_rev hg hm ha hs
theorem qi_enumK {elts : List Expr} {kt : Nat} {pt : Pos} {e : Expr} {ta : TA} {p pos : Pos} (hg : Gl X "enumerate") (hm : X.mg "enumerate" = none) (ha : QA X [e] ta) (hK : X.K = K := by rfl) (hs : starEach [e] X.env = [(false, eval e X.env)] := by rfl) : QI X (.Tuple elts kt pt) (.Call (.Name "enumerate" p) [e] [] pos) (iEnum K ta) := by subst hK; exact qi_enum hg hm ha hs
theorem qe_list_enumerateK {e : Expr} {ta : TA} {p p2 pos pos2 : Pos} (hg : Gl X "list") (hm : X.mg "list" = none) (hg2 : Gl X "enumerate") (hm2 : X.mg "enumerate" = none) (ha : QA X [e] ta) (hK : X.K = K := by rfl) (hc : X.calm = true := by rfl)
    (hs : starEach [.Call (.Name "enumerate" p2) [e] [] pos2] X.env = [(false, eval (.Call (.Name "enumerate" p2) [e] [] pos2) X.env)] := by rfl) (hs2 : starEach [e] X.env = [(false, eval e X.env)] := by rfl) :
    QE X (.Call (.Name "list" p) [.Call (.Name "enumerate" p2) [e] [] pos2] [] pos) (tListEn K ta) := by subst hK; exact qe_list_enumerate hg hm hg2 hm2 ha hc hs hs2
theorem qg_tupK {es : List Expr} {k : Nat} {pos : Pos} {t : TGs} {n : Nat} (hc : X.calm = true) (h : QGs X es t) (hK : X.K = K := by rfl) (hn : (assignEach es X.env).length = n := by rfl) (hst : (assignEach es X.env).findIdx? (·.1) = none := by rfl) : QG X (.Tuple es k pos) (gTup K n t) := by subst hK; exact qg_tup hc h hn hst
def tTruth (K : PySem.W.Frag) (ta : TE) : TT := fun σ H Q => ta σ H fun x H' => ∃ k, TruV K x H' k ∧ Q k H'
theorem qt_truthK {a : Expr} {ta : TE} (ha : QE X a ta) (he : ∀ whole, isTrue a X.env whole = (do let v ← whole; standAt a.pos; holding [v] (truthy v))) (hK : X.K = K := by rfl) : QT X a (tTruth K ta) := by subst hK; exact ⟨pt_truth ha.run he⟩
theorem qe_bmK {o e : Expr} {es : List Expr} {to : TE} {t : TA} {name : Str} {apos cpos : Pos} {T id : String} {r : V → List V → Hp → VK → Prop} (pa : PlainAttrs T) (slot : Slot T name id) (hty : typeOf (.builtin id) = pure (.type "method_descriptor")) (hm : MtR X id r) (ho : QE X o to) (ha : QA X (e :: es) t) (hK : X.K = K := by rfl)
    (hbase : attributeBase o name X.env (eval o X.env) = eval o X.env := by rfl) (hfew : ((backTo cpos (starEach (e :: es) X.env)).all (fun x => !x.1) && (backToKw cpos (keywordEach [] X.env)).all (fun x => x.1.isSome)
      && decide ((e :: es).length + ([] : List Keyword).length + (if ([] : List Keyword).isEmpty then 0 else 1) < 30)) = true := by rfl) (hline : (apos.endLine == cpos.line) = true := by rfl) (hs : starEach (e :: es) X.env = (false, eval e X.env) :: starEach es X.env := by rfl) (hplain : (backTo cpos (starEach es X.env)).any (·.1) = false := by rfl) : QE X (.Call (.Attribute o name apos) (e :: es) [] cpos) (tBM K T r to t) := by subst hK; exact qe_bm pa slot hty hm ho ha hbase hfew hline hs hplain
theorem qe_bm0K {o : Expr} {to : TE} {name : Str} {apos cpos : Pos} {T id : String} {r : V → List V → Hp → VK → Prop} (pa : PlainAttrs T) (slot : Slot T name id) (hty : typeOf (.builtin id) = pure (.type "method_descriptor")) (hm : MtR X id r) (ho : QE X o to) (hK : X.K = K := by rfl) (hbase : attributeBase o name X.env (eval o X.env) = eval o X.env := by rfl) (hline : (apos.endLine == cpos.line) = true := by rfl) : QE X (.Call (.Attribute o name apos) [] [] cpos) (tBM0 K T r to) := by subst hK; exact qe_bm0 pa slot hty hm ho hbase hline
end
section
variable {K : PySem.W.Frag} {σ : St} {H : Hp} {Q : VK} {QB : Bool → Hp → Prop} {ta : TE}
theorem s_truth (h : ta σ H fun x H' => ∃ k, TruV K x H' k ∧ QB k H') : tTruth K ta σ H QB := h
theorem s_tru_lst {a : Addr} {xs : List V} {P : Bool → Prop} (q : SqL K H a xs) (h : P (!xs.isEmpty)) : ∃ k, TruV K (.ref a) H k ∧ P k := ⟨_, .inl ⟨xs, q, rfl⟩, h⟩
theorem s_isi {T : String} {x : V} {t : Value} {b : Bool} (ty : TyOf K H x t) (e : PySem.W.kitOne K t (.type T) = some b) (h : Q (.bl b) H) : rIsi K T [x, .ty T] H Q := ⟨x, t, b, rfl, .ty ty, e, h⟩
theorem s_isiT {T : String} {a : Addr} {xs : List V} {b : Bool} (q : SqT K H a xs) (e : PySem.W.kitOne K (.type "tuple") (.type T) = some b) (h : Q (.bl b) H) : rIsi K T [.ref a, .ty T] H Q := ⟨_, _, b, rfl, .tup q, e, h⟩
theorem s_isiL {T : String} {a : Addr} {xs : List V} {b : Bool} (q : SqL K H a xs) (e : PySem.W.kitOne K (.type "list") (.type T) = some b) (h : Q (.bl b) H) : rIsi K T [.ref a, .ty T] H Q := ⟨_, _, b, rfl, .lst q, e, h⟩
theorem kit_int_bool {K : PySem.W.Frag} : PySem.W.kitOne K (.type "int") (.type "bool") = some false := kit_of (l := (fastBuiltinMro "int").get (by decide +kernel)) (by decide +kernel) (by decide) (by simp) (by decide +kernel)
theorem kit_bool_int {K : PySem.W.Frag} : PySem.W.kitOne K (.type "bool") (.type "int") = some true := kit_of (l := (fastBuiltinMro "bool").get (by decide +kernel)) (by decide +kernel) (by decide) (by simp) (by decide +kernel)
theorem s_tupL {p : Addr} {ys : List V} (q : SqL K H p ys) (h : ∀ l, H l = none → Q (.ref l) (upd H l (.tup ys))) : rTupOf K [.ref p] H Q := ⟨p, ys, rfl, .inl ⟨q, h⟩⟩
theorem s_tyL {a : Addr} {xs : List V} {P : Prop} (q : SqL K H a xs) (h : P) : tyV K "list" (.ref a) H ∧ P := ⟨.inl ⟨rfl, _, q⟩, h⟩
end
theorem s_nt {A B : Prop} (h : B) : if (!true) = true then A else B := by simpa using h
theorem s_nf {A B : Prop} (h : A) : if (!false) = true then A else B := by simpa using h
end L2

set_option Elab.async false
set_option linter.all false
set_option maxRecDepth 100000
set_option maxHeartbeats 4000000
namespace L2
open PySem
/-! ### trees: (word, note, parts) -/
inductive Tr where
  | mk (wd : Str) (note : Dt) (ps : List Tr)
def Tr.wd : Tr → Str
  | .mk w _ _ => w
def Tr.ps : Tr → List Tr
  | .mk _ _ ps => ps
mutual
def Tr.size : Tr → Nat
  | .mk _ _ ps => 1 + sizes ps
def sizes : List Tr → Nat
  | [] => 0
  | t :: r => t.size + sizes r
end
theorem Tr.size_eq (t : Tr) : t.size = 1 + sizes t.ps := by
  cases t with
  | mk w n ps => rw [Tr.size]; rfl
theorem sizes_append (a b : List Tr) : sizes (a ++ b) = sizes a + sizes b := by
  induction a with
  | nil => simp [sizes]
  | cons t r ih => rw [List.cons_append, sizes, sizes, ih]; omega
theorem sizes_get {ts : List Tr} {j : Nat} {t : Tr} (h : ts[j]? = some t) : t.size ≤ sizes ts := by
  induction ts generalizing j with
  | nil => simp at h
  | cons x r ih =>
    rw [sizes]
    cases j with
    | zero => simp at h; subst h; omega
    | succ j => have := ih (j := j) (by simpa using h); omega
theorem sizes_len (ts : List Tr) : ts.length ≤ sizes ts := by
  induction ts with
  | nil => simp [sizes]
  | cons t r ih =>
    have := t.size_eq
    rw [sizes, List.length_cons]
    omega
/-- tuples stay (lists may change) -/
def SameT (H H' : Hp) : Prop := ∀ b, (∀ xs, H b = some (.tup xs) → H' b = some (.tup xs)) ∧ ∀ o u, H b = some (.frz o u) → H' b = some (.frz o u)
theorem Same.t {H H' : Hp} (e : Same H H') : SameT H H' := fun b => ⟨fun xs h => e b _ h, fun o u h => e b _ h⟩
theorem SameT.refl (H : Hp) : SameT H H := fun _ => ⟨fun _ h => h, fun _ _ h => h⟩
theorem SameT.trans {H H1 H2 : Hp} (a : SameT H H1) (b : SameT H1 H2) : SameT H H2 := fun c => ⟨fun xs h => (b c).1 xs ((a c).1 xs h), fun o u h => (b c).2 o u ((a c).2 o u h)⟩
theorem SameT.set {H : Hp} {S : Addr} {zs : List V} {o : HO} (h : H S = some (.lst zs)) : SameT H (upd H S o) := fun b =>
  ⟨fun xs e => by rw [upd_ne (ne_of e h (by intro z; cases z))]; exact e, fun o' u e => by rw [upd_ne (ne_of e h (by intro z; cases z))]; exact e⟩
theorem SameT.new {H : Hp} {S : Addr} {o : HO} (h : H S = none) : SameT H (upd H S o) := (Same.upd h).t
theorem SameT.tup {K : PySem.W.Frag} {H H' : Hp} {a : Addr} {xs : List V} (e : SameT H H') (h : SqT K H a xs) : SqT K H' a xs := by
  rcases h with (h | ⟨o, h⟩) | h
  · exact .inl (.inl ((e a).1 _ h))
  · exact .inl (.inr ⟨o, (e a).2 _ _ h⟩)
  · exact .inr h
/-- a note: flat, or a tuple of flat things -/
def IsN (K : PySem.W.Frag) (H : Hp) (v : V) (n : Dt) : Prop := (flatV v = true ∧ n = .flat v) ∨ ∃ (a : Addr) (vs : List V), v = .ref a ∧ SqT K H a vs ∧ vs.all flatV = true ∧ n = .tup (vs.map .flat)
theorem IsN.same {K : PySem.W.Frag} {H H' : Hp} {v : V} {n : Dt} (h : IsN K H v n) (e : SameT H H') : IsN K H' v n := by
  rcases h with h | ⟨a, vs, h1, h2, h3⟩
  · exact .inl h
  · exact .inr ⟨a, vs, h1, e.tup h2, h3⟩
theorem IsN.d {K : PySem.W.Frag} {H : Hp} {v : V} {n : Dt} (h : IsN K H v n) : IsD K H 1 v n := by
  rcases h with ⟨h, rfl⟩ | ⟨a, vs, rfl, h2, h3, rfl⟩
  · exact .flat h
  · refine .tup h2 (by simp) fun j v d e1 e2 => ?_
    rw [List.getElem?_map, e1] at e2
    cases e2
    exact .flat (List.all_eq_true.mp h3 v (List.mem_of_getElem? e1))
/-- v stands for the tree t -/
inductive TrAt (K : PySem.W.Frag) (H : Hp) : V → Tr → Prop where
  | mk {a p : Addr} {wd : Str} {nv : V} {n : Dt} {vs : List V} {ts : List Tr} (q : SqT K H a [.str wd, nv, .ref p]) (hn : IsN K H nv n) (qp : SqT K H p vs) (l : vs.length = ts.length)
      (h : ∀ (j : Nat) (v : V) (t : Tr), vs[j]? = some v → ts[j]? = some t → TrAt K H v t) : TrAt K H (.ref a) (.mk wd n ts)
theorem TrAt.sameT {K : PySem.W.Frag} {H H' : Hp} {v : V} {t : Tr} (h : TrAt K H v t) (e : SameT H H') : TrAt K H' v t := by
  induction h with
  | mk q hn qp l _ ih => exact .mk (e.tup q) (hn.same e) (e.tup qp) l ih
theorem TrAt.same {K : PySem.W.Frag} {H H' : Hp} {v : V} {t : Tr} (h : TrAt K H v t) (e : Same H H') : TrAt K H' v t := h.sameT e.t
/-- item by item -/
def Al {α : Type} (R : V → α → Prop) (vs : List V) (xs : List α) : Prop := vs.length = xs.length ∧ ∀ (j : Nat) (v : V) (x : α), vs[j]? = some v → xs[j]? = some x → R v x
section
variable {α : Type} {R R' : V → α → Prop} {vs : List V} {xs : List α} {v : V} {x : α}
theorem Al.mono (h : Al R vs xs) (f : ∀ v x, R v x → R' v x) : Al R' vs xs := ⟨h.1, fun j v x a b => f v x (h.2 j v x a b)⟩
theorem Al.nil : Al R [] [] := ⟨rfl, fun j v x a _ => by simp at a⟩
theorem Al.snoc (h : Al R vs xs) (a : R v x) : Al R (vs ++ [v]) (xs ++ [x]) := by
  refine ⟨by simp [h.1], fun j y z e1 e2 => ?_⟩
  by_cases hj : j < vs.length
  · rw [List.getElem?_append_left hj] at e1
    rw [List.getElem?_append_left (by have := h.1; omega)] at e2
    exact h.2 j y z e1 e2
  · have hl := (List.getElem?_eq_some_iff.mp e1).1
    rw [List.length_append, List.length_singleton] at hl
    have hj' : j = vs.length := by omega
    subst hj'
    rw [List.getElem?_append_right (Nat.le_refl _), Nat.sub_self] at e1
    rw [h.1, List.getElem?_append_right (Nat.le_refl _), Nat.sub_self] at e2
    have e1 : v = y := by simpa using e1
    have e2 : x = z := by simpa using e2
    rw [← e1, ← e2]
    exact a
theorem Al.split (h : Al R (vs ++ [v]) xs) : ∃ ys x, xs = ys ++ [x] ∧ Al R vs ys ∧ R v x := by
  have hl : xs.length = vs.length + 1 := by have := h.1; simp at this; omega
  have hne : xs ≠ [] := fun z => by rw [z] at hl; simp at hl
  refine ⟨xs.dropLast, xs.getLast hne, (List.dropLast_concat_getLast hne).symm, ⟨by simp [hl], fun j y z e1 e2 => ?_⟩, ?_⟩
  · have hj := (List.getElem?_eq_some_iff.mp e1).1
    refine h.2 j y z (by rw [List.getElem?_append_left hj]; exact e1) ?_
    rw [List.getElem?_dropLast] at e2
    split at e2
    · exact e2
    · cases e2
  · refine h.2 vs.length v _ (by simp) ?_
    rw [List.getLast_eq_getElem, List.getElem?_eq_getElem (by omega)]
    congr 1
    simp [hl]
theorem Al.last (h : Al R vs xs) (hn : vs ≠ []) : ∃ vs' v xs' x, vs = vs' ++ [v] ∧ xs = xs' ++ [x] ∧ Al R vs' xs' ∧ R v x := by
  have e := (List.dropLast_concat_getLast hn).symm
  rw [e] at h
  obtain ⟨ys, x, e2, a, r⟩ := h.split
  exact ⟨_, _, ys, x, e, e2, a, r⟩
theorem Al.get {j : Nat} (h : Al R vs xs) (e : vs[j]? = some v) : ∃ x, xs[j]? = some x ∧ R v x := by
  have hj := (List.getElem?_eq_some_iff.mp e).1
  have hx : j < xs.length := by have := h.1; omega
  exact ⟨xs[j], List.getElem?_eq_getElem hx, h.2 j v _ e (List.getElem?_eq_getElem hx)⟩
theorem Al.get' {j : Nat} (h : Al R vs xs) (e : xs[j]? = some x) : ∃ v, vs[j]? = some v ∧ R v x := by
  have hj := (List.getElem?_eq_some_iff.mp e).1
  have hv : j < vs.length := by have := h.1; omega
  exact ⟨vs[j], List.getElem?_eq_getElem hv, h.2 j _ x (List.getElem?_eq_getElem hv) e⟩
end
/-- the gap -/
def gapT : Tr := .mk "gap" (.flat .non) []
theorem TrAt.gap {K : PySem.W.Frag} {H : Hp} {a p : Addr} (q : SqT K H a [.str "gap", .non, .ref p]) (qp : SqT K H p []) : TrAt K H (.ref a) gapT := .mk q (.inl ⟨rfl, rfl⟩) qp rfl fun j v t e _ => by simp at e
theorem gapT_size : gapT.size = 1 := by unfold gapT; rw [Tr.size, sizes]
/-! ### the places of a tree -/
mutual
def walk : List Nat → Tr → List (List Nat × Tr)
  | pl, .mk w n ps => (pl, .mk w n ps) :: walks pl 0 ps
def walks : List Nat → Nat → List Tr → List (List Nat × Tr)
  | _, _, [] => []
  | pl, i, t :: r => walk (pl ++ [i]) t ++ walks pl (i + 1) r
end
theorem walk_eq (pl : List Nat) (t : Tr) : walk pl t = (pl, t) :: walks pl 0 t.ps := by
  cases t with
  | mk w n ps => rw [walk]; rfl
mutual
theorem walk_len : ∀ (pl : List Nat) (t : Tr), (walk pl t).length = t.size
  | pl, .mk w n ps => by rw [walk, Tr.size, List.length_cons, walks_len pl 0 ps]; omega
theorem walks_len : ∀ (pl : List Nat) (i : Nat) (ts : List Tr), (walks pl i ts).length = sizes ts
  | _, _, [] => by rw [walks, sizes]; rfl
  | pl, i, t :: r => by rw [walks, sizes, List.length_append, walk_len, walks_len]
end
mutual
theorem walk_depth : ∀ (pl : List Nat) (t : Tr) (x : List Nat × Tr), x ∈ walk pl t → x.1.length + 1 ≤ pl.length + t.size
  | pl, .mk w n ps, x, h => by
    rw [walk] at h
    rw [Tr.size]
    rcases List.mem_cons.mp h with h | h
    · subst h; show pl.length + 1 ≤ _; omega
    · have := walks_depth pl 0 ps x h; omega
theorem walks_depth : ∀ (pl : List Nat) (i : Nat) (ts : List Tr) (x : List Nat × Tr), x ∈ walks pl i ts → x.1.length ≤ pl.length + sizes ts
  | _, _, [], x, h => by rw [walks] at h; cases h
  | pl, i, t :: r, x, h => by
    rw [walks] at h
    rw [sizes]
    rcases List.mem_append.mp h with h | h
    · have := walk_depth (pl ++ [i]) t x h
      rw [List.length_append, List.length_singleton] at this
      omega
    · have := walks_depth pl (i + 1) r x h; omega
end
/-! ### rows (place, form), the stack of what is still to be walked -/
def plV (pl : List Nat) : List V := pl.map fun i => V.int ((i : Nat) : Int)
def RowAt (K : PySem.W.Frag) (H : Hp) (v : V) (x : List Nat × Tr) : Prop := ∃ (a p : Addr) (u : V), v = .ref a ∧ SqT K H a [.ref p, u] ∧ SqT K H p (plV x.1) ∧ TrAt K H u x.2
theorem RowAt.same {K : PySem.W.Frag} {H H' : Hp} (e : SameT H H') (v : V) (x : List Nat × Tr) (h : RowAt K H v x) : RowAt K H' v x := by
  obtain ⟨a, p, u, r, q, qp, t⟩ := h
  exact ⟨a, p, u, r, e.tup q, e.tup qp, t.sameT e⟩
def kids : List Nat → Nat → List Tr → List (List Nat × Tr)
  | _, _, [] => []
  | pl, i, t :: r => (pl ++ [i], t) :: kids pl (i + 1) r
theorem kids_len (pl : List Nat) : ∀ (i : Nat) (ts : List Tr), (kids pl i ts).length = ts.length
  | _, [] => rfl
  | i, t :: r => by rw [kids, List.length_cons, List.length_cons, kids_len pl (i + 1) r]
theorem kids_get (pl : List Nat) : ∀ (i j : Nat) (ts : List Tr), (kids pl i ts)[j]? = (ts[j]?).map fun t => (pl ++ [i + j], t)
  | _, _, [] => by simp [kids]
  | i, 0, t :: r => by simp [kids]
  | i, j + 1, t :: r => by
    rw [kids, List.getElem?_cons_succ, List.getElem?_cons_succ, kids_get pl (i + 1) j r]
    congr 1
    funext t
    rw [show i + 1 + j = i + (j + 1) by omega]
theorem kids_walks (pl : List Nat) : ∀ (i : Nat) (ts : List Tr), (kids pl i ts).flatMap (fun x => walk x.1 x.2) = walks pl i ts
  | _, [] => by simp [kids, walks]
  | i, t :: r => by rw [kids, List.flatMap_cons, walks, kids_walks pl (i + 1) r]
/-- what a stack comes to -/
def todo (st : List (List Nat × Tr)) : List (List Nat × Tr) := st.reverse.flatMap fun x => walk x.1 x.2
theorem todo_nil : todo [] = [] := rfl
theorem todo_pop (st : List (List Nat × Tr)) (x : List Nat × Tr) : todo (st ++ [x]) = x :: todo (st ++ (kids x.1 0 x.2.ps).reverse) := by
  unfold todo
  rw [List.reverse_append, List.reverse_append, List.reverse_reverse, List.flatMap_append, List.flatMap_append, kids_walks]
  rw [List.reverse_singleton, List.flatMap_singleton, walk_eq]
  rfl
/-- the forms in a stack -/
def load (st : List (List Nat × Tr)) : Nat := (todo st).length
theorem load_pop (st : List (List Nat × Tr)) (x : List Nat × Tr) : load (st ++ (kids x.1 0 x.2.ps).reverse) < load (st ++ [x]) := by
  unfold load
  rw [todo_pop]
  exact Nat.lt_succ_self _
theorem load_len (st : List (List Nat × Tr)) : st.length ≤ load st := by
  unfold load todo
  have : ∀ l : List (List Nat × Tr), l.length ≤ (l.flatMap fun x => walk x.1 x.2).length := fun l => by
    induction l with
    | nil => simp
    | cons x r ih =>
      rw [List.flatMap_cons, List.length_append, walk_len, List.length_cons]
      have := x.2.size_eq
      omega
  have := this st.reverse
  rw [List.length_reverse] at this
  exact this
theorem drop_step {α : Type} {l : List α} {n i : Nat} {x : α} (hl : l.length = n) (hi : i < n) (hx : l[n - 1 - i]? = some x) : (l.drop (n - (i + 1))).reverse = (l.drop (n - i)).reverse ++ [x] := by
  have hk : n - 1 - i < l.length := by omega
  have e : l.drop (n - (i + 1)) = x :: l.drop (n - i) := by
    have h1 : n - (i + 1) = n - 1 - i := by omega
    rw [h1, List.drop_eq_getElem_cons hk, show n - 1 - i + 1 = n - i by omega]
    rw [List.getElem?_eq_getElem hk] at hx
    rw [Option.some.inj hx]
  rw [e, List.reverse_cons]
mutual
theorem walk_at_pl : ∀ (pl : List Nat) (t : Tr), walk pl t = (walk [] t).map fun x => (pl ++ x.1, x.2)
  | pl, .mk w n ps => by
    have e := walks_at_pl pl [] 0 ps
    rw [List.append_nil] at e
    rw [walk, walk, List.map_cons, e]
    simp
theorem walks_at_pl : ∀ (pl q : List Nat) (i : Nat) (ts : List Tr), walks (pl ++ q) i ts = (walks q i ts).map fun x => (pl ++ x.1, x.2)
  | _, _, _, [] => by rw [walks, walks]; rfl
  | pl, q, i, t :: r => by
    rw [walks, walks, List.map_append, ← walks_at_pl pl q (i + 1) r, walk_at_pl (pl ++ q ++ [i]) t, walk_at_pl (q ++ [i]) t]
    simp
end
theorem Al.append {α : Type} {R : V → α → Prop} {vs ws : List V} {xs ys : List α} (h : Al R vs xs) (h' : Al R ws ys) : Al R (vs ++ ws) (xs ++ ys) := by
  refine ⟨by simp [h.1, h'.1], fun j v x e1 e2 => ?_⟩
  by_cases hj : j < vs.length
  · rw [List.getElem?_append_left hj] at e1
    rw [List.getElem?_append_left (by have := h.1; omega)] at e2
    exact h.2 j v x e1 e2
  · rw [List.getElem?_append_right (by omega)] at e1
    rw [List.getElem?_append_right (by have := h.1; omega), ← h.1] at e2
    exact h'.2 _ v x e1 e2
end L2

set_option Elab.async false
set_option linter.all false
set_option maxRecDepth 100000
set_option maxHeartbeats 4000000
namespace L2
open PySem PySem.Spec PyProof.Rows
/-! ### xs.extend(tuple) -/
section
open PySem.AutoSeq1
theorem meets_extend_tup (l : Addr) (items : Array Value) (n : Nat) (b : Addr) (items2 : Array Value) (n2 : Nat) (od : Option Addr) (sl : Array (Option Value)) (hs0 : ¬(!items.isEmpty && Builtin.List.listTooLong (items.size + items2.size)) = true) (hs1 : items.size ≤ sizeLine) (hs2 : items.size + items2.size ≤ sizeLine + 1) :
    Meets (Builtin.«list.extend» ⟨[.ref l, .ref b], []⟩) (fun _ R s => s.heap.get? l = some { cls := .type "list", dict := none, data := .seq items n, slots := #[] } ∧ s.heap.get? b = some { cls := .type "tuple", dict := od, data := .seq items2 n2, slots := sl } ∧ R (.ok (.ret Value.none)) { s with heap := s.heap.update l (Obj.mapSeq fun x => x ++ items2), toks := s.toks }) :=
  .of_wp fun prog w A R s h => by
    obtain ⟨hp, g, d, tk, os⟩ := s; obtain ⟨hl, hb, h⟩ := h; have f1 := AutoSeq1.idx_int; have f2 := AutoSeq1.sub_tuple_tuple; have f3 := AutoSeq1.sub_list_list; have f4 := AutoSeq1.sub_tuple_list; have f5 := AutoSeq1.sub_list_tuple;
    have hz' : (items ++ items2).size ≤ sizeLine + 1 := by rw [Array.size_append]; exact hs2
    wp_walk using (wpAny_updateSeq hl rfl (hz := hs1) (_hz' := hz')), AutoSeq1.wpAny_loadPart' hl, AutoSeq1.wpAny_loadPart' hb; exact ⟨_, rfl, h⟩
end
def rExtT (K : PySem.W.Frag) : V → List V → Hp → VK → Prop := fun x vs H Q => ∃ l b xs zs, x = .ref l ∧ vs = [.ref b] ∧ H l = some (.lst xs) ∧ SqT K H b zs ∧ xs.length + zs.length ≤ sizeLine ∧ Q .non (upd H l (.lst (xs ++ zs)))
section
variable {X : Cx}
theorem mt_extT : MtM X "list.extend" (rExtT X.K) := by
  intro pins s σ H x vs v us Q I rx rv h
  obtain ⟨l, b, xs, zs, rfl, rfl, hH, hB, hz, q⟩ := h
  cases rx
  obtain ⟨u, rfl, ru⟩ := rv.one
  cases ru
  obtain ⟨z, its, n, r, hl, e⟩ := I.lstM hH
  obtain ⟨its2, r2, ⟨o2, e2, hc2, n2, hd2⟩, hz2⟩ := I.tuple hB
  obtain ⟨oc, od, odata, sl⟩ := o2
  simp only at hc2 hd2
  subst hc2 hd2
  have hl2 := r2.length
  have hsz : its.toArray.size + its2.toArray.size ≤ sizeLine := by rw [List.size_toArray, List.size_toArray]; omega
  have hlong : ¬ (!its.toArray.isEmpty && Builtin.List.listTooLong (its.toArray.size + its2.toArray.size)) = true := by
    rw [notLongL hsz, Bool.and_false]
    exact Bool.false_ne_true
  refine call_meets F.slot_list_extend ⟨_, e, rfl⟩ F.entry_list_extend (F.args_list_extend_2 _ _)
    (meets_extend_tup l its.toArray n b its2.toArray n2 od sl hlong (by rw [List.size_toArray]; omega) (by omega)) ⟨e, e2, ?_⟩
  refine ⟨.non, _, I.lset (its' := its ++ its2) hH e (by simp) (r.append r2) ?_, rfl, q⟩
  rw [List.length_append]
  omega
/-! ### a dict of the module, its keys texts -/
def lookD (kvs : List (Str × V)) (k : Str) : Option V := (kvs.find? fun kv => kv.1 = k).map (·.2)
inductive VPs : List (Str × V) → List (Str × Value) → Prop
  | nil : VPs [] []
  | cons {k : Str} {x : V} {v : Value} {r : List (Str × V)} {q : List (Str × Value)} : RelV x v → VPs r q → VPs ((k, x) :: r) ((k, v) :: q)
theorem VPs.look {kvs : List (Str × V)} {vs : List (Str × Value)} (h : VPs kvs vs) (k : Str) : (valueAt vs k).isSome = (lookD kvs k).isSome ∧ ∀ x, lookD kvs k = some x → ∃ v, valueAt vs k = some v ∧ RelV x v := by
  induction h with
  | nil => exact ⟨rfl, fun x e => nomatch e⟩
  | @cons k' x v r q rx _ ih =>
    unfold valueAt lookD at ih ⊢
    by_cases z : k' = k
    · simp only [List.find?_cons, z, decide_true, Option.map_some, Option.isSome_some]
      exact ⟨trivial, fun y e => ⟨v, rfl, by cases e; exact rx⟩⟩
    · simp only [List.find?_cons, z, decide_false]
      exact ih
def DkK (P : Program) (w : World) (K : PySem.W.Frag) (a : Addr) (kvs : List (Str × V)) : Prop :=
  ∃ (o : Obj) (vs : List (Str × Value)), K.lookup a = some o ∧ o.IsDictOf (strKind P w) vs ∧ (a == sysModules) = false ∧ VPs kvs vs
def rInD (P : Program) (w : World) (K : PySem.W.Frag) : R2 := fun x y H Q => ∃ s a kvs, x = .str s ∧ y = .ref a ∧ DkK P w K a kvs ∧ Q (.bl (lookD kvs s).isSome) H
theorem op_inD : OpR X (compareOp .In) (rInD X.prog X.w X.K) := by
  intro pins s σ H x y v u Q I rx ry h
  obtain ⟨z, a, kvs, rfl, rfl, ⟨o, vs, hk, hd, lo, vp⟩, q⟩ := h
  obtain ⟨t, rfl⟩ := rx
  cases ry
  have D : s.heap.DictOf (strKind X.prog X.w) a vs := Heap.dictOf_iff.mpr ⟨o, I.kIn a o hk, hd⟩
  exact wpAny_in_of (knd := strKind X.prog X.w) (k := z) (strKind_is _ _ _ _) lo D.mapOf (fin_bl (I.tok _) q (vp.look z).1.symm)
def rIxD (P : Program) (w : World) (K : PySem.W.Frag) : R2 := fun x y H Q => ∃ a kvs s v, x = .ref a ∧ y = .str s ∧ DkK P w K a kvs ∧ lookD kvs s = some v ∧ Q v H
theorem ix_D : IxR X (rIxD X.prog X.w X.K) := by
  intro value slice pins s σ H x y v u Q I rx ry h hs
  obtain ⟨a, kvs, z, v', rfl, rfl, ⟨o, vs, hk, hd, lo, vp⟩, hv, q⟩ := h
  cases rx
  obtain ⟨t, rfl⟩ := ry
  have D : s.heap.DictOf (strKind X.prog X.w) a vs := Heap.dictOf_iff.mpr ⟨o, I.kIn a o hk, hd⟩
  obtain ⟨u', e, r⟩ := (vp.look z).2 _ hv
  exact tail_any D.typeIs slot_dict_getitem.lookup (wpAny_getItem_of (knd := strKind X.prog X.w) (k := z) (strKind_is _ _ _ _) D.mapOf e ⟨v', H, I.tok _, r, q⟩) hs
/-! ### is True, is False -/
def rIsB : R2 := fun x y H Q => ∃ b, y = .bl b ∧ Q (.bl (decide (x = .bl b))) H
theorem op_isB : OpR X (compareOp .Is) rIsB := by
  intro pins s σ H x y v u Q I rx ry h
  obtain ⟨b, rfl, q⟩ := h
  cases ry
  refine wpAny_is_plain ?_ (fin_bl I q ?_)
  · cases x <;> first | (cases rx; rfl) | (obtain ⟨t, rfl⟩ := rx; rfl)
  · cases x <;> first
      | (cases rx; rfl)
      | (obtain ⟨t, rfl⟩ := rx; rfl)
      | (rename_i c; cases rx; cases c <;> cases b <;> rfl)
end
section
variable {X : Cx} (P : Program) (w : World) (K : PySem.W.Frag)
theorem k_inD (hP : X.prog = P := by rfl) (hw : X.w = w := by rfl) (hK : X.K = K := by rfl) : OpR X (compareOp .In) (rInD P w K) := by subst hP hw hK; exact op_inD
theorem k_ixD (hP : X.prog = P := by rfl) (hw : X.w = w := by rfl) (hK : X.K = K := by rfl) : IxR X (rIxD P w K) := by subst hP hw hK; exact ix_D
theorem k_extT (hK : X.K = K := by rfl) : MtM X "list.extend" (rExtT K) := by subst hK; exact mt_extT
end
theorem s_chain {r r' : R2} {ta tb tc : TE} {σ : St} {H : Hp} {Q : VK} (h : ta σ H fun x H1 => tb σ H1 fun y H2 => r x y H2 fun z H3 => ∃ k, z = .bl k ∧ (if k = true then tc σ H3 fun w' H4 => r' y w' H4 Q else Q (.bl false) H3)) : tChain r r' ta tb tc σ H Q := h
/-- what the head tells of a dict -/
inductive Ents (p : Params) : List DictEntry → List (Str × V) → Prop
  | nil : Ents p [] []
  | cons {k : Str} {t : Tok} {x : V} {v : Value} {r : List DictEntry} {q : List (Str × V)} : RelV x v → Ents p r q → Ents p (⟨PyData.keyHash p k, .str k t, v⟩ :: r) ((k, x) :: q)
theorem Ents.pairs {P : Program} {w : World} {es : List DictEntry} {kvs : List (Str × V)} (h : Ents w.params es kvs) : ∃ vs, VPs kvs vs ∧ PySem.Pairs (PySem.strKind P w) es vs ∧ vs.map (·.1) = kvs.map (·.1) ∧ ∀ e ∈ es, ∃ k, (PySem.strKind P w).is k e.key = true ∧ e.hash = (PySem.strKind P w).hash k := by
  induction h with
  | nil => exact ⟨[], .nil, .nil, rfl, fun e he => nomatch he⟩
  | @cons k t x v r q rx _ ih =>
    obtain ⟨vs, a, b, c, d⟩ := ih
    refine ⟨(k, v) :: vs, .cons rx a, .cons (strKind_is _ _ _ _) rfl b, by simp [c], fun e he => ?_⟩
    rcases List.mem_cons.mp he with rfl | he
    · exact ⟨k, strKind_is _ _ _ _, rfl⟩
    · exact d e he
theorem dk_mk {P : Program} {w : World} {K : PySem.W.Frag} {a : Addr} {es : Array DictEntry} {n : Nat} {kvs : List (Str × V)} (l : K.lookup a = some ⟨.type "dict", none, .dict es n, #[]⟩) (hs : (a == sysModules) = false)
    (e : Ents w.params es.toList kvs) (nd : (kvs.map (·.1)).Nodup) : DkK P w K a kvs := by
  obtain ⟨vs, a1, a2, a3, a4⟩ := e.pairs (P := P)
  exact ⟨_, vs, l, ⟨es, n, ⟨rfl, rfl, rfl⟩, rfl, fun e he => a4 e (by simpa using he), a2, by rw [a3]; exact nd⟩, hs, a1⟩
end L2

set_option Elab.async false
set_option linter.all false
set_option maxRecDepth 100000
set_option maxHeartbeats 4000000
namespace L2
open PySem PySem.Spec PyProof.Rows
/-! ### text * number -/
def rMulS : R2 := fun x y H Q => ∃ z n, x = .str z ∧ y = .int n ∧ MulOk z n ∧ Q (.str (PySem.Txt.mul z n)) H
theorem op_mulS {X : Cx} : OpR X (binaryOp .Mult) rMulS := by
  intro pins s σ H x y v u Q I rx ry h
  obtain ⟨z, n, rfl, rfl, hok, q⟩ := h
  obtain ⟨t, rfl⟩ := rx
  obtain ⟨t', rfl⟩ := ry
  exact SB.mul hok fun t' k => ⟨.str _, H, I.tok k, ⟨_, rfl⟩, q⟩
end L2

set_option Elab.async false
set_option linter.all false
set_option maxRecDepth 100000
set_option maxHeartbeats 4000000
namespace L2
open PySem PySem.Spec PyProof.Rows
/-! ### list(reversed(a list)) -/
theorem nolen_lri : typeLookup (.type "list_reverseiterator") "__len__" = pure none := by rw [typeLookup_type, builtinLookup_eq_fast]; kernel_rfl
theorem hintof_lri : typeLookup (.type "list_reverseiterator") "__length_hint__" = pure (some (.builtin "list_reverseiterator.__length_hint__")) := by rw [typeLookup_type, builtinLookup_eq_fast]; kernel_rfl
theorem hint_lri {prog : Program} {w : World} {A : Around} {E : Value → Shared → Prop} {s : Shared} {it : Addr} {Q : Bool → Shared → Prop} (hT : s.TypeIs (.ref it) "list_reverseiterator") (h : Q false s) : wpAny (model prog w) A (Builtin.List.listLengthHint (.ref it)) Q E s := by
  unfold Builtin.List.listLengthHint
  refine wpAny_bind (wpAny_specialOf hT nolen_lri ?_)
  show wpAny _ _ (specialOf (Value.ref it) (Str.ofString "__length_hint__") >>= _) _ _ _
  refine wpAny_bind (wpAny_specialOf hT hintof_lri ?_)
  (generalize hid : ("list_reverseiterator.__length_hint__" : String) = id0; (fail_if_success (clear hid id0)); wp_delta; rw [show splitId id0 = some ("list_reverseiterator", "__length_hint__") from by subst hid; decide +kernel]; subst hid)
  refine wpAny_bind (wpAny_isInstance (b := true) hT (by rw [isSubtype_type]; kernel_rfl) ?_)
  exact wpAny_pure h
/-- an iterator at it that list() takes whole: J i ys H h: i taken, ys the values so far -/
structure Src0 (X : Cx) (pins : List (Addr × Obj)) (σ : St) (it : Addr) (n : Nat) (H0 : Hp) (J : Nat → List V → Hp → Heap → Prop) : Prop where
  ty : ∀ i ys H h, J i ys H h → ∃ o, h.get? it = some o ∧ o.cls = .type "list_reverseiterator"
  self : ∀ (A : Around) (s : Shared) (ys : List V) (H : Hp) (Q : Value → Shared → Prop) (E : Value → Shared → Prop), J 0 ys H s.heap → Q (.ref it) s → wpAny (model X.prog X.w) A (pyIter (.ref it)) Q E s
  keep : ∀ i ys H h h' S zs zs', H0 S = none → H S = some (.lst zs) → J i ys H h → (∀ b o, b ≠ S → h.get? b = some o → h'.get? b = some o) → (∃ o, h'.get? S = some o) → J i ys (upd H S (.lst zs')) h'
  fresh : ∀ i ys H h, J i ys H h → H it = none
  item : ∀ (A : Around) (i : Nat) (s : Shared) (H : Hp) (ys : List V) (E : Value → Shared → Prop), A.handled = none → i < n → Inv X pins σ H s → J i ys H s.heap →
    wpAny (model X.prog X.w) A (pyNext (.ref it)) (fun r s' => ∃ u x H', r = some u ∧ RelV x u ∧ Inv X pins σ H' s' ∧ J (i + 1) (ys ++ [x]) H' s'.heap ∧ ∀ S zs, H S = some (.lst zs) → H' S = some (.lst zs)) E s
  done : ∀ (A : Around) (s : Shared) (H : Hp) (ys : List V) (E : Value → Shared → Prop), A.handled = none → Inv X pins σ H s → J n ys H s.heap →
    wpAny (model X.prog X.w) A (pyNext (.ref it)) (fun r s' => r = none ∧ Inv X pins σ H s') E s
section
variable {X : Cx} {pins : List (Addr × Obj)} {σ : St} {it : Addr} {n : Nat} {H0 : Hp} {J : Nat → List V → Hp → Heap → Prop}
theorem src0_loop (C : Src0 X pins σ it n H0 J) (hn : n ≤ sizeLine) {A : Around} (hh : A.handled = none) {R : Result → Shared → Prop} (S : Addr) (hS0 : H0 S = none) (res : Value)
    (fin : ∀ s' H' ys', Inv X pins σ H' s' → H' S = some (.lst ys') → ys'.length = n → (∃ h, J n ys' H' h) → R (.ok (.ret res)) s') :
    ∀ (k i : Nat) (s : Shared) (H : Hp) (ys : List V), n - i = k → i ≤ n → Inv X pins σ H s → J i ys H s.heap → H S = some (.lst ys) → ys.length = i →
    codeAny (model X.prog X.w) A (.builtin "list.extend.loop" ⟨[.ref S, .ref it, res], []⟩) R s := by
  intro k
  induction k with
  | zero =>
    intro i s H ys hk hi I j hS hl
    have hin : i = n := by omega
    subst hin
    refine codeAny_builtin PySem.F.entry_extend_loop ?_
    rw [Around.under_plainId PySem.F.plain_extend_loop _]
    show wpAny _ A.in1 (pyNext (.ref it) >>= _) _ _ s
    refine wpAny_bind (thn (C.done A.in1 s H ys _ hh I j) fun r s' ⟨hr, I'⟩ => ?_)
    subst hr
    exact wpAny_pure (fin s' H ys I' hS hl ⟨_, j⟩)
  | succ k ih =>
    intro i s H ys hk hi I j hS hl
    have hlt : i < n := by omega
    refine codeAny_builtin PySem.F.entry_extend_loop ?_
    rw [Around.under_plainId PySem.F.plain_extend_loop _]
    show wpAny _ A.in1 (pyNext (.ref it) >>= _) _ _ s
    refine wpAny_bind (thn (C.item A.in1 i s H ys _ hh hlt I j) fun r s' ⟨u, x, H', hr, rx, I', j', kS⟩ => ?_)
    subst hr
    have hS' := kS S ys hS
    obtain ⟨z, its, m, rv, hl', e⟩ := I'.lstM hS'
    show wpAny _ A.in1 (updateSeq S (·.push u) >>= _) _ _ _
    refine wpAny_bind ?_
    have hu : (its.toArray.push u) = (its ++ [u]).toArray := by simp
    have I2 := I'.lset (f := (·.push u)) (its' := its ++ [u]) (ys := ys ++ [x]) (t' := s'.toks) hS' e hu (rv.append (.cons rx .nil)) (by rw [List.length_append, List.length_singleton]; omega)
    refine wpAny_updateSeq e rfl (wpAny_pure ⟨plainId_quiet PySem.F.plain_extend_loop _, ih (i + 1) _ _ (ys ++ [x]) (by omega) hlt I2 ?_ upd_same (by simp [hl])⟩)
      (by rw [List.size_toArray]; omega) (by show (its.toArray.push u).size ≤ sizeLine + 1; rw [Array.size_push, List.size_toArray]; omega)
    exact C.keep _ _ _ _ _ S ys (ys ++ [x]) hS0 hS' j' (fun b o hb eb => (Heap.get?_update_other _ _ (Ne.symm hb)).trans eb) ⟨_, Heap.get?_update_self _ e rfl⟩
/-- list(it) -/
theorem call_list_src0 {H : Hp} (C : Src0 X pins σ it n H J) (hn : n ≤ sizeLine) {A : Around} (hh : A.handled = none) {s : Shared} {Q : VK} {E : Value → Shared → Prop} (I : Inv X pins σ H s) (j : J 0 [] H s.heap)
    (jn : ∀ S, s.heap.objs.size ≤ S → H S = none → ∀ h', (∀ b o, s.heap.get? b = some o → h'.get? b = some o) → J 0 [] (upd H S (.lst [])) h')
    (q : ∀ S H' ys, H S = none → H' S = some (.lst ys) → ys.length = n → (∃ h, J n ys H' h) → Q (.ref S) H') :
    wpAny (model X.prog X.w) A (call (.type "list") [.ref it]) (EP X pins σ Q) E s := by
  have hf : H s.heap.objs.size = none := I.hok.fresh (Nat.le_refl _)
  have hne : s.heap.objs.size ≠ it := by
    obtain ⟨o, e, _⟩ := C.ty _ _ _ _ j
    exact Nat.ne_of_gt (Heap.lt_size e)
  refine callType_codes (Q₁ := fun obj s₁ => obj = .ref s.heap.objs.size ∧ s₁ = { s with heap := s.heap.push { cls := .type "list", data := .seq #[] } }) PySem.F.called_list (PySem.F.typeCall_list_1 _) PySem.F.entry_list_init
    (code_list_new _ ⟨rfl, rfl⟩) fun obj s₁ h₁ => ?_
  obtain ⟨rfl, rfl⟩ := h₁
  have hS : (s.heap.push { cls := .type "list", data := .seq #[] }).get? s.heap.objs.size = some { cls := .type "list", data := .seq #[] } := Heap.get?_push_size _ rfl
  have I1 : Inv X pins σ (upd H s.heap.objs.size (.lst [])) { s with heap := s.heap.push { cls := .type "list", data := .seq ([] : List Value).toArray } } := I.lnew (ys := []) (its := []) (t' := s.toks) .nil (by simp)
  have j1 : J 0 [] (upd H s.heap.objs.size (.lst [])) (s.heap.push { cls := .type "list", data := .seq ([] : List Value).toArray })   := jn _ (Nat.le_refl _) hf _ fun b o e => Heap.get?_push_of_some _ e
  refine ⟨⟨_, hS, rfl⟩, PySem.F.args_list_init_2 _ _, ?_⟩
  generalize hs1 : ({ s with heap := s.heap.push { cls := .type "list", data := .seq ([] : List Value).toArray } } : Shared) = s1 at I1
  have hS1 : s1.heap.get? s.heap.objs.size = some { cls := .type "list", data := .seq ([] : List Value).toArray } := by rw [← hs1]; exact hS
  replace j1 : J 0 [] (upd H s.heap.objs.size (.lst [])) s1.heap := by rw [← hs1]; exact j1
  have hs1' : ({ s with heap := s.heap.push { cls := .type "list", data := .seq #[] } } : Shared) = s1 := hs1
  first | rw [hs1'] | skip
  show wpAny _ A.in1.in1 (do let old ← Builtin.List.listItems (.ref s.heap.objs.size); Builtin.List.listUpdate (.ref s.heap.objs.size) (fun _ => #[]); letGo old.toList.reverse; Builtin.List.listExtendWith (.ref s.heap.objs.size) (.ref it) .none) _ _ s1
  generalize s.heap.objs.size = S at *
  refine wpAny_bind ?_
  unfold Builtin.List.listItems
  refine wpAny_bind (wpAny_seqItems hS1 rfl (wpAny_pure ?_))
  show wpAny _ A.in1.in1 (updateSeq S (fun _ => #[]) >>= fun _ => letGo (#[] : Array Value).toList.reverse >>= fun _ => Builtin.List.listExtendWith (.ref S) (.ref it) .none) _ _ s1
  refine wpAny_bind (wpAny_updateSeq hS1 rfl ?_)
  have I2 := I1.lset (f := fun _ => #[]) (its' := []) (ys := []) (t' := s1.toks) upd_same hS1 rfl .nil (by simp)
  have hS2 := Heap.get?_update_self (Obj.mapSeq (fun _ => (#[] : Array Value))) hS1 rfl
  have j2 := C.keep _ _ _ _ (s1.heap.update S (Obj.mapSeq fun _ => #[])) S [] [] hf upd_same j1 (fun b o hb eb => (Heap.get?_update_other _ _ (Ne.symm hb)).trans eb) ⟨_, hS2⟩
  rw [upd_upd] at I2 j2
  generalize hs2 : ({ s1 with heap := s1.heap.update S (Obj.mapSeq fun _ => #[]), toks := s1.toks } : Shared) = s2 at I2
  replace j2 : J 0 [] (upd H S (.lst [])) s2.heap := by rw [← hs2]; exact j2
  have hs2' : ({ s1 with heap := s1.heap.update S (Obj.mapSeq fun _ => #[]) } : Shared) = s2 := hs2
  first | rw [hs2'] | skip
  refine wpAny_bind (wpAny_letGo ?_)
  obtain ⟨oi, ei, ci⟩ := C.ty _ _ _ _ j2
  have hT : s2.TypeIs (.ref it) "list_reverseiterator" := ⟨oi, ei, ci⟩
  unfold Builtin.List.listExtendWith
  refine wpAny_bind (wpAny_typeOf hT ?_)
  have h1 : Builtin.List.listSameRef (.ref S) (.ref it) = false := by simp [Builtin.List.listSameRef, hne]
  rw [if_neg (by rw [h1]; decide)]
  refine wpAny_bind (C.self _ s2 _ _ _ _ j2 ?_)
  refine wpAny_bind (wpAny_holding ?_)
  refine hint_lri hT ?_
  rw [if_neg (by decide)]
  refine wpAny_pure ⟨plainId_quiet PySem.F.plain_extend_loop _, src0_loop C hn (A := A.in1) hh S hf .none ?_ n 0 _ _ [] rfl (Nat.zero_le _) I2 j2 upd_same rfl⟩
  intro s' H' ys' I' hS' hl' hj'
  exact ⟨rfl, .ref S, H', I', rfl, q S H' ys' hf hS' hl' hj'⟩
end

/-! ### list(reversed(xs)) -/
def JRev (H0 : Hp) (it a : Addr) (xs : List V) : Nat → List V → Hp → Heap → Prop := fun i ys H h =>
  i ≤ xs.length ∧ h.IsRevIter it a ((xs.length : Int) - 1 - (i : Int)) ∧ H it = none ∧ ys = xs.reverse.take i ∧ Same H0 H
theorem src_rev {X : Cx} {pins : List (Addr × Obj)} {σ : St} {H0 : Hp} {it a : Addr} {xs : List V} (fi : FpOk X pins H0 it) (hq : SqL X.K H0 a xs) : Src0 X pins σ it xs.length H0 (JRev H0 it a xs) where
  ty := fun i ys H h j => by
    obtain ⟨o, e, c, _⟩ := j.2.1
    exact ⟨o, e, c⟩
  self := fun A s ys H Q E j q => wpAny_pyIter_revIter j.2.1 q
  keep := fun i ys H h h' S zs zs' h0 hS j k al => by
    obtain ⟨j1, j2, j3, j4, j5⟩ := j
    have ne1 : it ≠ S := fun z => by rw [z, hS] at j3; cases j3
    exact ⟨j1, j2.at fun o e => k it o ne1 e, by rw [upd_ne ne1]; exact j3, j4, j5.over h0⟩
  fresh := fun i ys H h j => j.2.2.1
  item := fun A i s H ys E hh hi I j => by
    obtain ⟨j1, j2, j3, j4, j5⟩ := j
    have hqH := j5.seq hq
    obtain ⟨its, rv, p, hz⟩ := I.list hqH
    have hx : xs[xs.length - 1 - i]? = some (xs[xs.length - 1 - i]'(by omega)) := List.getElem?_eq_getElem (by omega)
    obtain ⟨u, hu, ru⟩ := rv.get hx
    obtain ⟨f0, f1, f2, f3, f4, f5⟩ := fi.of j3
    have e : (xs.length : Int) - 1 - (i : Int) = ((xs.length - 1 - i : Nat) : Int) := by omega
    have hit := j2
    rw [e] at hit
    refine wpAny_pyNext_rev_item hit p.isList (x := u) (by simpa using hu) fun h' st' sb => ?_
    have I1 : Inv X pins σ H { s with heap := h' } := I.turned (t' := s.toks) (fun b o hb e => (sb.2 b hb).trans e) f0 f1 f3 f4 f5
    have e2 : ((xs.length - 1 - i : Nat) : Int) - 1 = (xs.length : Int) - 1 - ((i + 1 : Nat) : Int) := by omega
    rw [e2] at st'
    refine ⟨u, _, H, rfl, ru, I1, ⟨hi, st', j3, ?_, j5⟩, fun S zs e => e⟩
    rw [j4, List.take_add_one]
    congr 1
    rw [List.getElem?_reverse (by simpa using hi), hx]
    rfl
  done := fun A s H ys E hh I j => by
    obtain ⟨j1, j2, j3, j4, j5⟩ := j
    obtain ⟨f0, f1, f2, f3, f4, f5⟩ := fi.of j3
    have e : (xs.length : Int) - 1 - (xs.length : Int) = -1 := by omega
    have hit := j2
    rw [e] at hit
    exact wpAny_pyNext_rev_end hh hit fun h' eb => ⟨rfl, I.turned (t' := s.toks) (fun b o hb e => eb b o hb e) f0 f1 f3 f4 f5⟩
section
variable {X : Cx}
def tListRev (K : PySem.W.Frag) (ta : TA) : TE := fun σ H Q => ta σ H fun vs H1 => ∃ a xs, vs = [.ref a] ∧ SqL K H1 a xs ∧
  ∀ (S : Addr) (H2 : Hp), H1 S = none → Same H1 H2 → H2 S = some (.lst xs.reverse) → Q (.ref S) H2
theorem qe_list_rev {e : Expr} {ta : TA} {p p2 pos pos2 : Pos} (hg : Gl X "list") (hm : X.mg "list" = none) (hg2 : Gl X "reversed") (hm2 : X.mg "reversed" = none) (ha : QA X [e] ta) (hc : X.calm = true := by rfl)
    (hs : starEach [.Call (.Name "reversed" p2) [e] [] pos2] X.env = [(false, eval (.Call (.Name "reversed" p2) [e] [] pos2) X.env)] := by rfl) (hs2 : starEach [e] X.env = [(false, eval e X.env)] := by rfl) :
    QE X (.Call (.Name "list" p) [.Call (.Name "reversed" p2) [e] [] pos2] [] pos) (tListRev X.K ta) := by
  refine ⟨fun pins s σ H Q I h => ?_⟩
  refine Call_ (ld_blt I hg hm boot_list' (PyProof.Rows.callWith_type1 ?_ hs rfl))
  rw [hs]
  show wpAny _ _ (spliced ((false, eval (.Call (.Name "reversed" p2) [e] [] pos2) X.env) :: [])) _ _ s
  refine Calls.spliced_cons ?_
  refine Call_ (ld_blt I hg2 hm2 boot_rev (PyProof.Rows.callWith_type1 (thn (ha.run pos2 pins s σ H _ I h) fun us s1 ⟨vs, H1, I1, r1, q1⟩ => ?_) hs2 rfl))
  obtain ⟨a, xs, e1, hq, q⟩ := q1
  subst e1
  cases r1 with
  | cons r rr =>
    cases rr
    cases r
    obtain ⟨its, rv, pl, hz⟩ := I1.list hq
    have hl := rv.length
    refine call_reversed_list pl.isList ?_
    refine Calls.spliced_nil ?_
    have st0 : (s1.heap.push (PySem.revObj a (((its.toArray).size : Int) - 1))).IsRevIter s1.heap.objs.size a ((xs.length : Int) - 1 - ((0 : Nat) : Int)) := by
      refine ⟨_, Heap.get?_push_size _ rfl, rfl, ?_⟩
      have e : ((its.toArray).size : Int) - 1 = (xs.length : Int) - 1 - ((0 : Nat) : Int) := by simp [hl]
      rw [← e]
      rfl
    have I2 : Inv X pins σ H1 { s1 with heap := s1.heap.push (PySem.revObj a (((its.toArray).size : Int) - 1)) } := I1.kept (t' := s1.toks) fun b o e => Heap.get?_push_of_some _ e
    have fi := I1.fpOk (b := s1.heap.objs.size) (Nat.le_refl _) (I1.hok.fresh (Nat.le_refl _))
    have C := src_rev (X := X) (pins := pins) (σ := σ) (H0 := H1) (it := s1.heap.objs.size) (a := a) (xs := xs) fi hq
    refine call_list_src0 C (by omega) (I1.ok.hd hc) I2 ⟨Nat.zero_le _, st0, fi.1, rfl, Same.refl _⟩ (fun S hge hS h2 k2 => ?_) fun S H' ys hS hS' hl' hj => ?_
    · refine ⟨Nat.zero_le _, st0.at fun o e => k2 _ _ e, ?_, rfl, Same.upd hS⟩
      rw [upd_ne (show s1.heap.objs.size ≠ S from fun z => ?_)]
      · exact fi.1
      · have hge : (s1.heap.push (PySem.revObj a (((its.toArray).size : Int) - 1))).objs.size ≤ S := hge
        rw [Heap.size_push] at hge
        omega
    · obtain ⟨h, j⟩ := hj
      obtain ⟨_, _, _, j4, j5⟩ := j
      rw [List.take_of_length_le (by simp)] at j4
      subst j4
      exact q S H' hS j5 hS'
theorem qe_list_reversedK (K : PySem.W.Frag) {e : Expr} {ta : TA} {p p2 pos pos2 : Pos} (hg : Gl X "list") (hm : X.mg "list" = none) (hg2 : Gl X "reversed") (hm2 : X.mg "reversed" = none) (ha : QA X [e] ta) (hK : X.K = K := by rfl) (hc : X.calm = true := by rfl)
    (hs : starEach [.Call (.Name "reversed" p2) [e] [] pos2] X.env = [(false, eval (.Call (.Name "reversed" p2) [e] [] pos2) X.env)] := by rfl) (hs2 : starEach [e] X.env = [(false, eval e X.env)] := by rfl) :
    QE X (.Call (.Name "list" p) [.Call (.Name "reversed" p2) [e] [] pos2] [] pos) (tListRev K ta) := by subst hK; exact qe_list_rev hg hm hg2 hm2 ha hc hs hs2
theorem s_listrev {K : PySem.W.Frag} {ta : TA} {σ : St} {H : Hp} {Q : VK} (h : ta σ H fun vs H1 => ∃ a xs, vs = [.ref a] ∧ SqL K H1 a xs ∧ ∀ (S : Addr) (H2 : Hp), H1 S = none → Same H1 H2 → H2 S = some (.lst xs.reverse) → Q (.ref S) H2) : tListRev K ta σ H Q := h
theorem s_ext {l b : Addr} {xs zs : List V} {H : Hp} {Q : VK} (e : H l = some (.lst xs)) (e2 : H b = some (.lst zs)) (hz : xs.length + zs.length ≤ sizeLine) (h : Q .non (upd H l (.lst (xs ++ zs)))) : rExtend (.ref l) [.ref b] H Q := ⟨l, b, xs, zs, rfl, rfl, e, e2, hz, h⟩
/-! ### sum of a list of numbers -/
def rSum (K : PySem.W.Frag) : List V → Hp → VK → Prop := fun xs H Q => ∃ (p : Addr) (ns : List Int), xs = [.ref p] ∧ SqL K H p (ns.map V.int) ∧ Q (.int ns.sum) H
theorem vals_pairs : ∀ {ns : List Int} {us : List Value}, Vals (ns.map V.int) us → ∃ xs : List (Int × Tok), us = xs.map (fun p => Value.int p.1 p.2) ∧ xs.map (·.1) = ns
  | [], _, .nil => ⟨[], rfl, rfl⟩
  | n :: ns, _, .cons r t => by
    obtain ⟨u, rfl⟩ := r
    obtain ⟨xs, e1, e2⟩ := vals_pairs t
    exact ⟨(n, u) :: xs, by rw [e1]; rfl, by simp [e2]⟩
theorem call_sum (hc : X.calm = true) : CallR X (.builtin "sum") (rSum X.K) := by
  intro pins s σ H xs us Q I r h
  obtain ⟨p, ns, rfl, hq, q⟩ := h
  obtain ⟨u, rfl, ru⟩ := r.one
  cases ru
  obtain ⟨its, rv, pl, hz⟩ := I.list hq
  obtain ⟨zs, rfl, hn⟩ := vals_pairs rv
  have hl : s.heap.IsList p (intItems zs.toArray) := by
    have e : intItems zs.toArray = (zs.map (fun p => Value.int p.1 p.2)).toArray := by unfold intItems; simp
    rw [e]
    exact pl.isList
  refine sum_intListG (I.ok.hd hc) hl fun h' tk t' hk => ?_
  have e : preSum (numAt zs.toArray) zs.toArray.size = ns.sum := by
    rw [preSum_eq, List.take_of_length_le (by simp)]
    simp [hn]
  rw [e]
  exact ⟨.int ns.sum, H, I.kept hk, ⟨t', rfl⟩, q⟩
theorem k_sum (K : PySem.W.Frag) (hc : X.calm = true) (hK : X.K = K := by rfl) : CallR X (.builtin "sum") (rSum K) := by subst hK; exact call_sum hc
theorem s_sum {K : PySem.W.Frag} {p : Addr} {ns : List Int} {H : Hp} {Q : VK} (q : SqL K H p (ns.map V.int)) (h : Q (.int ns.sum) H) : rSum K [.ref p] H Q := ⟨p, ns, rfl, q, h⟩
def rStrI : List V → Hp → VK → Prop := fun xs H Q => ∃ i, xs = [.int i] ∧ i.natAbs.log2 < 1920 ∧ Q (.str (toString i)) H
theorem k_strI : CallR X (.type "str") rStrI := call_str_int
theorem s_strI {i : Int} {H : Hp} {Q : VK} (hi : i.natAbs.log2 < 1920) (h : Q (.str (toString i)) H) : rStrI [.int i] H Q := ⟨i, rfl, hi, h⟩
end
end L2

set_option Elab.async false
set_option linter.all false
set_option maxRecDepth 100000
set_option maxHeartbeats 4000000
namespace L2
open PySem PySem.Spec PyProof.Rows
/-! ### t[lo:hi] of a tuple, the whole of it too -/
theorem tuple_whole {prog : Program} {w : World} {A : Around} {E : Value → Shared → Prop} {s : Shared} {t sl : Addr} {items : Array Value} {vl vu : Value} {lo hi : Option Int} {Q : Value → Shared → Prop} (ht : IsTup s.heap t items) (hs : s.heap.IsSliceOf sl vl vu .none) (pl : IsPart vl lo) (pu : IsPart vu hi)
    (hw : HT.sIx items.size 0 lo = 0 ∧ HT.sIx items.size items.size hi = items.size) (h : Q (.ref t) s) : wpAny (model prog w) A (getItem (.ref t) (.ref sl)) Q E s := by
  obtain ⟨os, hos, hcs, hds⟩ := id hs
  have hTs : s.TypeIs (.ref sl) "slice" := ⟨os, hos, hcs⟩
  unfold getItem
  try with_reducible refine wpAny_holding ?_
  first | refine wpAny_bind (wpAny_pure ?_) | skip
  refine wpAny_bind (wpAny_sequenceKey ht.typeIs (by decide) ?_)
  refine wpAny_bind (wpAny_callSpecial?_slot (name := Str.ofString "__getitem__") ht.typeIs PyProof.Rows.slot_tuple_getitem
    (wpAny_call_entry PyProof.Rows.slot_tuple_getitem ht.typeIs PyProof.Rows.entry_tuple_getitem ?_ (PyProof.Rows.args_tuple_getitem _ _)))
  show wpAny _ _ (Builtin.Tuple.tupleItemsOf (.ref t) >>= _) _ _ s
  refine wpAny_bind (PyProof.Rows.tupleItemsOf_ ht ?_)
  refine wpAny_bind (wpAny_typeOf hTs ?_)
  rw [if_pos (by decide)]
  refine wpAny_bind (HT.sliceApplied_gen hs pl pu ?_)
  have hyes : (((HT.sIx items.size 0 lo : Nat) : Int) == 0 && (1 : Int) == 1 && (HT.sIx items.size items.size hi - HT.sIx items.size 0 lo) == items.size) = true := by
    rw [hw.1, hw.2]
    simp
  show wpAny _ _ (if (((HT.sIx items.size 0 lo : Nat) : Int) == 0 && (1 : Int) == 1 && (HT.sIx items.size items.size hi - HT.sIx items.size 0 lo) == items.size) = true then _ else _) _ _ s
  rw [if_pos hyes]
  refine wpAny_bind (m := Builtin.Tuple.tupleIsExact (.ref t)) ?_
  unfold Builtin.Tuple.tupleIsExact
  refine wpAny_bind (wpAny_typeOf ht.typeIs (wpAny_pure ?_))
  rw [if_pos (by decide)]
  refine wpAny_bind (wpAny_rule ?_)
  exact wpAny_pure ⟨_, rfl, wpAny_pure h⟩
def rSlU (K : PySem.W.Frag) : V → Option Int → Option Int → Hp → VK → Prop := fun x lo hi H Q => ∃ a xs, x = .ref a ∧ SqT K H a xs ∧ ∀ r H', Same H H' → SqT K H' r (cutV xs lo hi) → Q (.ref r) H'
theorem sl_tupA {X : Cx} : SlR X (rSlU X.K) := by
  intro pins s σ H x v vl vu lo hi sl Q I rx hs pl pu h
  obtain ⟨a, xs, rfl, hx, q⟩ := h
  by_cases hw : HT.sIx xs.length 0 lo = 0 ∧ HT.sIx xs.length xs.length hi = xs.length
  · cases rx
    obtain ⟨its, r, ht, hz⟩ := I.tuple hx
    have hlen : its.toArray.size = xs.length := by rw [List.size_toArray]; exact r.length.symm
    refine ⟨"tuple", _, PyProof.Rows.slot_tuple_getitem.lookup, ht.typeIs, ?_⟩
    refine tuple_whole ht hs pl pu (by rw [hlen]; exact hw) ⟨.ref a, H, I, rfl, q a H (Same.refl H) ?_⟩
    have e : cutV xs lo hi = xs := by unfold cutV; rw [hw.1, hw.2]; simp
    rw [e]
    exact hx
  · exact sl_tup pins s σ H _ v vl vu lo hi sl Q I rx hs pl pu ⟨a, xs, rfl, hx, hw, fun p hp => q p _ (Same.upd hp) (.of upd_same)⟩
def rSlB (K : PySem.W.Frag) : V → Option Int → Option Int → Hp → VK → Prop := fun x lo hi H Q => rSlL K x lo hi H Q ∨ rSlS x lo hi H Q ∨ rSlU K x lo hi H Q
theorem k_slB {X : Cx} (K : PySem.W.Frag) (hK : X.K = K := by rfl) : SlR X (rSlB K) := by subst hK; exact sl_list.or (sl_str.or sl_tupA)
theorem s_slb_lst {K : PySem.W.Frag} {a : Addr} {xs : List V} {lo hi : Option Int} {H : Hp} {Q : VK} (ha : SqL K H a xs) (h : ∀ p, H p = none → Q (.ref p) (upd H p (.lst (cutV xs lo hi)))) : rSlB K (.ref a) lo hi H Q := .inl ⟨a, xs, rfl, ha, h⟩
theorem s_slb_str {K : PySem.W.Frag} {z : Str} {lo hi : Option Int} {H : Hp} {Q : VK} (hl : z.length ≤ sizeLine) (h : Q (.str (Txt.slice z lo hi)) H) : rSlB K (.str z) lo hi H Q := .inr (.inl ⟨z, rfl, hl, h⟩)
theorem s_slb_tup {K : PySem.W.Frag} {a : Addr} {xs : List V} {lo hi : Option Int} {H : Hp} {Q : VK} (ha : SqT K H a xs) (h : ∀ r H', Same H H' → SqT K H' r (cutV xs lo hi) → Q (.ref r) H') : rSlB K (.ref a) lo hi H Q := .inr (.inr ⟨a, xs, rfl, ha, h⟩)
/-! ### x += n -/
theorem s_aug {i : Nat} {te : TE} {ti : TIp} {D : Ends} {σ : St} {H : Hp} {x : V} (e : σ[i]? = some (some x)) (h : te σ H fun y H1 => ti x y H1 fun z H2 => D.nx (σ.set i (some z)) H2) : tAug i te ti D σ H := ⟨x, e, h⟩
theorem s_ipI {g : Int → Int → Int} {i j : Int} {H : Hp} {Q : VK} (h : Q (.int (g i j)) H) : ipI g (.int i) (.int j) H Q := ⟨i, j, rfl, rfl, h⟩
/-! ### cuts -/
theorem cutV_to (xs : List V) (k : Nat) : cutV xs none (some (k : Int)) = xs.take k := by
  unfold cutV
  rw [HT.sIx_none, HT.sIx_nat, Nat.sub_zero, List.drop_zero]
  by_cases h : k ≤ xs.length
  · rw [Nat.min_eq_left h]
  · rw [Nat.min_eq_right (by omega), List.take_of_length_le (Nat.le_refl _), List.take_of_length_le (by omega)]
theorem cutV_from (xs : List V) (k : Nat) : cutV xs (some (k : Int)) none = xs.drop k := by
  unfold cutV
  rw [HT.sIx_none, HT.sIx_nat]
  by_cases h : k ≤ xs.length
  · rw [Nat.min_eq_left h, List.take_of_length_le (by simp)]
  · rw [Nat.min_eq_right (by omega), List.drop_of_length_le (Nat.le_refl _), List.drop_of_length_le (by omega)]
    simp
theorem cutV_last (xs : List V) : cutV xs none (some (-1)) = xs.take (xs.length - 1) := by
  unfold cutV
  rw [HT.sIx_none, List.drop_zero]
  show xs.take ((if (-1 : Int) < 0 then ((-1 : Int) + (xs.length : Int)).toNat else min (-1 : Int).toNat xs.length) - 0) = _
  rw [if_pos (by decide)]
  congr 1
  omega
theorem cutV_fromto (xs : List V) (j k : Nat) : cutV xs (some (j : Int)) (some (k : Int)) = (xs.drop j).take (k - j) := by
  unfold cutV
  rw [HT.sIx_nat, HT.sIx_nat]
  by_cases hj : j ≤ xs.length
  · rw [Nat.min_eq_left hj]
    by_cases hk : k ≤ xs.length
    · rw [Nat.min_eq_left hk]
    · rw [Nat.min_eq_right (by omega), List.take_of_length_le (by simp), List.take_of_length_le (by simp; omega)]
  · rw [Nat.min_eq_right (Nat.le_of_lt (Nat.lt_of_not_le hj)), List.drop_of_length_le (Nat.le_refl _), List.drop_of_length_le (by omega)]
    simp
theorem cutV_map {α : Type} (f : α → V) (ns : List α) (lo hi : Option Int) : ∃ ms : List α, cutV (ns.map f) lo hi = ms.map f ∧ ms.length ≤ ns.length := by
  unfold cutV
  rw [← List.map_drop, ← List.map_take]
  refine ⟨_, rfl, ?_⟩
  rw [List.length_take, List.length_drop]
  omega
end L2

set_option Elab.async false
set_option linter.all false
set_option maxRecDepth 100000
set_option maxHeartbeats 4000000
namespace L2
open PySem PySem.Spec PyProof.Rows
/-! ### an exception leaves a frame: what moves -/
/-- all but xs is as it was, the frames fs up to their slots -/
structure Mvd (fs xs : List Addr) (h h' : Heap) : Prop where
  keep : ∀ b o, b ∉ xs → b ∉ fs → h.get? b = some o → h'.get? b = some o
  slot : ∀ b o, b ∉ xs → h.get? b = some o → ∃ sl, h'.get? b = some { o with slots := sl }
theorem Mvd.trans {fs xs : List Addr} {h h1 h2 : Heap} (a : Mvd fs xs h h1) (b : Mvd fs xs h1 h2) : Mvd fs xs h h2 :=
  ⟨fun c o n1 n2 e => b.keep c o n1 n2 (a.keep c o n1 n2 e), fun c o n e => by
    obtain ⟨sl, e1⟩ := a.slot c o n e
    obtain ⟨sl', e2⟩ := b.slot c _ n e1
    exact ⟨sl', e2⟩⟩
theorem Mvd.mono {fs xs ys : List Addr} {h h1 : Heap} (a : Mvd fs xs h h1) (s : ∀ b ∈ xs, b ∈ ys) : Mvd fs ys h h1 :=
  ⟨fun c o n1 n2 e => a.keep c o (fun z => n1 (s c z)) n2 e, fun c o n e => a.slot c o (fun z => n (s c z)) e⟩
theorem Mvd.upd {fs : List Addr} {h : Heap} {a : Addr} (f : Obj → Obj) : Mvd fs [a] h (h.update a f) :=
  ⟨fun c o n _ e => by rw [Heap.get?_update_other _ _ (fun z => n (by simp [z]))]; exact e, fun c o n e => ⟨o.slots, by rw [Heap.get?_update_other _ _ (fun z => n (by simp [z]))]; exact e⟩⟩
theorem Mvd.push {fs xs : List Addr} {h : Heap} (o : Obj) : Mvd fs xs h (h.push o) := ⟨fun _ _ _ _ e => Heap.get?_push_of_some _ e, fun _ o _ e => ⟨o.slots, Heap.get?_push_of_some _ e⟩⟩
theorem Mvd.fun {fs xs : List Addr} {h h1 base : Heap} {l : List Env} (a : Mvd fs xs h h1) (hl : h.FunFrames base l) (nx : ∀ b ∈ xs, ∃ o vs, h.get? b = some o ∧ o.data = .fields vs) : h1.FunFrames base l :=
  hl.of_keeps fun b o e hd => by
    obtain ⟨sl, e1⟩ := a.slot b o (fun z => by
      obtain ⟨o', vs, e', d'⟩ := nx b z
      rw [e] at e'
      cases e'
      exact hd vs d') e
    exact ⟨_, e1, rfl⟩
/-- an exception that lies at e: its class, its dict, its traceback at T, which flies in no frame (fl: or in that) -/
def LiesF (h : Heap) (e T : Addr) (cls : Value) (od : Option Addr) (fl : Value) : Prop :=
  ∃ oe vs oT ts, h.get? e = some oe ∧ oe.cls = cls ∧ oe.dict = od ∧ oe.data = .fields vs ∧ vs[1]? = some (.ref T) ∧ T ≠ e ∧ h.get? T = some oT ∧ oT.data = .fields ts ∧ ts[3]? = some fl
abbrev Lies (h : Heap) (e T : Addr) (cls : Value) (od : Option Addr) : Prop := LiesF h e T cls od .none
theorem LiesF.keeps {h h' : Heap} {e T : Addr} {cls fl : Value} {od : Option Addr} (x : LiesF h e T cls od fl) (k1 : ∀ o, h.get? e = some o → h'.get? e = some o) (k2 : ∀ o, h.get? T = some o → h'.get? T = some o) : LiesF h' e T cls od fl := by
  obtain ⟨oe, vs, oT, ts, a1, a2, a3, a4, a5, a6, a7, a8, a9⟩ := x
  exact ⟨oe, vs, oT, ts, k1 _ a1, a2, a3, a4, a5, a6, k2 _ a7, a8, a9⟩
/-- an exception just made -/
def Made (h : Heap) (e : Addr) (cls : Value) (od : Option Addr) : Prop := ∃ oe vs, h.get? e = some oe ∧ oe.cls = cls ∧ oe.dict = od ∧ oe.data = .fields vs ∧ vs[1]? = some .none
section
variable {M : Model} {A : Around} {E : Value → Shared → Prop} {s : Shared}
/-- an entry of the traceback is made, for the frame at L -/
theorem entry_at {base : Heap} {env : Env} {outer : List Env} {L e : Addr} {oe : Obj} {vs : Array Value} {head : Value} {hadNext : Bool} {Q : Unit → Shared → Prop}
    (hfr : A.frames = some (env :: outer)) (hl : s.heap.FunFrames base (env :: outer)) (hf : env.frame = some L) (he : s.heap.get? e = some oe) (hd : oe.data = .fields vs) (hsz : 1 < vs.size)
    (h : ∀ h' T, s.heap.objs.size ≤ T → LiesF h' e T oe.cls oe.dict (rawInt L) → Mvd (frs (env :: outer)) [e] s.heap h' → Q () { s with heap := h' }) :
    wpAny M A (do let a ← frameOf env; let pl ← entryPlaceOf L hadNext; let b ← EntryCells.newEntry head a .none (rawInt L) .none pl; setField (.ref e) 1 b) Q E s := by
  have hene : e ∉ frs (env :: outer) := fun hm => by
    obtain ⟨_, o, ho, hnf⟩ := hl.mem hm
    rw [he] at ho
    cases ho
    exact hnf vs hd
  refine wpAny_bind (wpAny_frameOf_fun hfr hl hf fun h₁ s1 => ?_)
  refine wpAny_bind (wpAny_entryPlaceOf fun pl hpl => ?_)
  unfold EntryCells.newEntry newFields
  refine wpAny_bind (wpAny_newObj_type ?_ (hpl.sizeOk5 _ _ _ _ _))
  have e1 : h₁.get? e = some oe := (s1.2.1 e hene).trans he
  generalize hoT : ({ cls := .type "traceback", dict := none, data := .fields ([head, .ref L, .none, rawInt L, .none] ++ (if pl.isEmpty then List.replicate 6 Value.none else pl)).toArray } : Obj) = oT
  have e2 : (h₁.push oT).get? e = some oe := Heap.get?_push_of_some _ e1
  refine wpAny_setField e2 hd hsz (h _ h₁.objs.size (by rw [s1.1]; exact Nat.le_refl _) ?_ ?_)
  · have nT : h₁.objs.size ≠ e := Nat.ne_of_gt (Heap.lt_size e1)
    have d3 := Obj.data_mapFields hd (·.setIfInBounds 1 (Value.ref h₁.objs.size))
    have e3 := Heap.get?_update_self (Obj.mapFields (·.setIfInBounds 1 (Value.ref h₁.objs.size))) e2 (Obj.isFreed_of_fields d3)
    have fT : oT.isFreed = false := by rw [← hoT]; rfl
    have e4 := (Heap.get?_update_other (h₁.push oT) (Obj.mapFields (·.setIfInBounds 1 (Value.ref h₁.objs.size))) (Ne.symm nT)).trans (Heap.get?_push_size h₁ fT)
    refine ⟨_, _, _, _, e3, Obj.cls_mapFields _ _, ?_, d3, by simp [hsz], nT, e4, by rw [← hoT], ?_⟩
    · obtain ⟨c0, d0, t0, s0⟩ := oe
      cases t0 <;> rfl
    · first | (simp; done) | (rcases hpl with rfl | ⟨_, _, _, _, _, _, _, rfl⟩ <;> simp)
  · have m1 : Mvd (frs (env :: outer)) [e] s.heap h₁ := ⟨fun b o _ n e => (s1.2.1 b n).trans e, fun b o _ e => s1.2.2 b o e⟩
    exact (m1.trans (Mvd.push oT)).trans (Mvd.upd _)
theorem flight_none {e T : Addr} {cls fl : Value} {od : Option Addr} {fs : List Addr} {Q : Unit → Shared → Prop} (x : LiesF s.heap e T cls od fl) (h : ∀ h', Lies h' e T cls od → Mvd fs [T] s.heap h' → Q () { s with heap := h' }) : wpAny M A (setFlight (.ref e) none) Q E s := by
  obtain ⟨oe, vs, oT, ts, a1, a2, a3, a4, a5, a6, a7, a8, a9⟩ := x
  have hz : 3 < ts.size := (Array.getElem?_eq_some_iff.mp a9).1
  unfold setFlight
  refine wpAny_bind (wpAny_field a1 a4 a5 ?_)
  rw [if_pos (show (Value.ref T != Value.none) = true from by simp)]
  refine wpAny_setField a7 a8 hz (h _ ?_ (Mvd.upd _))
  have d := Obj.data_mapFields a8 (·.setIfInBounds 3 ((none : Option Addr).elim Value.none fun f => rawInt f))
  exact ⟨oe, vs, _, _, by rw [Heap.get?_update_other _ _ a6]; exact a1, a2, a3, a4, a5, a6, Heap.get?_update_self _ a7 (Obj.isFreed_of_fields d), d, by simp [hz]⟩
/-- the frame is noted: the first time -/
theorem note_first {base : Heap} {env : Env} {outer : List Env} {L e : Addr} {cls : Value} {od : Option Addr} {Q : Unit → Shared → Prop}
    (hfr : A.frames = some (env :: outer)) (hl : s.heap.FunFrames base (env :: outer)) (hf : env.frame = some L) (x : Made s.heap e cls od)
    (h : ∀ h' T, s.heap.objs.size ≤ T → LiesF h' e T cls od (rawInt L) → Mvd (frs (env :: outer)) [e] s.heap h' → Q () { s with heap := h' }) : wpAny M A (noteFrame (.ref e) env) Q E s := by
  obtain ⟨oe, vs, he, rfl, rfl, hd, h1⟩ := x
  unfold noteFrame
  simp only [hf]
  refine wpAny_bind (wpAny_field he hd h1 ?_)
  rw [if_neg (by decide)]
  exact entry_at hfr hl hf he hd (Array.getElem?_eq_some_iff.mp h1).1 h
/-- the frame is noted: one more -/
theorem note_next {base : Heap} {env : Env} {outer : List Env} {L e T : Addr} {cls : Value} {od : Option Addr} {Q : Unit → Shared → Prop}
    (hfr : A.frames = some (env :: outer)) (hl : s.heap.FunFrames base (env :: outer)) (hf : env.frame = some L) (x : Lies s.heap e T cls od)
    (h : ∀ h' T', s.heap.objs.size ≤ T' → LiesF h' e T' cls od (rawInt L) → Mvd (frs (env :: outer)) [e, T] s.heap h' → Q () { s with heap := h' }) : wpAny M A (noteFrame (.ref e) env) Q E s := by
  obtain ⟨oe, vs, oT, ts, he, rfl, rfl, hd, h1, nT, hT, dT, h3⟩ := x
  unfold noteFrame
  simp only [hf]
  refine wpAny_bind (wpAny_field he hd h1 ?_)
  rw [if_pos (show (Value.ref T != Value.none) = true from by simp)]
  refine wpAny_bind (wpAny_field hT dT h3 ?_)
  rw [if_neg (show ¬ ((Value.none == rawInt L) = true) from by simp [rawInt])]
  refine wpAny_bind (wpAny_setField hT dT (Array.getElem?_eq_some_iff.mp h3).1 ?_)
  have m1 : Mvd (frs (env :: outer)) [T] s.heap (s.heap.update T (Obj.mapFields (·.setIfInBounds 3 Value.none))) := Mvd.upd _
  have he' : (s.heap.update T (Obj.mapFields (·.setIfInBounds 3 Value.none))).get? e = some oe := (Heap.get?_update_other _ _ nT).trans he
  refine entry_at hfr (m1.fun hl fun b hb => by rw [List.mem_singleton.mp hb]; exact ⟨oT, ts, hT, dT⟩) hf he' hd (Array.getElem?_eq_some_iff.mp h1).1 fun h' T' hz x m => ?_
  refine h h' T' ?_ x ((m1.mono (by simp)).trans (m.mono (by simp)))
  have : (s.heap.update T (Obj.mapFields (·.setIfInBounds 3 Value.none))).objs.size = s.heap.objs.size := Heap.size_after_update ..
  have hz : (s.heap.update T (Obj.mapFields (·.setIfInBounds 3 Value.none))).objs.size ≤ T' := hz
  omega
theorem leave_first {base : Heap} {env : Env} {outer : List Env} {L e : Addr} {cls : Value} {od : Option Addr} {Q : Unit → Shared → Prop}
    (hfr : A.frames = some (env :: outer)) (hl : s.heap.FunFrames base (env :: outer)) (hf : env.frame = some L) (x : Made s.heap e cls od)
    (h : ∀ h' T, s.heap.objs.size ≤ T → Lies h' e T cls od → Mvd (frs (env :: outer)) [e, T] s.heap h' → Q () { s with heap := h' }) : wpAny M A (leaving env (.ref e)) Q E s := by
  unfold leaving
  refine wpAny_bind (note_first hfr hl hf x fun h1 T hz y m => ?_)
  refine flight_none (fs := frs (env :: outer)) y fun h2 y2 m2 => h h2 T hz y2 ((m.mono (by simp)).trans (m2.mono (by simp)))
theorem leave_next {base : Heap} {env : Env} {outer : List Env} {L e T : Addr} {cls : Value} {od : Option Addr} {Q : Unit → Shared → Prop}
    (hfr : A.frames = some (env :: outer)) (hl : s.heap.FunFrames base (env :: outer)) (hf : env.frame = some L) (x : Lies s.heap e T cls od)
    (h : ∀ h' T', s.heap.objs.size ≤ T' → Lies h' e T' cls od → Mvd (frs (env :: outer)) [e, T, T'] s.heap h' → Q () { s with heap := h' }) : wpAny M A (leaving env (.ref e)) Q E s := by
  unfold leaving
  refine wpAny_bind (note_next hfr hl hf x fun h1 T' hz y m => ?_)
  refine flight_none (fs := frs (env :: outer)) y fun h2 y2 m2 => h h2 T' hz y2 ((m.mono (by simp)).trans (m2.mono (by simp)))
end
end L2

namespace L2
open PySem PySem.Spec PyProof.Rows
theorem qs_dead {X : Cx} {st : Stmt} : QS X st (fun _ _ _ => False) := ⟨fun _ _ _ _ _ _ h => h.elim⟩
end L2

set_option Elab.async false
set_option linter.all false
set_option maxRecDepth 100000
set_option maxHeartbeats 4000000
namespace L2
open PySem PySem.Spec PyProof.Rows
/-! ### != of tuples of numbers, whether they are alike or not -/
theorem all_eq_iff : ∀ (xs ys : List Int), ((List.range (min xs.length ys.length)).all (fun j => xs.getD j 0 == ys.getD j 0) && xs.length == ys.length) = decide (xs = ys) := by
  intro xs ys
  rw [Bool.eq_iff_iff, Bool.and_eq_true, List.all_eq_true, beq_iff_eq, decide_eq_true_iff]
  constructor
  · rintro ⟨h1, h2⟩
    apply List.ext_getElem h2
    intro i g1 g2
    have := h1 i (List.mem_range.mpr (by omega))
    rw [beq_iff_eq, List.getD_eq_getElem?_getD, List.getD_eq_getElem?_getD, List.getElem?_eq_getElem g1, List.getElem?_eq_getElem g2] at this
    exact this
  · rintro rfl
    exact ⟨fun j _ => by simp, rfl⟩
section
variable {X : Cx}
def rNeI (K : PySem.W.Frag) : R2 := fun x y H Q => ∃ (a c : Addr) (xs ys : List Int), x = .ref a ∧ y = .ref c ∧ SqT K H a (xs.map V.int) ∧ SqT K H c (ys.map V.int) ∧ Q (.bl (!decide (xs = ys))) H
theorem op_neI (hu : X.A.units + 200 < cLine) : OpR X (compareOp .NotEq) (rNeI X.K) := by
  intro pins s σ H x y v u Q I rx ry h
  obtain ⟨a, c, xs, ys, rfl, rfl, hx, hy, q⟩ := h
  cases rx
  cases ry
  obtain ⟨its, r1, p1, _⟩ := I.tuple hx
  obtain ⟨its2, r2, p2, _⟩ := I.tuple hy
  obtain ⟨us, e1, f1⟩ := vals_pairs r1
  obtain ⟨vs, e2, f2⟩ := vals_pairs r2
  have l1 : us.length = xs.length := by rw [← f1, List.length_map]
  have l2 : vs.length = ys.length := by rw [← f2, List.length_map]
  refine ne_tuplesAt (e := fun j => xs.getD j 0 == ys.getD j 0) (show s.heap.IsTuple a its.toArray from p1) (show s.heap.IsTuple c its2.toArray from p2) (by omega) (fun j h1 h2 => ?_) ?_
  · subst e1 e2
    simp only [List.size_toArray, List.length_map] at h1 h2
    have g1 : xs.getD j 0 = us[j].1 := by rw [← f1, List.getD_eq_getElem?_getD, List.getElem?_map, List.getElem?_eq_getElem h1]; rfl
    have g2 : ys.getD j 0 = vs[j].1 := by rw [← f2, List.getD_eq_getElem?_getD, List.getElem?_map, List.getElem?_eq_getElem h2]; rfl
    rw [g1, g2]
    simp only [List.getElem_toArray, List.getElem_map]
    exact SeqAt.EqAt.int_int _ _ _ _
  · have e : (!((List.range (min its.toArray.size its2.toArray.size)).all (fun j => xs.getD j 0 == ys.getD j 0) && its.toArray.size == its2.toArray.size)) = !decide (xs = ys) := by
      have z1 : its.toArray.size = xs.length := by rw [List.size_toArray, e1, List.length_map, l1]
      have z2 : its2.toArray.size = ys.length := by rw [List.size_toArray, e2, List.length_map, l2]
      rw [z1, z2, all_eq_iff]
    rw [e]
    exact ⟨.bl _, H, I, rfl, q⟩
def rNeB (K : PySem.W.Frag) : R2 := fun x y H Q => rNeA K x y H Q ∨ rNeI K x y H Q
theorem k_neB (K : PySem.W.Frag) (hu : X.A.units + 200 < cLine) (hK : X.K = K := by rfl) : OpR X (compareOp .NotEq) (rNeB K) := by subst hK; exact (op_neA hu).or (op_neI hu)
theorem s_neb {K : PySem.W.Frag} {x y : V} {H : Hp} {Q : VK} (hs : scal x y = true) (h : Q (.bl (!decide (x = y))) H) : rNeB K x y H Q := .inl (.inl ⟨hs, h⟩)
theorem s_nebD {K : PySem.W.Frag} {a c : Addr} {H : Hp} {Q : VK} {n : Nat} {d : Dt} (hn : n ≤ 190) (hx : IsD K H n (.ref a) d) (hy : IsD K H n (.ref c) d) (h : Q (.bl false) H) : rNeB K (.ref a) (.ref c) H Q := .inl (s_neD hn hx hy h)
theorem s_nebI {K : PySem.W.Frag} {a c : Addr} {xs ys : List Int} {H : Hp} {Q : VK} (hx : SqT K H a (xs.map V.int)) (hy : SqT K H c (ys.map V.int)) (h : Q (.bl (!decide (xs = ys))) H) : rNeB K (.ref a) (.ref c) H Q := .inr ⟨a, c, xs, ys, rfl, rfl, hx, hy, h⟩
end
end L2

set_option Elab.async false
set_option linter.all false
set_option maxRecDepth 100000
set_option maxHeartbeats 4000000
namespace L2
open PySem PySem.Spec PyProof.Rows
/-! ### an exception behind a call: a traced record, untracked; its class, its dict -/
def CXR (P : Program) (w : World) : CXT := fun outer H s E ev s' => ∃ (e T : Addr) (cls : Value) (od : Option Addr) (H' : Hp), ev = .ref e ∧ s'.os = s.os ∧ AllBare s'.gens ∧ Un (frs outer) [] H H' s.heap s'.heap ∧ HOk P w H' s'.heap ∧
  s.heap.get? e = none ∧ s.heap.get? T = none ∧ H' e = none ∧ H' T = none ∧ Lies s'.heap e T cls od ∧ E cls od H'
theorem FunFrames.slots {h h' base : Heap} : ∀ {l : List Env}, h.FunFrames base l → (∀ b ∈ frs l, ∀ o, h.get? b = some o → ∃ sl, h'.get? b = some { o with slots := sl }) → h'.FunFrames base l
  | [], _, _ => trivial
  | env :: rest, hl, k => by
    obtain ⟨hk, ⟨L, o, hf, hn, ho, hd⟩, hr⟩ := hl
    have hm : L ∈ frs (env :: rest) := by unfold frs; rw [List.filterMap_cons, hf]; exact List.mem_cons_self
    obtain ⟨sl, e⟩ := k L hm o ho
    refine ⟨hk, ⟨L, _, hf, hn, e, hd⟩, FunFrames.slots hr fun b hb => k b ?_⟩
    unfold frs
    rw [List.filterMap_cons, hf]
    exact List.mem_cons_of_mem _ hb
section
variable {X : Cx} {pins : List (Addr × Obj)} {σ : St} {H : Hp} {s : Shared}
theorem Inv.old (I : Inv X pins σ H s) (hex : X.ex = []) {b : Addr} (h : s.heap.get? b = none) : X.s₀.heap.get? b = none := by
  cases q : X.s₀.heap.get? b with
  | none => rfl
  | some o =>
    obtain ⟨o', e⟩ := I.base.there b o q (by rw [hex]; simp)
    rw [h] at e
    cases e
/-- what an exception's records may move: nothing that is tracked, nothing of the caller's but its frames' slots -/
theorem Inv.mvd (I : Inv X pins σ H s) {h' : Heap} {xs : List Addr} (m : Mvd (frs X.stack) xs s.heap h') (hx : ∀ b ∈ xs, X.s₀.heap.get? b = none ∧ H b = none) (hex : X.ex = []) : Un X.fs [] X.H₀ H X.s₀.heap h' ∧ HOk X.prog X.w H h' := by
  have low : ∀ b o, X.s₀.heap.get? b = some o → b ∉ xs := fun b o e hb => by rw [(hx b hb).1] at e; cases e
  have neL : ∀ b o, X.s₀.heap.get? b = some o → b ≠ X.env.locals := fun b o e => Nat.ne_of_lt (Nat.lt_of_lt_of_le (Heap.lt_size e) I.ok.above)
  have nst : ∀ b o, X.s₀.heap.get? b = some o → b ∉ X.fs → b ∉ frs X.stack := fun b o e hf hs => by
    rcases I.ok.stk with z | ⟨z, z2⟩
    · rw [z] at hs; exact hf hs
    · rw [z] at hs
      unfold frs at hs
      rw [List.filterMap_cons, z2] at hs
      rcases List.mem_cons.mp hs with q | q
      · exact neL b o e q
      · exact hf q
  have B := I.base
  rw [hex] at B
  refine ⟨⟨fun b o e n hf _ => ?_, fun b o e n hf _ => ?_, fun b o e n _ => B.free b o e n (by simp), fun b o e _ => ?_, B.tups, B.frzs, B.tbls⟩, fun b u e => ?_⟩
  · exact m.keep b o (low b o e) (nst b o e hf) (B.keep b o e n hf (by simp))
  · obtain ⟨sl, e1⟩ := B.slot b o e n hf (by simp)
    obtain ⟨sl', e2⟩ := m.slot b _ (low b o e) e1
    exact ⟨sl', e2⟩
  · obtain ⟨o', e1⟩ := B.there b o e (by simp)
    obtain ⟨sl, e2⟩ := m.slot b o' (low b o e) e1
    exact ⟨_, e2⟩
  · have tr : ∀ c v, H c = some v → c ∉ xs ∧ c ∉ frs X.stack := fun c v q => ⟨(fun z => by rw [(hx c z).2] at q; cases q), (fun z => by rw [I.stkFree c z] at q; cases q)⟩
    refine (I.hok b u e).stay (fun c v hc q => m.keep c v ?_ ?_ q) (fun _ q => q) fun _ _ q => q
    · rcases hc with z | z
      · rw [z]; exact (tr b u e).1
      · exact (tr c _ z).1
    · rcases hc with z | z
      · rw [z]; exact (tr b u e).2
      · exact (tr c _ z).2
end
section
variable {P : Program} {w : World} {K : PySem.W.Frag} {mg : Str → Option Value} {base : Heap} {N : List Str} {qual : Str} {scope : Scope} {f : Addr} {cd : Value} {A : Around} {outer : List Env} {s0 : Shared} {H0 : Hp} {E : XK}
/-- a callee's exception passes through this def -/
theorem passes_cx {E' : XK} (h : ∀ cls od H', E' cls od H' → E cls od H') : Passes (CXR P w) (cxOf (CXR P w) P w K mg base N qual scope f cd A outer s0 H0 E) E' := by
  intro pins σ H s ev s' I c
  obtain ⟨e, T, cls, od, H', rfl, h1, h2, h3, h4, h5, h6, h7, h8, h9, h10⟩ := c
  have J : Inv (cxOf (CXR P w) P w K mg base N qual scope f cd A outer s0 H0 E) pins σ H' s' := I.call' (ch := []) h1 h3 h4 h2 (fun b z => absurd z (by simp))
  refine leave_next (base := base) (outer := outer) (L := s0.heap.objs.size) J.ok.frames J.stack rfl h9 fun h' T' hT' y m => ?_
  obtain ⟨u, ok⟩ := J.mvd (h' := h') m (fun b hb => by
    simp only [List.mem_cons, List.not_mem_nil, or_false] at hb
    rcases hb with rfl | rfl | rfl
    · exact ⟨I.old rfl h5, h7⟩
    · exact ⟨I.old rfl h6, h8⟩
    · exact ⟨J.old rfl (Heap.get?_none_of_le hT'), J.hok.fresh hT'⟩) rfl
  exact ⟨e, T', cls, od, H', rfl, J.os, J.bare, u, ok, I.old rfl h5, J.old rfl (Heap.get?_none_of_le hT'), h7, J.hok.fresh hT', y, h _ _ _ h10⟩
/-- an exception raised here -/
theorem raises_cx {pins : List (Addr × Obj)} {σ : St} {H : Hp} {s : Shared} {e : Addr} {cls : Value} {od : Option Addr} (I : Inv (cxOf (CXR P w) P w K mg base N qual scope f cd A outer s0 H0 E) pins σ H s) (x : Made s.heap e cls od) (he : s0.heap.get? e = none) (hn : H e = none) (h : E cls od H) :
    (cxOf (CXR P w) P w K mg base N qual scope f cd A outer s0 H0 E).xe (.ref e) s := by
  refine leave_first (base := base) (outer := outer) (L := s0.heap.objs.size) I.ok.frames I.stack rfl x fun h' T hT y m => ?_
  obtain ⟨u, ok⟩ := I.mvd (h' := h') m (fun b hb => by
    simp only [List.mem_cons, List.not_mem_nil, or_false] at hb
    rcases hb with rfl | rfl
    · exact ⟨he, hn⟩
    · exact ⟨I.old rfl (Heap.get?_none_of_le hT), I.hok.fresh hT⟩) rfl
  exact ⟨e, T, cls, od, H, rfl, I.os, I.bare, u, ok, he, I.old rfl (Heap.get?_none_of_le hT), hn, I.hok.fresh hT, y, h⟩
end
end L2

set_option Elab.async false
set_option linter.all false
set_option maxRecDepth 100000
set_option maxHeartbeats 4000000
namespace L2
open PySem PySem.Spec PyProof.Rows
/-! ### a def that may raise -/
section
variable {P : Program} {w : World} {K : PySem.W.Frag} {mg : Str → Option Value} {base : Heap}
theorem Fun.okx {x qual : Str} {st : Stmt} {f : Addr} {fd : FuncData} {N ps : List Str} {k : Nat} {sp : Sp} (F : Fun K x qual st f fd) (S : FnScope N ps (defScope st)) (len : ∀ vs H Q E, sp vs H Q E → vs.length = ps.length)
    (hbody : ∀ (cdv : Value) (A : Around) (outer : List Env) (s : Shared) (H : Hp) (vs : List V) (Q : VK) (E : XK), Room k (A.deeper (envOfC qual (defScope st) s.heap.objs.size f cdv)) → sp vs H Q E →
      ∃ t, QSs (cxOf (CXR P w) P w K mg base N qual (defScope st) f cdv A outer s H E) (defBody st) t ∧ t { nx := fun _ H' => Q .non H', rt := Q } (start N vs) H) : FnOk P w K mg base (CXR P w) (k + 1) f fd ps sp := by
  obtain ⟨oc, od, kV, doc, pm, an, cdv, ct, osl, rfl, lk, hcd⟩ := F.ex
  refine fn_of lk hcd S len fun A outer s H vs Q E hr hsp => ?_
  obtain ⟨t, h, q⟩ := hbody cdv A outer s H vs Q E hr hsp
  exact ⟨t, h.run, q⟩
structure CalleeX (P : Program) (w : World) (K : PySem.W.Frag) (mg : Str → Option Value) (base : Heap) (k : Nat) (x : Str) (ps : List Str) (sp : Sp) : Prop where
  ex : ∃ (f : Addr) (fd : FuncData), FnOk P w K mg base (CXR P w) k f fd ps sp ∧ mg x = some (.ref f) ∧ PySem.W.keepIn K (.ref f) = true ∧ Binds K fd ps []
theorem calleex_of {k : Nat} {x : Str} {ps : List Str} {sp : Sp} {f : Addr} {fd : FuncData} (F : FnOk P w K mg base (CXR P w) k f fd ps sp) (m : mg x = some (.ref f)) (kp : PySem.W.keepIn K (.ref f) = true) (b : Binds K fd ps []) : CalleeX P w K mg base k x ps sp := ⟨f, fd, F, m, kp, b⟩
end
section
variable {X : Cx} {k : Nat} {x : Str} {ps : List Str} {sp : Sp} {p pos np cpos : Pos} {e : Expr} {es : List Expr} {t : TA} {E : XK}
theorem qe_fnx (C : CalleeX X.prog X.w X.K X.mg X.base k x ps sp) (hr : Room k X.A) (hx : Passes (CXR X.prog X.w) X E) (ha : QA X (e :: es) t) (hg : Gl X x := by rfl) (hdb : (x == ("__debug__" : Str)) = false := by decide)
    (he : starEach (e :: es) X.env = (false, eval e X.env) :: starEach es X.env := by rfl) (hpl : (backTo pos (starEach es X.env)).any (·.1) = false := by rfl) : QE X (.Call (.Name x p) (e :: es) [] pos) (tCall sp [] E t) := by
  obtain ⟨f, fd, F, hm, hk, hb⟩ := C.ex
  exact ⟨pe_call F hr hg hm hk hb .nil hx ha.run hdb he hpl⟩
/-! ### raise C(..), an own class without __init__ -/
abbrev VE : List Value := [.type "ValueError", .type "Exception", .type "BaseException", .type "object"]
/-- an exception that is made here is what is wished -/
def Raises (X : Cx) (E : XK) : Prop := ∀ (pins : List (Addr × Obj)) (σ : St) (H : Hp) (s : Shared) (a : Addr) (cls : Value) (od : Option Addr), Inv X pins σ H s → Made s.heap a cls od → X.s₀.heap.get? a = none → H a = none → E cls od H → X.xe (.ref a) s
theorem exc_in {K : PySem.W.Frag} {h0 : Heap} {C : Addr} (kin0 : K.In h0) (q : PySem.W.excIn K C VE "ValueError.__new__" = true) :
    ∃ bm N nm q bs hdct sn sub ab col dd k0 k1 k2 k3 k5 mN, mN "__init__" = none ∧ ∀ h : Heap, K.In h → h.get? C = some (excClassObj nm q C N bs bm hdct sn sub ab col dd k0 k1 k2 k3 k5 "ValueError.__new__") ∧ h.Ns N mN ∧ OwnTail h VE bm := by
  unfold PySem.W.excIn at q
  split at q
  · rename_i dd cd sl ho
    split at q
    · rename_i C' bm k0 k1 k2 k3 n k5 hm hs
      simp only [Bool.and_eq_true, beq_iff_eq, Bool.not_eq_true'] at q
      obtain ⟨⟨⟨⟨⟨rfl, rfl⟩, hdel⟩, ht⟩, hok⟩, hni⟩ := q
      obtain ⟨nm, bs, mro, ns, qn, hd, sn, sub, ab, col, del⟩ := cd
      dsimp only at hm hdel hok hni
      subst hm hdel
      have hsl : sl = #[k0, k1, k2, k3, some (.builtin "ValueError.__new__"), k5] := by
        obtain ⟨l⟩ := sl
        simp only at hs
        rw [hs]
      subst hsl
      have n0 : h0.Ns ns (h0.nsMap ns) := .of_isNs (PySem.W.isNs_of_in kin0 hok)
      refine ⟨bm, ns, nm, qn, bs, hd, sn, sub, ab, col, dd, k0, k1, k2, k3, k5, h0.nsMap ns, PySem.W.nsMap_none_of_in kin0 hok hni, fun h kin => ⟨kin _ _ ho, ?_, PySem.W.tail_of_in kin ht⟩⟩
      obtain ⟨o, es, ep, e, r⟩ := n0
      refine ⟨o, es, ep, ?_, r⟩
      unfold PySem.W.nsOkIn at hok
      split at hok
      · rename_i hl
        have := kin0 _ _ hl
        rw [e] at this
        cases this
        exact kin _ _ hl
      · cases hok
    · cases q
  · cases q
theorem ObjOk.there {P : Program} {w : World} {H : Hp} {h : Heap} {a : Addr} {o : HO} (x : ObjOk P w H h a o) : ∃ u, h.get? a = some u := by
  induction o with
  | lst xs => obtain ⟨_, _, _, _, e⟩ := x; exact ⟨_, e⟩
  | tup xs => obtain ⟨_, _, _, o, e, _⟩ := x; exact ⟨_, e⟩
  | dK kvs => obtain ⟨_, _, vs, _, d⟩ := x; obtain ⟨o, e, _⟩ := Heap.dictOf_iff.mp d; exact ⟨_, e⟩
  | dT kvs => obtain ⟨_, _, _, _, o, _, _, e, _⟩ := x; exact ⟨_, e⟩
  | set S n => obtain ⟨o, _, _, _, e, _⟩ := x; exact ⟨_, e⟩
  | ins C dx fs => obtain ⟨_, _, _, e, _⟩ := x; exact ⟨_, e⟩
  | own y => exact x
  | xd fs => obtain ⟨_, ⟨o, _, _, e, _⟩, _⟩ := x; exact ⟨_, e⟩
  | met f y => exact ⟨_, x⟩
  | rng lo hi => obtain ⟨_, _, _, e⟩ := x; exact ⟨_, e⟩
  | frz o u _ => exact ⟨_, x.1⟩
  | tbl ps => exact ⟨_, x⟩
  | ext φ => exact x.2.1
theorem HOk.no {P : Program} {w : World} {H : Hp} {h : Heap} (x : HOk P w H h) {a : Addr} (e : h.get? a = none) : H a = none := by
  cases q : H a with
  | none => rfl
  | some u =>
    have z := (x a u q).there
    rw [e] at z
    obtain ⟨o, z⟩ := z
    cases z
theorem qs_raise {C : Addr} {a : Expr} (hc : X.calm = true) (hC : PySem.W.excIn X.K C VE "ValueError.__new__" = true) (G : X.mg x = some (.ref C)) (ha : QA X [a] t) (hx : Raises X E) (hex : X.ex = []) (hg : Gl X x := by rfl) (hdb : (x == ("__debug__" : Str)) = false := by decide)
    (he : starEach [a] X.env = [(false, eval a X.env)] := by rfl) : QS X (.Raise (some (.Call (.Name x np) [a] [] cpos)) none pos) (fun D σ H => t σ H fun vs H1 => vs.length ≤ sizeLine ∧ E (.ref C) none H1) := by
  refine ⟨fun pins s σ H D I h => ?_⟩
  obtain ⟨bm, N, nm, q, bs, hdct, sn, sub, ab, col, dd, k0, k1, k2, k3, k5, mN, cni, cl⟩ := exc_in I.kIn hC
  obtain ⟨cC, cN, cT⟩ := cl _ I.kIn
  refine wpAny_Raise_call_subU (C := C) (nm := nm) (q := q) (N := N) (bs := bs) (bm := bm) (hdct := hdct) (sn := sn) (sub := sub) (ab := ab) (col := col) (dd := dd) (k0 := k0) (k1 := k1) (k2 := k2) (k3 := k3) (k5 := k5)
    PySem.F.excBase_ValueError (by decide) PySem.F.excBase_ValueError (mN := mN) (cT.hasType PySem.F.excBase_ValueError.hasBase) (I.ok.hd hc) (by rw [he]; rfl) cni (ld_glob I hg G ⟨rfl, ?_⟩ hdb)
  rw [he]
  have ar := ha.run cpos pins s σ H _ I h
  rw [he] at ar
  refine Calls.evalArgs_plain (wpAny_mono ar (fun us s2 h2 => ?_) fun _ _ y => y)
  obtain ⟨vs, H1, I1, r1, z, q1⟩ := h2
  obtain ⟨cC', cN', cT'⟩ := cl _ I1.kIn
  refine ⟨rfl, by rw [← r1.length]; exact z, cC', cN', cT', fun h' a' hm => ?_⟩
  obtain ⟨t', e1, _, _⟩ := hm.there
  have I2 : Inv X pins σ H1 { s2 with heap := h' } := I1.kept (t' := s2.toks) hm.keeps
  exact hx pins σ H1 _ a' (.ref C) none I2 ⟨_, _, e1, rfl, rfl, rfl, rfl⟩ (I1.old hex hm.new) (I1.hok.no hm.new) q1
end
end L2

set_option Elab.async false
set_option linter.all false
set_option maxRecDepth 100000
set_option maxHeartbeats 4000000
namespace L2
open PySem PySem.Spec PyProof.Rows
/-! ### an exception that is held: its class, its dict -/
def exk (a : Addr) (cls : Value) (od : Option Addr) : HO := .ext fun h => ∃ o vs, h.get? a = some o ∧ o.cls = cls ∧ o.dict = od ∧ o.data = .fields vs
theorem exk_ok {P : Program} {w : World} {H : Hp} {h : Heap} {a T : Addr} {cls : Value} {od : Option Addr} (x : Lies h a T cls od) : ObjOk P w H h a (exk a cls od) := by
  obtain ⟨oe, vs, oT, ts, a1, a2, a3, a4, a5, a6, a7, a8, a9⟩ := x
  refine ⟨⟨oe, vs, a1, a2, a3, a4⟩, ⟨oe, a1⟩, fun h1 h2 q k => ?_⟩
  obtain ⟨o, vs, q1, q2⟩ := q
  exact ⟨o, vs, k o q1, q2⟩
theorem Un.land {fs xs : List Addr} {H H' : Hp} {h h1 h2 : Heap} {e : Addr} {o : HO} (u : Un fs [] H H' h h1) (m : Mvd fs xs h1 h2) (hx : ∀ b ∈ xs, h.get? b = none) (he : h.get? e = none) (hn : H' e = none) : Un fs [] H (upd H' e o) h h2 := by
  have low : ∀ b ob, h.get? b = some ob → b ∉ xs := fun b ob q z => by rw [hx b z] at q; cases q
  have ne : ∀ b ob, h.get? b = some ob → b ≠ e := fun b ob q z => by rw [z, he] at q; cases q
  have ne' : ∀ b ob, H' b = some ob → b ≠ e := fun b ob q z => by rw [z, hn] at q; cases q
  refine ⟨fun b ob q n hf _ => m.keep b ob (low b ob q) hf (u.keep b ob q n hf (by simp)), fun b ob q n hf _ => ?_, fun b ob q n _ => ?_, fun b ob q _ => ?_, fun b ys q => ?_, fun b ob v q => ?_, fun b ps q => ?_⟩
  · obtain ⟨sl, e1⟩ := u.slot b ob q n hf (by simp)
    obtain ⟨sl', e2⟩ := m.slot b _ (low b ob q) e1
    exact ⟨sl', e2⟩
  · rw [upd_ne (ne b ob q)]; exact u.free b ob q n (by simp)
  · obtain ⟨o', e1⟩ := u.there b ob q (by simp)
    obtain ⟨sl, e2⟩ := m.slot b o' (low b ob q) e1
    exact ⟨_, e2⟩
  · have z := u.tups b ys q
    rw [upd_ne (ne' b _ z)]; exact z
  · have z := u.frzs b ob v q
    rw [upd_ne (ne' b _ z)]; exact z
  · obtain ⟨more, z⟩ := u.tbls b ps q
    exact ⟨more, by rw [upd_ne (ne' b _ z)]; exact z⟩
theorem HOk.land {P : Program} {w : World} {fs xs : List Addr} {H : Hp} {h1 h2 : Heap} {e : Addr} {o : HO} (x : HOk P w H h1) (m : Mvd fs xs h1 h2) (hx : ∀ b ∈ xs, H b = none) (hf : ∀ b ∈ fs, H b = none) (hn : H e = none) (new : ObjOk P w (upd H e o) h2 e o) : HOk P w (upd H e o) h2 := by
  intro b u q
  by_cases hb : b = e
  · subst hb
    rw [upd_same] at q
    cases q
    exact new
  · rw [upd_ne hb] at q
    have tr : ∀ c v, H c = some v → c ∉ xs ∧ c ∉ fs := fun c v q => ⟨(fun z => by rw [hx c z] at q; cases q), (fun z => by rw [hf c z] at q; cases q)⟩
    have ne' : ∀ b ob, H b = some ob → b ≠ e := fun b ob q z => by rw [z, hn] at q; cases q
    refine (x b u q).stay (fun c v hc z => ?_) (fun c z => by rw [upd_ne (ne' c _ z)]; exact z) fun c ys z => by rw [upd_ne (ne' c _ z)]; exact z
    rcases hc with r | r
    · rw [r] at z ⊢
      exact m.keep b v (tr b u q).1 (tr b u q).2 z
    · exact m.keep c v (tr c _ r).1 (tr c _ r).2 z
/-! ### expressions and statements that may raise: the names stay known -/
abbrev TX := St → Hp → VK → XK → Prop
abbrev TXS := Ends → (St → XK) → St → Hp → Prop
def XP (X : Cx) (pins : List (Addr × Obj)) (σ : St) (E : XK) (ev : Value) (s' : Shared) : Prop := ∃ H0 s0, Inv X pins σ H0 s0 ∧ CXR X.prog X.w X.stack H0 s0 E ev s'
structure QX (X : Cx) (e : Expr) (t : TX) : Prop where
  run : ∀ (pins : List (Addr × Obj)) (s : Shared) (σ : St) (H : Hp) (Q : VK) (E : XK), Inv X pins σ H s → t σ H Q E → wpAny (model X.prog X.w) X.A (eval e X.env) (EP X pins σ Q) (XP X pins σ E) s
structure QXS (X : Cx) (sts : List Stmt) (t : TXS) : Prop where
  run : ∀ (pins : List (Addr × Obj)) (s : Shared) (σ : St) (H : Hp) (D : Ends) (E : St → XK), Inv X pins σ H s → t D E σ H → wpAny (model X.prog X.w) X.A (execs sts X.env) (SP X pins D) (fun ev s' => ∃ σ', XP X pins σ' (E σ') ev s') s
/-- the same place, other ends of exceptions -/
abbrev Cx.to (X : Cx) (A : Around) (c : Bool) (XE : Value → Shared → Prop) : Cx := { X with A := A, calm := c, xe := XE }
section
variable {X : Cx} {pins : List (Addr × Obj)} {σ : St} {H : Hp} {s : Shared}
theorem Inv.to (I : Inv X pins σ H s) {A : Around} {c : Bool} {XE : Value → Shared → Prop} (hA : A.frames = X.A.frames) (hc : c = true → A.handled = none) : Inv (X.to A c XE) pins σ H s :=
  ⟨⟨I.ok.mod, I.ok.kind, I.ok.glob, I.ok.blt, I.ok.above, I.ok.inj, I.ok.has, I.ok.cab, hc, hA.trans I.ok.frames, I.ok.stk, I.ok.exf, I.ok.bs, I.ok.bsz, I.ok.noex, I.ok.exfs, I.ok.funs, I.ok.frf⟩, I.os, I.bare, I.base, I.loc, I.cell, I.free, I.freeC, I.pin, I.hok, I.len⟩
theorem Inv.back {A : Around} {c : Bool} {XE : Value → Shared → Prop} (I : Inv (X.to A c XE) pins σ H s) (ok : X.Ok) : Inv X pins σ H s :=
  ⟨ok, I.os, I.bare, I.base, I.loc, I.cell, I.free, I.freeC, I.pin, I.hok, I.len⟩
end
section
variable {X : Cx} {k : Nat} {x : Str} {ps : List Str} {sp : Sp} {p pos np cpos : Pos} {e : Expr} {es : List Expr} {t : TA}
theorem qx_fn (C : CalleeX X.prog X.w X.K X.mg X.base k x ps sp) (hr : Room k X.A) (ha : ∀ XE, QA (X.to X.A X.calm XE) (e :: es) t) (hg : Gl X x := by rfl) (hdb : (x == ("__debug__" : Str)) = false := by decide)
    (he : starEach (e :: es) X.env = (false, eval e X.env) :: starEach es X.env := by rfl) (hpl : (backTo pos (starEach es X.env)).any (·.1) = false := by rfl) : QX X (.Call (.Name x p) (e :: es) [] pos) (fun σ H Q E => t σ H fun vs H1 => sp vs H1 Q E) := by
  obtain ⟨f, fd, F, hm, hk, hb⟩ := C.ex
  refine ⟨fun pins s σ H Q E I h => ?_⟩
  refine wpAny_Call_Name_kw (ld_glob I hg hm ?_ hdb)
  refine PySem.W.callWith_K (h₀ := X.base) I.ok.mod.kin hk (thn ((ha (XP X pins σ E)).run pos pins s σ H _ (I.to rfl I.ok.hd) h) fun us s1 ⟨vs, H1, I1, r, q⟩ => ⟨(I1.back I.ok).kIn, ?_⟩) he hpl
  have I1 := I1.back I.ok
  have hl : us.length = ps.length := by rw [← r.length]; exact F.len _ _ _ _ q
  have hb' := hb s1 us I1.kIn (by simpa using hl)
  rw [List.append_nil] at hb'
  refine wpAny_call (codeAny_mono (F.run X.A X.stack s1 H1 ⟨us, []⟩ us vs Q E hr I1.env0 hb' r q) fun r s' hq => ?_)
  cases r with
  | error e => exact ⟨H1, s1, I1, hq⟩
  | ok fl =>
    cases fl with
    | ret u => exact I1.after hq
    | next => exact False.elim hq
    | brk => exact False.elim hq
    | cont => exact False.elim hq
theorem qxs_expr {t : TX} (he : QX X e t) (hs : swapsWith e none pos.line X.env = pure false := by rfl) : QXS X [.Expr e pos] (fun D E σ H => t σ H (fun _ H1 => D.nx σ H1) (E σ)) := by
  refine ⟨fun pins s σ H D E I h => ?_⟩
  refine wpAny_execs_cons (wpAny_mono (wpAny_Expr_any (Q := SP X pins D) (thn (he.run pins s σ H _ (E σ) I h) fun v s1 ⟨x, H1, I1, r1, q1⟩ => ⟨σ, H1, I1, q1⟩) I.quiet hs) (fun f s1 q => ?_) fun ev s1 q => ⟨σ, q⟩)
  cases f with
  | next => exact wpAny_execs_nil q
  | ret v => exact q
  | brk => exact q
  | cont => exact q
theorem qxs_set {i : Nat} {t : TX} {pos' : Pos} (hN : X.N.Nodup) (hi : X.N[i]? = some x) (hx : Loc X.env.scope x) (he : QX X e t) (hs : swapsWith e (some (.Name x pos')) pos.line X.env = pure false := by rfl) (hf : X.fn x = true ∨ X.env.scope.names.lookup x = some .local := by first | exact .inl rfl | exact .inr rfl | assumption) :
    QXS X [.Assign [.Name x pos'] e pos] (fun D E σ H => t σ H (fun v H1 => D.nx (σ.set i (some v)) H1) (E σ)) := by
  refine ⟨fun pins s σ H D E I h => ?_⟩
  refine wpAny_execs_cons (wpAny_mono (wpAny_Assign_Name (Q := SP X pins D) (thn (he.run pins s σ H _ (E σ) I h) fun v s1 ⟨y, H1, I1, r1, q1⟩ => store_ok I1 hN hi hx r1 (fun s2 I2 => ⟨_, H1, I2, q1⟩) hf) hs) (fun f s1 q => ?_) fun ev s1 q => ⟨σ, q⟩)
  cases f with
  | next => exact wpAny_execs_nil q
  | ret v => exact q
  | brk => exact q
  | cont => exact q
end
end L2

set_option Elab.async false
set_option linter.all false
set_option maxRecDepth 100000
set_option maxHeartbeats 4000000
namespace L2
open PySem PySem.Spec PyProof.Rows
/-! ### try: .. except C as n: .. -/
/-- the class at C, and that an exception class -/
structure ExcC (K : PySem.W.Frag) (C : Addr) : Prop where
  ty : PySem.W.typeIn K (.ref C) = some (.type "type")
  cl : (PySem.W.clsIn K C).isSome = true
  bs : PySem.W.subIn K (.ref C) (.type "BaseException") = some true
theorem looks_isType {K : PySem.W.Frag} {M : Model} {h : Heap} {C : Addr} (X : K.In h) (e : (PySem.W.clsIn K C).isSome = true) : PySem.W.Looks M h (isType (.ref C)) true := by
  unfold PySem.W.clsIn at e
  split at e
  · rename_i c' d' cd' sl' ho
    intro A' Q' E' s' k q
    unfold isType loadHead
    exact wpAny_bind (wpAny_loadPart (k _ _ (X _ _ ho)) (wpAny_pure q))
  · cases e
theorem exc_matches {K : PySem.W.Frag} {M : Model} {A : Around} {E : Value → Shared → Prop} {s : Shared} {Q : Bool → Shared → Prop} {e C C' : Addr} {oe : Obj} (X : K.In s.heap) (c : ExcC K C) (he : s.heap.get? e = some oe) (hcls : oe.cls = .ref C') (hs : PySem.W.subIn K (.ref C') (.ref C) = some true) (h : Q true s) :
    wpAny M A (excMatches (.ref e) (.ref C)) Q E s := by
  have L1 : PySem.W.Looks M s.heap (typeOf (.ref C)) (.type "type") := PySem.W.looks_typeIn X c.ty
  have L2 : PySem.W.Looks M s.heap (isType (.ref C)) true := looks_isType X c.cl
  have L3 := PySem.W.looks_subIn (M := M) X c.bs
  have L4 : PySem.W.Looks M s.heap (typeOf (.ref e)) (.ref C') := by
    intro A' Q' E' s' k q
    unfold typeOf
    exact wpAny_bind (wpAny_loadPart (k _ _ he) (wpAny_pure (by rw [hcls]; exact q)))
  have L5 := PySem.W.looks_subIn (M := M) X hs
  have f := tc_notTuple
  unfold excMatches
  unfold isInstance isExcClass
  repeat (first | with_reducible refine L1.here ?_ | with_reducible refine L2.here ?_ | with_reducible refine L3.here ?_ | with_reducible refine L4.here ?_ | with_reducible refine L5.here ?_ | wp_step)
  exact h
section
variable {X : Cx} {pins : List (Addr × Obj)} {σ : St} {H : Hp} {s : Shared}
/-- a local name goes -/
theorem goes_ok {M : Model} {A : Around} {E : Value → Shared → Prop} {i : Nat} {n : Str} {hpos : Pos} {Q : Unit → Shared → Prop} (I : Inv X pins σ H s) (hN : X.N.Nodup) (hi : X.N[i]? = some n) (hk : X.env.scope.names.lookup n = some .local)
    (h : ∀ s', Inv X pins (σ.set i none) H s' → Q () s') : wpAny M A (do bindName X.env n .none; unbindBehindTheSuite X.env n hpos) Q E s := by
  obtain ⟨m, hn, hl⟩ := id I.loc
  have hcls : (X.env.scope.kind == .class || (X.env.scope.kind == .module && X.env.locals != X.env.globals)) = false := by rw [I.ok.kind]; rfl
  have cne := I.cne
  obtain ⟨oL, _, _, hoL, _⟩ := id hn
  refine wpAny_nameGoes_keeps hk hn hcls fun h' v hn' hs => ?_
  have hok : HOk X.prog X.w H h' := fun b ob e => by
    refine (I.hok b ob e).stay (fun c w' hc q => (hs.2 c ?_).trans q) (fun _ q => q) fun _ _ q => q
    rintro rfl
    rcases hc with rfl | hc
    · rw [I.free] at e; cases e
    · rw [I.free] at hc; cases hc
  refine h _ ⟨I.ok, I.os, I.bare, ⟨fun b o e n hb hx => ?_, fun b o e n hb hx => ?_, I.base.free, fun b o e hx => ?_, I.base.tups, I.base.frzs, I.base.tbls⟩, ⟨_, hn', fun j y v' e1 e2 e3 => ?_⟩, fun y c e => ?_, I.free, I.freeC, fun p hp => ?_, hok, by simpa using I.len⟩
  · exact (hs.2 b (Nat.ne_of_lt (Nat.lt_of_lt_of_le (Heap.lt_size e) I.ok.above))).trans (I.base.keep b o e n hb hx)
  · obtain ⟨sl, e1⟩ := I.base.slot b o e n hb hx
    exact ⟨sl, (hs.2 b (Nat.ne_of_lt (Nat.lt_of_lt_of_le (Heap.lt_size e) I.ok.above))).trans e1⟩
  · obtain ⟨o', e1⟩ := I.base.there b o e hx
    exact ⟨o', (hs.2 b (Nat.ne_of_lt (Nat.lt_of_lt_of_le (Heap.lt_size e) I.ok.above))).trans e1⟩
  · by_cases hj : j = i
    · subst hj
      have hiσ : j < σ.length := by rw [I.len]; exact (List.getElem?_eq_some_iff.mp hi).1
      rw [List.getElem?_set_self hiσ] at e2
      cases e2
    · rw [List.getElem?_set_ne (Ne.symm hj)] at e2
      obtain ⟨u', r', q⟩ := hl j y v' e1 e2 e3
      refine ⟨u', r', ?_⟩
      rcases q with ⟨k, e⟩ | ⟨k, c, e, z⟩
      · refine .inl ⟨k, ?_⟩
        have : y ≠ n := fun e => hj (nodup_ix hN e1 (e ▸ hi))
        simp [this, e]
      · exact .inr ⟨k, c, e, z.sameBut hs (cne y c e)⟩
  · obtain ⟨w', z⟩ := I.cell y c e
    exact ⟨w', z.sameBut hs (cne y c e)⟩
  · obtain ⟨e, n, ne, nf, d⟩ := I.pin p hp
    exact ⟨(hs.2 p.1 ne).trans e, n, ne, nf, d⟩
end
section
variable {X : Cx} {c n : Str} {np hpos pos : Pos} {body hbody : List Stmt} {b₀ : Stmt} {tb : TXS} {th : TS} {i : Nat} {C : Addr}
/-- the ends behind a handler: its name is gone -/
def Ends.gone (D : Ends) (i : Nat) : Ends := { nx := fun σ H => D.nx (σ.set i none) H, rt := D.rt, bk := fun σ H => D.bk (σ.set i none) H, ct := fun σ H => D.ct (σ.set i none) H }
def tTry (K : PySem.W.Frag) (C : Addr) (i : Nat) (tb : TXS) (th : TS) : TS := fun D σ H => tb D (fun σ1 cls od H2 => (∃ C', cls = .ref C' ∧ PySem.W.subIn K (.ref C') (.ref C) = some true) ∧ ∀ a, H2 a = none → th (D.gone i) (σ1.set i (some (.ref a))) (upd H2 a (exk a cls od))) σ H
theorem qs_try (hN : X.N.Nodup) (hi : X.N[i]? = some n) (hk : X.env.scope.names.lookup n = some .local) (hC : ExcC X.K C) (G : X.mg c = some (.ref C)) (hf : X.env.frame = some X.env.locals) (hst : X.stack = X.env :: X.outer) (hb : QXS X body tb) (hh : ∀ A XE, QSs (X.to A false XE) (b₀ :: hbody) th) (hg : Gl X c := by rfl) (hdb : (c == ("__debug__" : Str)) = false := by decide) :
    QS X (.Try body [.ExceptHandler (some (.Name c np)) (some n) (b₀ :: hbody) hpos] [] [] pos) (tTry X.K C i tb th) := by
  refine ⟨fun pins s σ H D I h => ?_⟩
  refine wpAny_Try_except (wpAny_mono (hb.run pins s σ H D _ I h) (fun f s1 q => ?_) fun ev s1 q => ?_)
  · cases f with
    | next => exact wpAny_execs_nil q
    | ret v => exact q
    | brk => exact q
    | cont => exact q
  · obtain ⟨σ1, H0, s0, I0, e, T, cls, od, H', rfl, h1, h2, h3, h4, h5, h6, h7, h8, h9, ⟨C', rfl, hsub⟩, h10⟩ := q
    have J : Inv X pins σ1 H' s1 := I0.call' (ch := []) h1 h3 h4 h2 (fun b z => absurd z (by simp))
    have hfr : X.A.frames = some (X.env :: X.outer) := by rw [← hst]; exact J.ok.frames
    have hstk := J.stack
    rw [hst] at hstk
    refine note_next (base := X.base) hfr hstk hf h9 fun h' T' hT' y m => flight_none (fs := frs (X.env :: X.outer)) y fun h'' y' m' => ?_
    have M1 : Mvd (frs X.stack) [e, T, T'] s1.heap h'' := by rw [hst]; exact (m.mono (by simp)).trans (m'.mono (by simp))
    have fT' : s0.heap.get? T' = none := by
      cases q : s0.heap.get? T' with
      | none => rfl
      | some o =>
        obtain ⟨o', z⟩ := h3.there T' o q (by simp)
        exact absurd (Heap.lt_size z) (Nat.not_lt.mpr hT')
    have hT'n : H' T' = none := J.hok.fresh hT'
    have fx : ∀ b ∈ [e, T, T'], s0.heap.get? b = none ∧ H' b = none := by
      intro b hb
      simp only [List.mem_cons, List.not_mem_nil, or_false] at hb
      rcases hb with rfl | rfl | rfl
      · exact ⟨h5, h7⟩
      · exact ⟨h6, h8⟩
      · exact ⟨fT', hT'n⟩
    have land : ∀ {h3' : Heap}, Mvd (frs X.stack) [e, T, T'] s1.heap h3' → Lies h3' e T' (.ref C') od → Inv X pins σ1 (upd H' e (exk e (.ref C') od)) { s1 with heap := h3' } := fun {h3'} mm ll =>
      I0.call' (s' := { s1 with heap := h3' }) (ch := []) h1 (h3.land mm (fun b hb => (fx b hb).1) h5 h7) (h4.land mm (fun b hb => (fx b hb).2) (fun b hb => J.stkFree b hb) h7 (exk_ok ll)) h2 (fun b z => absurd z (by simp))
    have I1 := land M1 y'
    refine wpAny_handleBy_cons (codeAny_handlers_test ?_) (by intro q; cases q)
    have I1' : Inv (X.to (X.A.mark (some (.ref e))) false (notedBy (model X.prog X.w) (X.A.mark (some (.ref e))) X.env fun x s₁ => True)) pins σ1 (upd H' e (exk e (.ref C') od)) { s1 with heap := h'' } := I1.to rfl (by simp)
    refine ld_glob I1' hg G ?_ hdb
    obtain ⟨oe, vs, oT, ts, a1, a2, a3, a4, a5, a6, a7, a8, a9⟩ := id y'
    refine exc_matches I1.kIn hC a1 a2 hsub ?_
    refine codeAny_handlers_suite_as (flight_none (fs := frs X.stack) y' fun h4' y4 m4 => ?_)
    have I2 := land (M1.trans (m4.mono (by simp))) y4
    refine store_ok (v := .ref e) I2 hN hi (.inl hk) rfl (fun s3 I3 => ?_) (.inr hk)
    refine wpAny_mono ((hh (X.A.mark (some (.ref e))) _).run pins s3 _ _ (D.gone i) (I3.to rfl (by simp)) (h10 e h7)) (fun f s4 q => ?_) fun ev s4 q => q
    cases f with
    | next =>
      obtain ⟨σ', H4, I4, q⟩ := q
      exact goes_ok (I4.back I.ok) hN hi hk fun s5 I5 => ⟨_, H4, I5, q⟩
    | ret v =>
      obtain ⟨u, σ', H4, I4, r, q⟩ := q
      exact goes_ok (I4.back I.ok) hN hi hk fun s5 I5 => ⟨u, _, H4, I5, r, q⟩
    | brk =>
      obtain ⟨σ', H4, I4, q⟩ := q
      exact goes_ok (I4.back I.ok) hN hi hk fun s5 I5 => ⟨_, H4, I5, q⟩
    | cont =>
      obtain ⟨σ', H4, I4, q⟩ := q
      exact goes_ok (I4.back I.ok) hN hi hk fun s5 I5 => ⟨_, H4, I5, q⟩
end
end L2

set_option Elab.async false
set_option linter.all false
set_option maxRecDepth 100000
set_option maxHeartbeats 4000000
namespace L2
open PySem PySem.Spec PyProof.Rows
/-! ### attributes of an own exception -/
theorem refuse_VE (self : Value) : refuseLoop self "__setattr__" VE = pure () := by kernel_rfl
/-- classes of the text, then ValueError and what stands above it -/
def overVE : List Value → Bool
  | .ref _ :: r => overVE r
  | l => l == VE
theorem refuse_over (self : Value) : ∀ {l : List Value}, overVE l = true → refuseLoop self "__setattr__" l = pure ()
  | [], e => by cases e
  | .ref c :: r, e => by rw [refuseLoop_ref]; exact refuse_over self e
  | .none :: r, e => by rw [beq_iff_eq.mp (show (_ == _) = true from e)]; exact refuse_VE self
  | .ellipsis :: r, e => by rw [beq_iff_eq.mp (show (_ == _) = true from e)]; exact refuse_VE self
  | .notImplemented :: r, e => by rw [beq_iff_eq.mp (show (_ == _) = true from e)]; exact refuse_VE self
  | .bool _ :: r, e => by rw [beq_iff_eq.mp (show (_ == _) = true from e)]; exact refuse_VE self
  | .int _ _ :: r, e => by rw [beq_iff_eq.mp (show (_ == _) = true from e)]; exact refuse_VE self
  | .float _ _ :: r, e => by rw [beq_iff_eq.mp (show (_ == _) = true from e)]; exact refuse_VE self
  | .str _ _ :: r, e => by rw [beq_iff_eq.mp (show (_ == _) = true from e)]; exact refuse_VE self
  | .bytes _ _ :: r, e => by rw [beq_iff_eq.mp (show (_ == _) = true from e)]; exact refuse_VE self
  | .type _ :: r, e => by rw [beq_iff_eq.mp (show (_ == _) = true from e)]; exact refuse_VE self
  | .builtin _ :: r, e => by rw [beq_iff_eq.mp (show (_ == _) = true from e)]; exact refuse_VE self
theorem over_has : ∀ {l : List Value}, overVE l = true → l.contains (.type "object") = true ∧ l.contains (.type "BaseException") = true := by
  intro l
  induction l with
  | nil => intro e; cases e
  | cons c r ih =>
    intro e
    cases c with
    | ref a => obtain ⟨x, y⟩ := ih e; exact ⟨by rw [List.contains_cons, x, Bool.or_true], by rw [List.contains_cons, y, Bool.or_true]⟩
    | _ => rw [beq_iff_eq.mp (show (_ == _) = true from e)]; decide
/-- what of the text an exception's class must have -/
structure ExC (K : PySem.W.Frag) (C : Addr) : Prop where
  ov : ((PySem.W.clsIn K C).any fun cd => overVE cd.mro) = true
  hd : PySem.W.hasDictIn K C = true
  ga : PySem.W.findIn K (.ref C) "__getattribute__" = some (some (.builtin "BaseException.__getattribute__"))
  gt : PySem.W.findIn K (.ref C) "__getattr__" = some none
  sa : PySem.W.findIn K (.ref C) "__setattr__" = some (some (.builtin "object.__setattr__"))
  dc : PySem.W.typeIn K (.ref C) = some (.type "type")
section
open PySem.W PySem.Builtin PySem.Builtin.ObjectAttr
variable {prog : Program} {w : World} {A : Around} {E : Value → Shared → Prop} {s : Shared} {K : Frag} {x C : Addr} {ox : Obj} {od : Option Obj} {name : Str} {R : Result → Shared → Prop}
theorem osa_exc {tk : Tok} {v : Value} (X : K.In s.heap) (I : PySem.W.InstAt s.heap x ox C od) (c : ExC K C) (ht : takerIn K C name = some none)
    (h : ∀ b, wpAny (model prog w) A.in1 (storeInOwnDict (.ref x) (.ref C) (.str name tk) name v b)
      (fun fin s' => match fin with | .done f => R (.ok f) s' | .again c' => c'.quiet = true ∧ codeAny (model prog w) A c' R s') (fun e s' => R (.error e) s') s) :
    codeAny (model prog w) A (.call (.builtin "object.__setattr__") ⟨[.ref x, .str name tk, v], []⟩) R s := by
  have SF := PySem.F.store_object
  obtain ⟨cd, hc, ho⟩ := any_some c.ov
  have ne : cd.mro.isEmpty = false := by cases q : cd.mro with | nil => rw [q] at ho; cases ho | cons _ _ => rfl
  have sub : Looks (model prog w) s.heap (isInstance (.ref x) (.type "object")) true := I.type.andThen (looks_mroIn X (by unfold mroIn; rw [hc, Option.bind_some, if_neg (by rw [ne]; decide), (over_has ho).1]))
  refine codeAny_call_builtin SF.slot.plain SF.entry (@check_slot (model prog w) _ _ s "object.__setattr__" "object" "__setattr__" (.ref x) [.str name tk, v] [] _ SF.kind SF.split sub (SF.args (.ref x) (.str name tk) v) ?_)
  obtain ⟨attr, ha, hr⟩ := Option.bind_eq_some_iff.mp ht
  have hm : Looks (model prog w) s.heap (mroOf (.ref C)) cd.mro := (looks_clsIn X hc).andThen .now
  have L3 : Looks (model prog w) s.heap (storeTaker? attr) none := by
    cases attr with
    | none => exact .now
    | some a =>
      obtain ⟨b, hb, hz⟩ := Option.map_eq_some_iff.mp hr
      refine (looks_takesIn X hb).andThen ?_
      cases b
      · exact .now
      · cases hz
  rw [osa_eq, refuse_eq]
  refine wpAny_bind (wpAny_bind (I.type.here (wpAny_bind (hm.here ?_))))
  rw [refuse_over _ ho]
  refine wpAny_pure (wpAny_bind (I.type.here (wpAny_bind ((looks_findIn X ha).here (wpAny_bind (L3.here ?_))))))
  exact h _
/-- e.name where the dict has it -/
theorem get_exc {expr : Bool} {v : Value} {Q : Value → Shared → Prop} (X : K.In s.heap) (I : PySem.W.InstAt s.heap x ox C od) (c : ExC K C) (hf : findObj K C od name = some (.value v)) (hh : handedIn v = true) (h : Q v { s with toks := s.toks + 1 }) :
    wpAny (model prog w) A (getAttr (.ref x) name expr) Q E s := by
  obtain ⟨hp, g, d, t, os⟩ := s
  have L0 := I.type (M := model prog w)
  have L1 := looks_findIn (M := model prog w) X c.ga
  have L2 := looks_findIn (M := model prog w) X c.gt
  have L3 := looks_find (M := model prog w) X I hf
  have L4 : Looks (model prog w) hp (isInstance (.ref x) (.type "BaseException")) true := by
    obtain ⟨cd, hc, ho⟩ := any_some c.ov
    have ne : cd.mro.isEmpty = false := by cases q : cd.mro with | nil => rw [q] at ho; cases ho | cons _ _ => rfl
    exact I.type.andThen (looks_mroIn X (by unfold mroIn; rw [hc, Option.bind_some, if_neg (by rw [ne]; decide), (over_has ho).2]))
  have f3 := PySem.F.attr_ValueError.ga.bind (.ref x)
  have hx0 : (expr && onTheHeap (Value.builtin "BaseException.__getattribute__")) = false := by cases expr <;> rfl
  have hx2 : (Value.builtin "BaseException.__getattribute__" == Value.builtin "object.__getattribute__") = false := by decide +kernel
  have hx1 : (onTheHeap (Value.ref C) && Value.builtin "BaseException.__getattribute__" == Value.builtin "object.__getattribute__") = false := by rw [hx2]; rfl
  unfold getAttr getAttrBy
  refine wpAny_bind (wpAny_mkText (wpAny_holding (wpAny_bind (L0.at (wpAny_bind (L1.at ?_))))))
  dsimp only
  rw [hx1]
  simp only [Bool.false_eq_true, if_false]
  unfold getAttrByItsOwn hookBefore callGetattribute
  rw [if_pos (show onTheHeap (Value.ref C) = true from rfl), hx0]
  refine wpAny_bind (L2.at ?_)
  simp only [Bool.false_eq_true, if_false]
  unfold boundAndCalled
  rw [f3]
  have hk : builtinKind "BaseException.__getattribute__" = some .slot := by decide +kernel
  have hsplit : splitId "BaseException.__getattribute__" = some ("BaseException", "__getattribute__") := by decide +kernel
  refine wpAny_bind (wpAny_attempt (wpAny_holding (wpAny_bind (wpAny_pure (wpAny_call (codeAny_call_builtin PySem.F.attr_ValueError.ga.plain PySem.F.entry_bexc_ga (@check_slot (model prog w) _ _ ⟨hp, g, d, t + 1, os⟩ "BaseException.__getattribute__" "BaseException" "__getattribute__" (.ref x) [.str name t] [] _ hk hsplit L4 (PySem.F.args_bexc_ga (.ref x) (.str name t)) ?_)))))))
  show wpAny _ _ (Builtin.«object.__getattribute__» ⟨[.ref x, .str name t], []⟩) _ _ _
  refine wpAny_bind (wpAny_pure (wpAny_bind (wpAny_pure (wpAny_bind (L0.at (wpAny_bind (L3.at ?_)))))))
  refine wpAny_pure ?_
  show wpAny _ _ (handedOut v) _ _ _
  rw [handedOut_of hh]; exact wpAny_pure h
end
end L2

set_option Elab.async false
set_option linter.all false
set_option maxRecDepth 100000
set_option maxHeartbeats 4000000
namespace L2
open PySem PySem.Spec PyProof.Rows
/-! ### an exception that is new: no traceback yet -/
def exm (a : Addr) (cls : Value) (od : Option Addr) : HO := .ext fun h => Made h a cls od
theorem exm_ok {P : Program} {w : World} {H : Hp} {h : Heap} {a : Addr} {cls : Value} {od : Option Addr} (x : Made h a cls od) : ObjOk P w H h a (exm a cls od) := by
  obtain ⟨oe, vs, a1, a2⟩ := id x
  refine ⟨x, ⟨oe, a1⟩, fun h1 h2 q k => ?_⟩
  obtain ⟨o, vs, q1, q2⟩ := q
  exact ⟨o, vs, k o q1, q2⟩
theorem exm_at {P : Program} {w : World} {H : Hp} {h : Heap} {a : Addr} {cls : Value} {od : Option Addr} (x : ObjOk P w H h a (exm a cls od)) : Made h a cls od := x.1
theorem exk_at {P : Program} {w : World} {H : Hp} {h : Heap} {a : Addr} {cls : Value} {od : Option Addr} (x : ObjOk P w H h a (exk a cls od)) : ∃ o vs, h.get? a = some o ∧ o.cls = cls ∧ o.dict = od ∧ o.data = .fields vs := x.1
/-- no longer tracked -/
def del (H : Hp) (a : Addr) : Hp := fun b => if b = a then none else H b
theorem del_same {H : Hp} {a : Addr} : del H a a = none := by unfold del; rw [if_pos rfl]
theorem del_ne {H : Hp} {a b : Addr} (h : b ≠ a) : del H a b = H b := by unfold del; rw [if_neg h]
section
variable {X : Cx} {pins : List (Addr × Obj)} {σ : St} {H : Hp} {s : Shared}
theorem Inv.del {a : Addr} {φ : Heap → Prop} (I : Inv X pins σ H s) (h0 : X.s₀.heap.get? a = none) (e : H a = some (.ext φ)) : Inv X pins σ (L2.del H a) s := by
  have fr : ∀ b, H b = none → L2.del H a b = none := fun b q => by
    unfold L2.del; split
    · rfl
    · exact q
  have st : ∀ b o, H b = some o → (∀ φ, o ≠ .ext φ) → L2.del H a b = some o := fun b o q n => by
    rw [del_ne fun z => by rw [z, e] at q; cases q; exact n φ rfl]
    exact q
  refine ⟨I.ok, I.os, I.bare, ⟨I.base.keep, I.base.slot, fun b o q n hx => fr b (I.base.free b o q n hx), I.base.there, fun b xs q => st b _ (I.base.tups b xs q) (by intro φ z; cases z), fun b o u q => st b _ (I.base.frzs b o u q) (by intro φ z; cases z), fun b ps q => ?_⟩, I.loc, I.cell, fr _ I.free, fun x c q => fr _ (I.freeC x c q), fun p hp => ?_, fun b o q => ?_, I.len⟩
  · obtain ⟨more, z⟩ := I.base.tbls b ps q
    exact ⟨more, st b _ z (by intro φ z; cases z)⟩
  · obtain ⟨q1, q2, q3⟩ := I.pin p hp
    exact ⟨q1, fr _ q2, q3⟩
  · have hb : b ≠ a := fun z => by rw [z, del_same] at q; cases q
    rw [del_ne hb] at q
    exact (I.hok b o q).stay (fun _ _ _ z => z) (fun c z => st c _ z (by intro φ z; cases z)) fun c xs z => st c _ z (by intro φ z; cases z)
end
/-! ### self.f = v for the first time -/
section
variable {X : Cx} {pins : List (Addr × Obj)} {σ : St} {H : Hp} {s : Shared} {a C : Addr} {f : Str} {A : Around} {E : Value → Shared → Prop}
open PySem.W PySem.Builtin PySem.Builtin.ObjectAttr
theorem setattr_exm {y : V} {u : Value} {Q : Unit → Shared → Prop} (I : Inv X pins σ H s) (e : H a = some (exm a (.ref C) none)) (c : ExC X.K C) (n : NoAttr X.K C f) (ry : RelV y u)
    (h : ∀ d s', H d = none → d ≠ a → Inv X pins σ (upd (upd H d (.xd [(f, y)])) a (exm a (.ref C) (some d))) s' → Q () s') : wpAny (model X.prog X.w) A (setAttr (.ref a) f u) Q E s := by
  obtain ⟨oe, vs, a1, a2, a3, a4, a5⟩ := exm_at (I.hok a _ e)
  have J : PySem.W.InstAt s.heap a oe C none := ⟨a1, a2, by unfold notCls; rw [a4], by rw [a3]; trivial⟩
  refine PySem.W.set_plain I.kIn J c.sa (osa_exc (s := { s with toks := s.toks + 1 }) I.kIn J c n.taker fun b => ?_)
  obtain ⟨cd, hc, hd'⟩ := PySem.W.any_some c.hd
  obtain ⟨oc, odi, oda, osl⟩ := oe
  dsimp only at a2 a3 a4
  subst a2 a3 a4
  refine wpAny_bind (wpAny_pure (wpAny_bind (wpAny_bind (wpAny_loadPart a1 (wpAny_bind (PySem.W.Looks.here (s := { s with toks := s.toks + 1 }) (PySem.W.looks_clsIn I.kIn hc) ?_))))))
  rw [hd']
  show wpAny _ _ (alloc { cls := Value.type "dict", data := Data.dict #[] } >>= fun d => update a (fun o => { o with dict := some d }) >>= fun _ => dictMade (.ref C) a d) _ _ _
  have sz : a < s.heap.objs.size := Heap.lt_size a1
  have ne : s.heap.objs.size ≠ a := Nat.ne_of_gt sz
  generalize hoD : ({ cls := Value.type "dict", data := Data.dict #[] } : Obj) = oD
  have fD : oD.isFreed = false := by rw [← hoD]; rfl
  refine wpAny_bind (wpAny_alloc ?_)
  have b1 : (s.heap.push oD).get? a = some { cls := Value.ref C, data := Data.fields vs, slots := osl } := Heap.get?_push_of_some _ a1
  refine wpAny_bind (wpAny_update b1 ?_)
  refine wpAny_pure ?_
  dsimp only
  have b2 : ((s.heap.push oD).update a fun o => { o with dict := some s.heap.objs.size }).get? a = some { cls := Value.ref C, dict := some s.heap.objs.size, data := Data.fields vs, slots := osl } := Heap.get?_update_self _ b1 rfl
  have b3 : ((s.heap.push oD).update a fun o => { o with dict := some s.heap.objs.size }).get? s.heap.objs.size = some oD := (Heap.get?_update_other _ _ (Ne.symm ne)).trans (Heap.get?_push_size _ fD)
  have b4 : ∀ b o, b ≠ a → s.heap.get? b = some o → ((s.heap.push oD).update a fun o => { o with dict := some s.heap.objs.size }).get? b = some o := fun b o hb q => (Heap.get?_update_other _ _ (Ne.symm hb)).trans (Heap.get?_push_of_some _ q)
  generalize ((s.heap.push oD).update a fun o => { o with dict := some s.heap.objs.size }) = h1 at b2 b3 b4 ⊢
  have n0 : h1.Ns s.heap.objs.size (fun _ => none) := ⟨oD, #[], _, b3, by rw [← hoD], (fun e he => absurd he (by simp)), fun _ => rfl⟩
  have n1 : h1.Ns1 s.heap.objs.size (fun _ => none) := Heap.Ns1.of_empty n0
  unfold storeInDict
  refine wpAny_bind (wpAny_pure (wpAny_bind ?_))
  refine wpAny_nsSet1 (s := ⟨h1, s.gens, s.drawn, s.toks + 1, s.os⟩) n1 fun h2 hn2 hs2 => ?_
  obtain ⟨oD2, esD, epD, hoD2, hdD, hcD⟩ := hn2.count (PySem.Within.cons (ns := []) f u fun y hy => absurd rfl hy)
  refine wpAny_bind (wpAny_lookBehind hoD2 (by rw [hdD]; exact pastItsLine_dict (Nat.le_trans hcD (by rw [List.length_cons]; decide))) ?_)
  refine wpAny_pure (h s.heap.objs.size _ (I.hok.fresh (Nat.le_refl _)) ne ?_)
  have fD2 : oD2.isFreed = false := by
    obtain ⟨c0, d0, t0, s0⟩ := oD2
    dsimp only at hdD
    subst hdD
    rfl
  have k1 := Heap.get?_push_size s.heap fD2
  have n2 : (s.heap.push oD2).Ns1 s.heap.objs.size (fun x => if x = f then some u else none) := by
    refine hn2.at fun o q => ?_
    rw [hoD2] at q
    cases q
    exact k1
  have I1 := I.laid (a := s.heap.objs.size) (o := .xd [(f, y)]) (h' := s.heap.push oD2) (t' := s.toks) (fun b u q => Heap.get?_push_of_some _ q) (Nat.le_refl _) ⟨_, n2, fun g => by
    by_cases q : g = f
    · rw [if_pos q, q, List.lookup_cons_self]; exact ry
    · rw [if_neg q]
      have : (g == f) = false := by simpa using q
      rw [List.lookup_cons, this]
      exact True.intro⟩
  have ne' : upd H s.heap.objs.size (.xd [(f, y)]) a = some (exm a (.ref C) none) := by rw [upd_ne (Ne.symm ne)]; exact e
  refine I1.write (x := a) (e := a) (h' := h2) (t' := s.toks + 1 + 1) (by rw [ne']; exact True.intro) (.inl rfl) (fun b w hb q => ?_) ⟨_, (hs2.2 a (Ne.symm ne)).trans b2⟩ (exm_ok ⟨_, vs, (hs2.2 a (Ne.symm ne)).trans b2, rfl, rfl, rfl, a5⟩)
  by_cases hb2 : b = s.heap.objs.size
  · rw [hb2] at q ⊢
    rw [k1] at q
    rw [← q]
    exact hoD2
  · have q' : s.heap.get? b = some w := by
      rw [Heap.get?_push_ne _ _ _ hb2] at q
      exact q
    exact (hs2.2 b hb2).trans (b4 b w hb q')
/-- e.f, of a held exception -/
theorem getattr_exk {expr : Bool} {d : Addr} {fs : List (Str × V)} {v : V} {Q : Value → Shared → Prop} (I : Inv X pins σ H s) (e : H a = some (exk a (.ref C) (some d))) (ed : H d = some (.xd fs)) (c : ExC X.K C) (n : NoAttr X.K C f) (l : fs.lookup f = some v)
    (h : ∀ u s', Inv X pins σ H s' → RelV v u → Q u s') : wpAny (model X.prog X.w) A (getAttr (.ref a) f expr) Q E s := by
  obtain ⟨oe, vs, a1, a2, a3, a4⟩ := exk_at (I.hok a _ e)
  obtain ⟨mA, nA, r⟩ := I.hok d _ ed
  obtain ⟨od, hod, hl⟩ := lookIn_ns nA
  obtain ⟨u, hu, ru⟩ := RelO.some_of (v := v) (o := mA f) (by rw [← l]; exact r f)
  have J : PySem.W.InstAt s.heap a oe C (some od) := ⟨a1, a2, by unfold notCls; rw [a4], by rw [a3]; exact hod⟩
  exact get_exc I.kIn J c (PySem.W.findObj_own c.hd n rfl (by rw [hl, hu])) (handed_of ru) (h u _ (I.tok _) ru)
end
section
variable {X : Cx} {o e value : Expr} {f : Str} {pos pos' : Pos} {ta tv : TE}
def tXset (K : PySem.W.Frag) (ta tv : TE) (f : Str) : TS := fun D σ H => tv σ H fun y H1 => ta σ H1 fun x H2 => ∃ a C, x = .ref a ∧ H2 a = some (exm a (.ref C) none) ∧ ExC K C ∧ NoAttr K C f ∧ ∀ d, H2 d = none → d ≠ a → D.nx σ (upd (upd H2 d (.xd [(f, y)])) a (exm a (.ref C) (some d)))
theorem qs_xset (ha : QE X o ta) (hv : QE X value tv) (hs : swapsWith value (some (.Attribute o f pos')) pos.line X.env = pure false := by rfl) : QS X (.Assign [.Attribute o f pos'] value pos) (tXset X.K ta tv f) := by
  refine ⟨fun pins s σ H D I h => ?_⟩
  refine plainObj_wpAny_Assign_Attribute (thn (hv.run pins s σ H _ I h) fun u s1 ⟨y, H1, I1, ry, q⟩ => thn (ha.run pins s1 σ H1 _ I1 q) fun ov s2 ⟨x, H2, I2, rx, a, C, ex, ea, c, n, q2⟩ => ?_) hs
  subst ex
  obtain rfl : ov = Value.ref a := rx
  exact setattr_exm I2 ea c n ry fun d s3 hd hda I3 => ⟨σ, _, I3, q2 d hd hda⟩
def tXget (K : PySem.W.Frag) (ta : TE) (f : Str) : TE := fun σ H Q => ta σ H fun x H1 => ∃ a C d fs v, x = .ref a ∧ H1 a = some (exk a (.ref C) (some d)) ∧ H1 d = some (.xd fs) ∧ ExC K C ∧ NoAttr K C f ∧ fs.lookup f = some v ∧ Q v H1
theorem qe_xget (he : QE X e ta) (hb : attributeBase e f X.env (eval e X.env) = eval e X.env := by rfl) : QE X (.Attribute e f pos) (tXget X.K ta f) := by
  refine ⟨fun pins s σ H Q I h => ?_⟩
  refine attr_of hb (thn (he.run pins s σ H _ I h) fun u s1 ⟨x, H1, I1, rx, a, C, d, fs, v, ex, ea, ed, c, n, l, q⟩ => ?_)
  subst ex
  obtain rfl : u = Value.ref a := rx
  exact getattr_exk I1 ea ed c n l fun u' s2 I2 ru => ⟨v, H1, I2, ru, q⟩
end
/-! ### isinstance(e, C): where it is -/
section
open PySem.W
theorem exc_ans {K : PySem.W.Frag} {x C' : Addr} {c : Value} {H : Heap → Prop} (ty : ∀ (M : Model) (h : Heap), K.In h → H h → Looks M h (typeOf (.ref x)) (.ref C')) (e : kitOne K (.ref C') c = some true) : Answers (fun s => K.In s.heap ∧ H s.heap) (.ref x) c true := by
  intro dep tk prog w A R s hs
  obtain ⟨h0, g, d, tt, os⟩ := s
  obtain ⟨⟨X, p⟩, hq⟩ := hs
  have LT := ty (model prog w) h0 X p
  unfold kitOne at e
  unfold Builtin.«isinstance.nested»
  refine wpAny_bind (LT.at ?_)
  by_cases q : (Value.ref C' == c) = true
  · rw [if_pos q]
    first
      | ((repeat lk); exact hq tt)
      | exact wpAny_bind (wpAny_rule (hq tt))
      | exact wpAny_bind (wpAny_rule (wpAny_pure (hq tt)))
  · rw [if_neg q] at e
    rw [if_neg q]
    obtain ⟨hty, his, hsub⟩ := kit_cls (M := model prog w) X e
    have LI : Looks (model prog w) h0 (isInstance (.ref x) c) true := LT.andThen hsub
    refine wpAny_bind (hty.at ?_)
    rw [if_pos (by decide)]
    k_delta "plainIsInstance"
    refine wpAny_bind (wpAny_bind (his.at ?_))
    simp only [Bool.not_true, Bool.false_eq_true, if_false]
    refine wpAny_bind (LI.at ?_)
    first
      | exact wpAny_pure (wpAny_pure (hq tt))
      | (simp only [if_true]; first | exact wpAny_pure (wpAny_pure (hq tt)) | exact wpAny_pure (hq tt) | exact wpAny_bind (wpAny_pure (wpAny_pure (hq tt))))
end
def rIsX (K : PySem.W.Frag) : List V → Hp → VK → Prop := fun xs H Q => ∃ a C C' od, xs = [.ref a, .ref C] ∧ H a = some (exk a (.ref C') od) ∧ PySem.W.kitOne K (.ref C') (.ref C) = some true ∧ Q (.bl true) H
theorem k_isX {X : Cx} {K : PySem.W.Frag} (hK : X.K = K := by rfl) : CallR X (.builtin "isinstance") (rIsX K) := by
  subst hK
  intro pins s σ H xs us Q I r h
  obtain ⟨a, C, C', od, rfl, ea, e, q⟩ := h
  obtain ⟨u, v, rfl, ru, rv⟩ := r.two
  obtain rfl : u = Value.ref a := ru
  obtain rfl : v = Value.ref C := rv
  obtain ⟨oe, vs, a1, a2, a3, a4⟩ := exk_at (I.hok a _ ea)
  have ty : ∀ (M : Model) (h : Heap), X.K.In h → h.get? a = some oe → PySem.W.Looks M h (typeOf (.ref a)) (.ref C') := fun M h _ p => by
    intro A' Q' E' s' k q
    unfold typeOf
    exact wpAny_bind (wpAny_loadPart (k _ _ p) (wpAny_pure (by rw [a2]; exact q)))
  exact call_isinstance (S := fun _ R s => (X.K.In s.heap ∧ s.heap.get? a = some oe) ∧ ∀ tk, R (.ok (.ret (.bool true))) { s with toks := tk })
    (fun prog w A R s hs => isinstance_outer (exc_ans ty e 0 _ prog w A R s hs) (by intro z; cases z)) ⟨⟨I.kIn, a1⟩, fun tk => ⟨.bl true, H, I.tok tk, rfl, q⟩⟩
end L2

set_option Elab.async false
set_option linter.all false
set_option maxRecDepth 100000
set_option maxHeartbeats 4000000
namespace L2
open PySem PySem.Spec PyProof.Rows
/-! ### raise C(..), an own class with __init__ -/
def excI (K : PySem.W.Frag) (C : Addr) : Bool := match K.lookup C with
  | some ⟨.type "type", _, .cls cd, sl⟩ => (match cd.mro, sl.toList with
    | .ref C' :: bm, [_, _, _, _, some (.builtin n), _] => C' == C && n == "ValueError.__new__" && !cd.hasDel && PySem.W.tailIn K VE bm
    | _, _ => false)
  | _ => false
theorem excI_in {K : PySem.W.Frag} {C : Addr} (q : excI K C = true) :
    ∃ bm N nm q bs hdct sn sub ab col dd k0 k1 k2 k3 k5, ∀ h : Heap, K.In h → h.get? C = some (excClassObj nm q C N bs bm hdct sn sub ab col dd k0 k1 k2 k3 k5 "ValueError.__new__") ∧ OwnTail h VE bm := by
  unfold excI at q
  split at q
  · rename_i dd cd sl ho
    split at q
    · rename_i C' bm k0 k1 k2 k3 n k5 hm hs
      simp only [Bool.and_eq_true, beq_iff_eq, Bool.not_eq_true'] at q
      obtain ⟨⟨⟨rfl, rfl⟩, hdel⟩, ht⟩ := q
      obtain ⟨nm, bs, mro, ns, qn, hd, sn, sub, ab, col, del⟩ := cd
      dsimp only at hm hdel
      subst hm hdel
      have hsl : sl = #[k0, k1, k2, k3, some (.builtin "ValueError.__new__"), k5] := by
        obtain ⟨l⟩ := sl
        simp only at hs
        rw [hs]
      subst hsl
      exact ⟨bm, ns, nm, qn, bs, hd, sn, sub, ab, col, dd, k0, k1, k2, k3, k5, fun h kin => ⟨kin _ _ ho, PySem.W.tail_of_in kin ht⟩⟩
    · cases q
  · cases q
section
variable {prog : Program} {w : World} {A : Around} {E : Value → Shared → Prop} {h : Heap} {g : Array GenState} {d : Drawn} {t : Nat} {os : OsState}
variable {nm q : Str} {C N : Addr} {bs bm bmB : List Value} {hdct : Bool} {sn : List Str} {sub : List Value} {ab : Bool} {col : Option Bool} {dd : Option Addr} {k0 k1 k2 k3 k5 : Option Value} {B Bn newId nid initId inN : String} {bmN : List Value}
theorem type_call_excI {K : PySem.W.Frag} (Fn : ExcBaseFacts Bn newId inN bmN) (hBn : bmB.contains (.type Bn) = true) (F : ExcBaseFacts B nid initId bmB) (T : OwnTail h bmB bm) {rest : List Value} {fI : Addr} {Q : Fin → Shared → Prop} (X : K.In h)
    (hC : h.get? C = some (excClassObj nm q C N bs bm hdct sn sub ab col dd k0 k1 k2 k3 k5 newId)) (hi : PySem.W.findIn K (.ref C) "__init__" = some (some (.ref fI))) (hf : PySem.W.typeIn K (.ref fI) = some (.type "function"))
    (hq : ∀ h' e, Heap.MadeExcOf h h' e (.ref C) rest →
      wpAny (model prog w) A (call (.ref fI) (.ref e :: rest)) (fun r s' => r = .none ∧ Q (.done (.ret (.ref e))) s') E ⟨h', g, d, t, os⟩) (hrest : rest.length ≤ sizeLine := by size_fits) :
    wpAny (model prog w) A (Builtin.«type.__call__» ⟨.ref C :: rest, []⟩) Q E ⟨h, g, d, t, os⟩ := by
  repeat (first | with_reducible refine wpAny_loadPart_at hC ?_ | with_reducible refine wpAny_madeBy_exc hC ?_ | wp_step)
  refine codeAny_call_builtin_code (Code.quiet_builtin _ Fn.quiet) (wpAny_check_new_subU Fn hBn T hC ?_)
  refine codeAny_exc_new_subU Fn hBn F T hC ?_ hrest
  show wpAny _ _ _ _ _ _
  have hC₁ := Heap.get?_push_of_some { cls := .ref C, data := .fields #[.ref h.objs.size, .none, .none, .none, .bool false, .none] }
    (Heap.get?_push_of_some { cls := .type "tuple", data := .seq rest.toArray } hC)
  have hget : ((h.push { cls := .type "tuple", data := .seq rest.toArray }).push
      { cls := .ref C, data := .fields #[.ref h.objs.size, .none, .none, .none, .bool false, .none] }).get? (h.objs.size + 1) = some
      { cls := .ref C, data := .fields #[.ref h.objs.size, .none, .none, .none, .bool false, .none] } := by heap_get
  have hcC : (Value.ref C :: bm).contains (.ref C) = true := by simp
  have X₁ : K.In ((h.push { cls := .type "tuple", data := .seq rest.toArray }).push { cls := .ref C, data := .fields #[.ref h.objs.size, .none, .none, .none, .bool false, .none] }) := fun b o e => Heap.get?_push_of_some _ (Heap.get?_push_of_some _ (X b o e))
  unfold isInstance
  repeat (first | with_reducible refine wpAny_loadPart_at hget ?_ | (with_reducible refine wpAny_isSubtype_exc hC₁ ?_; rw [hcC]) | wp_step)
  show wpAny _ _ (typeLookup (.ref C) _) _ _ _
  refine (PySem.W.looks_findIn X₁ hi).at ?_
  refine wpAny_holding (wpAny_bind ((PySem.W.bind_fn X₁ _ hf).at ?_))
  refine wpAny_bind (wpAny_mono (hq _ (h.objs.size + 1) ⟨fun b o hb => Heap.get?_push_of_some _ (Heap.get?_push_of_some _ hb), Heap.get?_none_of_le (Nat.le_succ _), h.objs.size, hget, Heap.get?_none_of_le (Nat.le_refl _), ?_⟩) (fun r s' hr => ?_) fun _ _ x => x)
  · exact Heap.get?_push_of_some _ (Heap.get?_push_at rfl rfl)
  · obtain ⟨rfl, hQ⟩ := hr
    wp_walk
    exact hQ
theorem call_excI {K : PySem.W.Frag} (Fn : ExcBaseFacts Bn newId inN bmN) (hBn : bmB.contains (.type Bn) = true) (F : ExcBaseFacts B nid initId bmB) (T : OwnTail h bmB bm) {rest : List Value} {fI : Addr} {Q : Value → Shared → Prop} (X : K.In h)
    (hC : h.get? C = some (excClassObj nm q C N bs bm hdct sn sub ab col dd k0 k1 k2 k3 k5 newId)) (hi : PySem.W.findIn K (.ref C) "__init__" = some (some (.ref fI))) (hf : PySem.W.typeIn K (.ref fI) = some (.type "function"))
    (hq : ∀ h' e, Heap.MadeExcOf h h' e (.ref C) rest →
      wpAny (model prog w) (A.under (.builtin "type.__call__" ⟨.ref C :: rest, []⟩)) (call (.ref fI) (.ref e :: rest)) (fun r s' => r = .none ∧ Q (.ref e) s') E ⟨h', g, d, t, os⟩) (hrest : rest.length ≤ sizeLine := by size_fits) :
    wpAny (model prog w) A (call (.ref C) rest) Q E ⟨h, g, d, t, os⟩ := by
  have f1 := tc_lookup
  have f2 := tc_bind (.ref C)
  have hT : (⟨h, g, d, t, os⟩ : Shared).TypeIs (.ref C) "type" := ⟨_, hC, rfl⟩
  refine wpAny_call (codeAny_of_tree ?_)
  show wpAny _ _ (callAny (.ref C) _) _ _ _
  repeat (any_goals (first | assumption | with_reducible refine wpAny_loadPart_at hC ?_ | wp_step))
  refine ⟨rfl, ?_⟩
  refine codeAny_call_builtin_at (Code.quiet_builtin _ (by decide +kernel)) entry_typeCall (wpAny_check_type_call_sub hC (type_call_excI (hrest := hrest) Fn hBn F T X hC hi hf fun h' e hm => ?_))
  exact hq h' e hm
end
/-- the value is an exception of the class at C, without traceback -/
theorem raise_inst {K : PySem.W.Frag} {M : Model} {A : Around} {E : Value → Shared → Prop} {s : Shared} {env : Env} {x : Sem Value} {Q : Flow → Shared → Prop} {C : Addr} (hh : A.handled = none) (hb : PySem.W.subIn K (.ref C) (.type "BaseException") = some true) (hty : PySem.W.typeIn K (.ref C) = some (.type "type"))
    (h : wpAny M A x (fun v s₁ => ∃ e od, v = .ref e ∧ K.In s₁.heap ∧ Made s₁.heap e (.ref C) od ∧ E (.ref e) s₁) E s) : wpAny M A (raiseStmt env (some x) none) Q E s := by
  unfold raiseStmt
  refine wpAny_bind (wpAny_mono h (fun v s₁ h₁ => ?_) fun _ _ x => x)
  obtain ⟨e, od, rfl, X, ⟨oe, vs, a1, a2, a3, a4, a5⟩, hE⟩ := h₁
  have L3 := PySem.W.looks_subIn (M := M) X hb
  have L4 : PySem.W.Looks M s₁.heap (typeOf (.ref e)) (.ref C) := by
    intro A' Q' E' s' k q
    unfold typeOf
    exact wpAny_bind (wpAny_loadPart (k _ _ a1) (wpAny_pure (by rw [a2]; exact q)))
  have L5 : PySem.W.Looks M s₁.heap (isInstance (.ref e) (.type "BaseException")) true := L4.andThen L3
  have L6 : PySem.W.Looks M s₁.heap (isType (.ref e)) false := by
    intro A' Q' E' s' k q
    unfold isType loadHead
    refine wpAny_bind (wpAny_loadPart (k _ _ a1) ?_)
    rw [a4]
    exact wpAny_pure q
  have L7 : PySem.W.Looks M s₁.heap (typeOf (.ref C)) (.type "type") := PySem.W.looks_typeIn X hty
  unfold excFromValue isExcClass raisedInstance
  obtain ⟨hp, g, d, tk, os⟩ := s₁
  repeat (first | with_reducible refine L6.at ?_ | with_reducible refine L5.at ?_ | with_reducible refine L4.at ?_ | with_reducible refine L7.at ?_ | wp_step)
  rw [a4]
  refine wpAny_pure ?_
  dsimp only
  rw [a5]
  refine wpAny_pure ?_
  rw [if_neg (by decide)]
  exact wpAny_pure (wpAny_raiseNew_none hh hE)
section
variable {X : Cx} {k : Nat} {x : Str} {sp : Sp} {ps : List Str} {C f : Addr} {fd : FuncData} {np cpos pos : Pos} {a : Expr} {t : TA} {E : XK}
/-- what a class must have to be raised with its own __init__ -/
structure Rz (K : PySem.W.Frag) (C f : Addr) : Prop where
  ei : excI K C = true
  init : PySem.W.findIn K (.ref C) "__init__" = some (some (.ref f))
  fn : PySem.W.isFn K (.ref f) = true
  kp : PySem.W.keepIn K (.ref C) = true
  bs : PySem.W.subIn K (.ref C) (.type "BaseException") = some true
  ty : PySem.W.typeIn K (.ref C) = some (.type "type")
def tRz (C : Addr) (sp : Sp) (E : XK) (t : TA) : TS := fun D σ H => t σ H fun vs H1 => vs.length ≤ sizeLine ∧ ∀ e, H1 e = none → sp (.ref e :: vs) (upd H1 e (exm e (.ref C) none)) (fun v H2 => v = .non ∧ ∃ od, H2 e = some (exm e (.ref C) od) ∧ E (.ref C) od (del H2 e)) (fun _ _ _ => False)
theorem qs_raiseI (hc : X.calm = true) (R : Rz X.K C f) (F : FnOk X.prog X.w X.K X.mg X.base CX0 k f fd ps sp) (hr : Room (k + 1) X.A) (hb : Binds X.K fd ps []) (G : X.mg x = some (.ref C)) (ha : QA X [a] t) (hx : Raises X E) (hex : X.ex = []) (hg : Gl X x := by rfl) (hdb : (x == ("__debug__" : Str)) = false := by decide)
    (he : starEach [a] X.env = (false, eval a X.env) :: starEach [] X.env := by rfl) (hpl : (backTo cpos (starEach [] X.env)).any (·.1) = false := by rfl) : QS X (.Raise (some (.Call (.Name x np) [a] [] cpos)) none pos) (tRz C sp E t) := by
  refine ⟨fun pins s σ H D I h => ?_⟩
  rw [arm_exec_Raise]
  refine wpAny_bind (wpAny_standAt (raise_inst (K := X.K) (C := C) (I.ok.hd hc) R.bs R.ty (wpAny_bind (wpAny_mono (wpAny_Call_Name_kw (ld_glob I hg G ?_ hdb)) (fun v s₃ h₃ => wpAny_bind (wpAny_standAt (wpAny_pure h₃))) fun _ _ x => x))))
  refine PySem.W.callWith_K (h₀ := X.base) I.ok.mod.kin R.kp (thn (ha.run cpos pins s σ H _ I h) fun us s1 ⟨vs, H1, I1, r, hz, q⟩ => ⟨I1.kIn, ?_⟩) he hpl
  obtain ⟨bm, N, nm, qn, bs, hdct, sn, sub, ab, col, dd, k0, k1, k2, k3, k5, cl⟩ := excI_in R.ei
  obtain ⟨cC, cT⟩ := cl _ I1.kIn
  obtain ⟨hp, g, d, tk, os⟩ := s1
  refine call_excI PySem.F.excBase_ValueError (by decide) PySem.F.excBase_ValueError cT I1.kIn cC R.init (beq_iff_eq.mp R.fn) (fun h' e hm => ?_) (by show us.length ≤ sizeLine; rw [← r.length]; exact hz)
  obtain ⟨t', e1, _, _⟩ := hm.there
  have hn : H1 e = none := I1.hok.no hm.new
  have mk : Made h' e (.ref C) none := ⟨_, _, e1, rfl, rfl, rfl, rfl⟩
  have rf : Mvd (frs X.stack) [] h' h' := ⟨fun _ _ _ _ q => q, fun _ o _ q => ⟨o.slots, q⟩⟩
  have I2 : Inv X pins σ (upd H1 e (exm e (.ref C) none)) ⟨h', g, d, tk, os⟩ := I1.call' (s' := ⟨h', g, d, tk, os⟩) (ch := []) rfl ((Un.kept hm.keeps).land rf (fun b hb => absurd hb (by simp)) hm.new hn) ((I1.hok.kept hm.keeps).land rf (fun b hb => absurd hb (by simp)) (fun b hb => I1.stkFree b hb) hn (exm_ok mk)) I1.bare (fun b z => absurd z (by simp))
  have hq := q e hn
  have r2 : Vals (V.ref e :: vs) (Value.ref e :: us) := .cons rfl r
  have hl : (Value.ref e :: us).length = ps.length := by
    have z := r2.length
    rw [F.len _ _ _ _ hq] at z
    exact z.symm
  have hb' := hb ⟨h', g, d, tk, os⟩ (Value.ref e :: us) I2.kIn (by simpa using hl)
  rw [List.append_nil] at hb'
  refine wpAny_call (codeAny_mono (F.run _ X.stack _ _ ⟨Value.ref e :: us, []⟩ (Value.ref e :: us) _ _ _ (hr.make C us []) (I2.env0.make C us []) hb' r2 hq) fun r s' hq' => ?_)
  cases r with
  | error e => exact False.elim hq'
  | ok fl =>
    cases fl with
    | ret u =>
      obtain ⟨v, H', I3, rv, ev, od, q3, q4⟩ := I2.after hq'
      subst ev
      obtain rfl : u = Value.none := rv
      have h0 := I1.old hex hm.new
      exact ⟨rfl, e, od, rfl, I3.kIn, exm_at (I3.hok e _ q3), hx pins σ _ s' e _ od (I3.del h0 q3) (exm_at (I3.hok e _ q3)) h0 del_same q4⟩
    | next => exact False.elim hq'
    | brk => exact False.elim hq'
    | cont => exact False.elim hq'
end
end L2

set_option Elab.async false
set_option linter.all false
namespace L2
open PySem PySem.Spec PyProof.Rows
theorem qe_xgetK {X : Cx} {e : Expr} {f : Str} {pos : Pos} {ta : TE} (K : PySem.W.Frag) (he : QE X e ta) (hK : X.K = K := by rfl) (hb : attributeBase e f X.env (eval e X.env) = eval e X.env := by rfl) : QE X (.Attribute e f pos) (tXget K ta f) := by subst hK; exact qe_xget he hb
end L2

set_option Elab.async false
set_option linter.all false
set_option maxRecDepth 100000
set_option maxHeartbeats 4000000
namespace K19
open PySem L2
/-! ### shapes -/
def shp (w : Str) (n : Dt) : Prop := (w = "fn" ∨ w = "let" ∨ w = "name" → ∃ t : Str, n = .flat (.str t)) ∧ (w = "rec" → ∃ t u : Str, n = .tup [.flat (.str t), .flat (.str u)])
inductive TrSh : Tr → Prop where
  | mk {w : Str} {n : Dt} {ts : List Tr} (h : shp w n) (hs : ∀ t ∈ ts, TrSh t) : TrSh (.mk w n ts)
theorem shp_non {w : Str} {n : Dt} (h1 : w ≠ "fn") (h2 : w ≠ "let") (h3 : w ≠ "name") (h4 : w ≠ "rec") : shp w n := ⟨fun h => by rcases h with h | h | h <;> contradiction, fun h => absurd h h4⟩
theorem TrSh.gap : TrSh gapT := .mk (shp_non (by decide +kernel) (by decide +kernel) (by decide +kernel) (by decide +kernel)) (fun t h => nomatch h)
theorem TrSh.let {u : Str} {s t : Tr} (hs : TrSh s) (ht : TrSh t) : TrSh (.mk "let" (.flat (.str u)) [s, t]) :=
  .mk ⟨fun _ => ⟨u, rfl⟩, fun h => absurd h (by decide +kernel)⟩ (fun x hx => by
    simp only [List.mem_cons, List.not_mem_nil, or_false] at hx
    rcases hx with rfl | rfl <;> assumption)
theorem TrSh.call {s t : Tr} (hs : TrSh s) (ht : TrSh t) : TrSh (.mk "call" (.flat .non) [s, t]) :=
  .mk (shp_non (by decide +kernel) (by decide +kernel) (by decide +kernel) (by decide +kernel)) (fun x hx => by
    simp only [List.mem_cons, List.not_mem_nil, or_false] at hx
    rcases hx with rfl | rfl <;> assumption)
theorem sh_snoc {ts : List Tr} {t : Tr} (h : ∀ x ∈ ts, TrSh x) (ht : TrSh t) : ∀ x ∈ ts ++ [t], TrSh x := fun x hx => by
  rcases List.mem_append.mp hx with hx | hx
  · exact h x hx
  · rw [List.mem_singleton.mp hx]; exact ht
/-! ### places -/
inductive Sub : Tr → List Nat → Prop where
  | nil (t : Tr) : Sub t []
  | cons {w : Str} {n : Dt} {ts : List Tr} {j : Nat} {t : Tr} {r : List Nat} (h : ts[j]? = some t) (s : Sub t r) : Sub (.mk w n ts) (j :: r)
mutual
theorem walk_sub : ∀ (t : Tr) (x : List Nat × Tr), x ∈ walk [] t → Sub t x.1
  | .mk w n ps, x, h => by
    rw [walk] at h
    rcases List.mem_cons.mp h with rfl | h
    · exact .nil _
    · obtain ⟨j, t, r, e1, e2, e3⟩ := walks_sub 0 ps x h
      rw [e2, Nat.zero_add]
      exact .cons e1 e3
theorem walks_sub : ∀ (i : Nat) (ts : List Tr) (x : List Nat × Tr), x ∈ walks [] i ts → ∃ (j : Nat) (t : Tr) (r : List Nat), ts[j]? = some t ∧ x.1 = (i + j) :: r ∧ Sub t r
  | _, [], x, h => by rw [walks] at h; cases h
  | i, t :: q, x, h => by
    rw [walks] at h
    rcases List.mem_append.mp h with h | h
    · rw [walk_at_pl] at h
      obtain ⟨y, hy, rfl⟩ := List.mem_map.mp h
      exact ⟨0, t, y.1, rfl, rfl, walk_sub t y hy⟩
    · obtain ⟨j, t', r, e1, e2, e3⟩ := walks_sub (i + 1) q x h
      exact ⟨j + 1, t', r, by simpa using e1, by rw [e2]; congr 1; omega, e3⟩
end
mutual
theorem walk_sh : ∀ (pl : List Nat) (t : Tr) (x : List Nat × Tr), TrSh t → x ∈ walk pl t → TrSh x.2
  | pl, .mk w n ps, x, ok, h => by
    rw [walk] at h
    rcases List.mem_cons.mp h with rfl | h
    · exact ok
    · cases ok with
      | mk _ hs => exact walks_sh pl 0 ps x hs h
theorem walks_sh : ∀ (pl : List Nat) (i : Nat) (ts : List Tr) (x : List Nat × Tr), (∀ t ∈ ts, TrSh t) → x ∈ walks pl i ts → TrSh x.2
  | _, _, [], x, _, h => by rw [walks] at h; cases h
  | pl, i, t :: q, x, hs, h => by
    rw [walks] at h
    rcases List.mem_append.mp h with h | h
    · exact walk_sh (pl ++ [i]) t x (hs t List.mem_cons_self) h
    · exact walks_sh pl (i + 1) q x (fun t ht => hs t (List.mem_cons_of_mem _ ht)) h
end
def path : Tr → List Nat → List Tr
  | t, [] => [t]
  | .mk w n ps, k :: r => .mk w n ps :: (match ps[k]? with | some u => path u r | none => [])
theorem path_cons {w : Str} {n : Dt} {ts : List Tr} {j : Nat} {t : Tr} {r : List Nat} (h : ts[j]? = some t) : path (.mk w n ts) (j :: r) = .mk w n ts :: path t r := by rw [path, h]
theorem path_len {t : Tr} {pl : List Nat} (s : Sub t pl) : (path t pl).length = pl.length + 1 := by
  induction s with
  | nil t => cases t; rfl
  | cons h _ ih => rw [path_cons h, List.length_cons, ih, List.length_cons]
theorem path_zero (t : Tr) (pl : List Nat) : (path t pl)[0]? = some t := by
  cases t with
  | mk w n ps => cases pl <;> rfl
theorem path_at {t : Tr} {pl : List Nat} (s : Sub t pl) : ∀ (i : Nat) (k : Nat), pl[i]? = some k → ∃ w n ps u, (path t pl)[i]? = some (.mk w n ps) ∧ ps[k]? = some u ∧ (path t pl)[i + 1]? = some u := by
  induction s with
  | nil t => intro i k h; simp at h
  | @cons w n ts j u r h s ih =>
    intro i k hk
    rw [path_cons h]
    cases i with
    | zero =>
      have : j = k := by simpa using hk
      subst this
      exact ⟨w, n, ts, u, rfl, h, by simpa using path_zero u r⟩
    | succ i =>
      obtain ⟨w', n', ps, u', a, b, c⟩ := ih i k (by simpa using hk)
      exact ⟨w', n', ps, u', by simpa using a, b, by simpa using c⟩
theorem path_sh {t : Tr} {pl : List Nat} (s : Sub t pl) (h : TrSh t) : ∀ u ∈ path t pl, TrSh u := by
  induction s with
  | nil t => intro u hu; cases t; rw [path, List.mem_singleton] at hu; rw [hu]; exact h
  | cons hj _ ih =>
    cases h with
    | mk h1 hs =>
      intro u hu
      rw [path_cons hj] at hu
      rcases List.mem_cons.mp hu with rfl | hu
      · exact .mk h1 hs
      · exact ih (hs _ (List.mem_of_getElem? hj)) u hu
/-! ### bindings -/
def txt1 : Dt → List Str
  | .flat (.str t) => [t]
  | _ => []
def txt2 : Dt → List Str
  | .tup [.flat (.str t), .flat (.str u)] => [t, u]
  | _ => []
/-- the names that a form binds in its part k -/
def nb (w : Str) (n : Dt) (k : Nat) : List Str := if w = "fn" then txt1 n else if w = "rec" then txt2 n else if w = "let" ∧ k = 1 then txt1 n else []
/-- the names that each form above binds -/
def lay : Tr → List Nat → List (List Str)
  | _, [] => []
  | .mk w n ps, k :: r => nb w n k :: (match ps[k]? with | some u => lay u r | none => [])
theorem lay_cons {w : Str} {n : Dt} {ts : List Tr} {j : Nat} {t : Tr} {r : List Nat} (h : ts[j]? = some t) : lay (.mk w n ts) (j :: r) = nb w n j :: lay t r := by rw [lay, h]
theorem lay_len {t : Tr} {pl : List Nat} (s : Sub t pl) : (lay t pl).length = pl.length := by
  induction s with
  | nil t => cases t; rfl
  | cons h _ ih => rw [lay_cons h, List.length_cons, ih, List.length_cons]
theorem lay_at {t : Tr} {pl : List Nat} (s : Sub t pl) : ∀ (i k : Nat) (w : Str) (n : Dt) (ps : List Tr), pl[i]? = some k → (path t pl)[i]? = some (.mk w n ps) → (lay t pl)[i]? = some (nb w n k) := by
  induction s with
  | nil t => intro i k w n ps h; simp at h
  | @cons w n ts j u r h s ih =>
    intro i k w' n' ps hk hp
    rw [path_cons h] at hp
    rw [lay_cons h]
    cases i with
    | zero =>
      have e1 : j = k := by simpa using hk
      have e2 : Tr.mk w n ts = Tr.mk w' n' ps := by simpa using hp
      cases e2
      subst e1
      rfl
    | succ i => simpa using ih i k w' n' ps (by simpa using hk) (by simpa using hp)
def bnf (d : Nat) : List (List Str) → List (Str × Nat)
  | [] => []
  | l :: r => l.map (fun x => (x, d)) ++ bnf (d + 1) r
theorem bnf_append : ∀ (d : Nat) (a b : List (List Str)), bnf d (a ++ b) = bnf d a ++ bnf (d + a.length) b
  | d, [], b => by simp [bnf]
  | d, l :: r, b => by
    rw [List.cons_append, bnf, bnf, bnf_append, List.append_assoc, List.length_cons]
    congr 3
    omega
theorem bnf_names : ∀ (d : Nat) (ls : List (List Str)), (bnf d ls).map (·.1) = ls.flatten
  | _, [] => rfl
  | d, l :: r => by
    rw [bnf, List.map_append, bnf_names, List.flatten_cons, List.map_map]
    congr 1
    exact List.map_id l
theorem bnf_shift : ∀ (d e : Nat) (ls : List (List Str)), bnf (d + e) ls = (bnf d ls).map fun x => (x.1, x.2 + e)
  | _, _, [] => rfl
  | d, e, l :: r => by
    rw [bnf, bnf, List.map_append, List.map_map, show d + e + 1 = d + 1 + e by omega, bnf_shift]
    rfl
def bn (t : Tr) (pl : List Nat) : List (Str × Nat) := bnf 0 (lay t pl)
def nms (t : Tr) (pl : List Nat) : List Str := (lay t pl).flatten
theorem bn_nms (t : Tr) (pl : List Nat) : (bn t pl).map (·.1) = nms t pl := bnf_names 0 _
/-- the depth of a binding -/
theorem bnf_at : ∀ (d : Nat) (ls : List (List Str)) (i : Nat) (x : Str) (e : Nat), (bnf d ls)[i]? = some (x, e) → d ≤ e ∧ ∃ l, ls[e - d]? = some l ∧ x ∈ l
  | d, [], i, x, e, h => by simp [bnf] at h
  | d, l :: r, i, x, e, h => by
    rw [bnf] at h
    by_cases hi : i < l.length
    · rw [List.getElem?_append_left (by simpa using hi), List.getElem?_map] at h
      cases q : l[i]? with
      | none => rw [q] at h; cases h
      | some y =>
        rw [q] at h
        have h : (y, d) = (x, e) := by simpa using h
        cases h
        exact ⟨Nat.le_refl _, l, by rw [Nat.sub_self]; rfl, List.mem_of_getElem? q⟩
    · rw [List.getElem?_append_right (by simpa using hi)] at h
      obtain ⟨a, l', b, c⟩ := bnf_at (d + 1) r _ x e h
      exact ⟨by omega, l', by rw [show e - d = (e - (d + 1)) + 1 by omega]; simpa using b, c⟩
/-- a deeper one stands behind -/
theorem bnf_behind : ∀ (d : Nat) (ls : List (List Str)) (i : Nat) (x : Str) (e : Nat), (bnf d ls)[i]? = some (x, e) → ∀ (j : Nat) (l : List Str) (y : Str), ls[j]? = some l → y ∈ l → e < d + j → y ∈ ((bnf d ls).map (·.1)).drop (i + 1)
  | d, [], i, x, e, h => by simp [bnf] at h
  | d, l0 :: r, i, x, e, h => by
    intro j l y hj hy he
    cases j with
    | zero =>
      have := (bnf_at d (l0 :: r) i x e h).1
      omega
    | succ j =>
      rw [bnf] at h ⊢
      have hj : r[j]? = some l := by simpa using hj
      by_cases hi : i < l0.length
      · rw [List.map_append, List.drop_append, List.mem_append]
        right
        rw [show i + 1 - ((l0.map fun x => (x, d)).map (·.1)).length = 0 by simp; omega, List.drop_zero, bnf_names]
        exact List.mem_flatten.mpr ⟨l, List.mem_of_getElem? hj, hy⟩
      · rw [List.getElem?_append_right (by simpa using hi)] at h
        have q := bnf_behind (d + 1) r _ x e h j l y hj hy (by omega)
        rw [List.map_append, List.drop_append, List.mem_append]
        right
        rw [show i + 1 - ((l0.map fun x => (x, d)).map (·.1)).length = i - (l0.map fun x => (x, d)).length + 1 by simp at hi ⊢; omega]
        exact q
/-! ### the last of a name -/
def lix (x : Str) : Nat → List Str → Option Nat
  | _, [] => none
  | d, y :: r => match lix x (d + 1) r with
    | some k => some k
    | none => if y = x then some d else none
theorem lix_append (x : Str) : ∀ (d : Nat) (a b : List Str), lix x d (a ++ b) = match lix x (d + a.length) b with | some k => some k | none => lix x d a
  | d, [], b => by
    rw [List.nil_append, List.length_nil, Nat.add_zero]
    cases lix x d b <;> rfl
  | d, y :: r, b => by
    rw [List.cons_append, lix, lix_append, List.length_cons, show d + 1 + r.length = d + (r.length + 1) by omega]
    cases lix x (d + (r.length + 1)) b with
    | some k => rfl
    | none => rfl
theorem lix_snoc (x y : Str) (d : Nat) (a : List Str) : lix x d (a ++ [y]) = if y = x then some (d + a.length) else lix x d a := by
  rw [lix_append, lix, lix]
  by_cases h : y = x
  · rw [if_pos h, if_pos h]
  · rw [if_neg h, if_neg h]
theorem lix_shift (x : Str) : ∀ (d e : Nat) (a : List Str), lix x (d + e) a = (lix x d a).map (· + e)
  | _, _, [] => rfl
  | d, e, y :: r => by
    rw [lix, lix, show d + e + 1 = d + 1 + e by omega, lix_shift]
    cases lix x (d + 1) r with
    | some k => rfl
    | none =>
      by_cases h : y = x
      · simp [h]
      · simp [h]
theorem lix_none (x : Str) : ∀ (d : Nat) (a : List Str), lix x d a = none → x ∉ a
  | _, [], _ => by simp
  | d, y :: r, h => by
    rw [lix] at h
    cases q : lix x (d + 1) r with
    | some k => rw [q] at h; cases h
    | none =>
      rw [q] at h
      by_cases e : y = x
      · simp [e] at h
      · intro hm
        rcases List.mem_cons.mp hm with rfl | hm
        · exact e rfl
        · exact lix_none x (d + 1) r q hm
theorem lix_some (x : Str) : ∀ (d : Nat) (a : List Str) (k : Nat), lix x d a = some k → d ≤ k ∧ a[k - d]? = some x ∧ x ∉ a.drop (k - d + 1)
  | _, [], _, h => by cases h
  | d, y :: r, k, h => by
    rw [lix] at h
    cases q : lix x (d + 1) r with
    | some k' =>
      rw [q] at h
      have h : k' = k := by simpa using h
      subst h
      obtain ⟨a1, a2, a3⟩ := lix_some x (d + 1) r k' q
      rw [show k' - d = (k' - (d + 1)) + 1 by omega]
      exact ⟨by omega, by simpa using a2, by simpa using a3⟩
    | none =>
      rw [q] at h
      by_cases e : y = x
      · have h : d = k := by simpa [e] using h
        subst h
        rw [Nat.sub_self]
        exact ⟨Nat.le_refl _, by simp [e], by simpa using lix_none x (d + 1) r q⟩
      · simp [e] at h
/-! ### another form at a place -/
def withAt : Tr → List Nat → Tr → Tr
  | _, [], f => f
  | .mk w n ps, k :: r, f => match ps[k]? with
    | some u => .mk w n (ps.set k (withAt u r f))
    | none => .mk w n ps
theorem with_cons {w : Str} {n : Dt} {ts : List Tr} {j : Nat} {t f : Tr} {r : List Nat} (h : ts[j]? = some t) : withAt (.mk w n ts) (j :: r) f = .mk w n (ts.set j (withAt t r f)) := by rw [withAt, h]
theorem with_nil (t f : Tr) : withAt t [] f = f := by cases t; rfl
theorem set_at {ts : List Tr} {j : Nat} {t u : Tr} (h : ts[j]? = some t) : (ts.set j u)[j]? = some u := by
  rw [List.getElem?_set_self (List.getElem?_eq_some_iff.mp h).1]
theorem sub_in {t f : Tr} {sp q : List Nat} (s : Sub t sp) (s' : Sub f q) : Sub (withAt t sp f) (sp ++ q) := by
  induction s with
  | nil t => rw [with_nil]; exact s'
  | cons h _ ih => rw [with_cons h]; exact .cons (set_at h) ih
theorem lay_in {t f : Tr} {sp q : List Nat} (s : Sub t sp) : lay (withAt t sp f) (sp ++ q) = lay t sp ++ lay f q := by
  induction s with
  | nil t => rw [with_nil]; cases t; rfl
  | cons h _ ih => rw [with_cons h, List.cons_append, lay_cons (set_at h), ih, lay_cons h]; rfl
theorem out_sub {t f : Tr} {sp pl : List Nat} (s : Sub t sp) (s' : Sub t pl) (hn : pl.take sp.length ≠ sp) : Sub (withAt t sp f) pl ∧ lay (withAt t sp f) pl = lay t pl := by
  induction s generalizing pl with
  | nil t => exact absurd (by simp) hn
  | @cons w n ts j t r h s ih =>
    rw [with_cons h]
    cases s' with
    | nil _ => exact ⟨.nil _, rfl⟩
    | @cons _ _ _ j' t' r' h' s' =>
      by_cases e : j' = j
      · subst e
        rw [h] at h'
        cases h'
        have := ih s' (fun z => hn (by rw [List.length_cons, List.take_succ_cons, z]))
        exact ⟨.cons (set_at h) this.1, by rw [lay_cons (set_at h), this.2, lay_cons h]⟩
      · have h2 : (ts.set j (withAt t r f))[j']? = some t' := by rw [List.getElem?_set_ne (Ne.symm e)]; exact h'
        exact ⟨.cons h2 s', by rw [lay_cons h2, lay_cons h']⟩
theorem with_sh {t f : Tr} {sp : List Nat} (s : Sub t sp) (h : TrSh t) (hf : TrSh f) : TrSh (withAt t sp f) := by
  induction s with
  | nil t => rw [with_nil]; exact hf
  | cons hj _ ih =>
    rw [with_cons hj]
    cases h with
    | mk h1 hs =>
      refine .mk h1 fun u hu => ?_
      rcases List.mem_or_eq_of_mem_set hu with hu | rfl
      · exact hs u hu
      · exact ih (hs _ (List.mem_of_getElem? hj))
theorem with_path {t f : Tr} {pl : List Nat} (s : Sub t pl) : ∀ (m k : Nat) (w : Str) (n : Dt) (ps : List Tr) (u : Tr), pl[m]? = some k → (path t pl)[m]? = some (.mk w n ps) → (path t pl)[m + 1]? = some u → withAt (.mk w n ps) (pl.drop m) f = .mk w n (ps.set k (withAt u (pl.drop (m + 1)) f)) := by
  intro m k w n ps u hk hp hu
  obtain ⟨w', n', ps', u', a, b, c⟩ := path_at s m k hk
  rw [hp] at a
  cases a
  rw [hu] at c
  cases c
  have hl := (List.getElem?_eq_some_iff.mp hk)
  obtain ⟨g, e⟩ := hl
  rw [List.drop_eq_getElem_cons g, e, with_cons b]
/-! ### what is told of a name -/
def told (t : Tr) (pl : List Nat) (x : Str) : Option (Nat × Nat) := (lix x 0 (nms t pl)).bind fun i => ((bn t pl)[i]?).map fun y => (i, y.2)
theorem told_some {t : Tr} {pl : List Nat} {x : Str} {i : Nat} (h : lix x 0 (nms t pl) = some i) : ∃ d, (bn t pl)[i]? = some (x, d) ∧ told t pl x = some (i, d) := by
  obtain ⟨_, a, _⟩ := lix_some x 0 _ i h
  rw [Nat.sub_zero, ← bn_nms, List.getElem?_map] at a
  cases q : (bn t pl)[i]? with
  | none => rw [q] at a; cases a
  | some y =>
    rw [q] at a
    have a : y.1 = x := by simpa using a
    refine ⟨y.2, by rw [← a], ?_⟩
    unfold told
    rw [h]
    show ((bn t pl)[i]?).map _ = _
    rw [q]
    rfl
theorem told_none {t : Tr} {pl : List Nat} {x : Str} (h : lix x 0 (nms t pl) = none) : told t pl x = none := by unfold told; rw [h]; rfl
theorem told_out {t f : Tr} {sp pl : List Nat} (s : Sub t sp) (s' : Sub t pl) (hn : pl.take sp.length ≠ sp) (x : Str) : told (withAt t sp f) pl x = told t pl x := by
  unfold told bn nms
  rw [(out_sub s s' hn).2]
theorem nms_len (t : Tr) (pl : List Nat) : (nms t pl).length = (bn t pl).length := by rw [← bn_nms, List.length_map]
theorem told_in {t f : Tr} {sp q : List Nat} (s : Sub t sp) (x : Str) : told (withAt t sp f) (sp ++ q) x = match told f q x with | some (i, d) => some (i + (nms t sp).length, d + sp.length) | none => told t sp x := by
  have e1 : nms (withAt t sp f) (sp ++ q) = nms t sp ++ nms f q := by unfold nms; rw [lay_in s, List.flatten_append]
  have e2 : bn (withAt t sp f) (sp ++ q) = bn t sp ++ (bn f q).map fun x => (x.1, x.2 + sp.length) := by
    unfold bn
    rw [lay_in s, bnf_append, lay_len s, bnf_shift]
  have e3 : lix x 0 (nms (withAt t sp f) (sp ++ q)) = match (lix x 0 (nms f q)) with | some k => some (k + (nms t sp).length) | none => lix x 0 (nms t sp) := by
    rw [e1, lix_append, Nat.zero_add, show (nms t sp).length = 0 + (nms t sp).length by omega, lix_shift]
    cases lix x 0 (nms f q) <;> simp
  cases h : lix x 0 (nms f q) with
  | some i =>
    obtain ⟨d, a, b⟩ := told_some h
    rw [h] at e3
    rw [b]
    unfold told
    rw [e3, e2]
    show (((bn t sp ++ (bn f q).map fun x => (x.1, x.2 + sp.length)))[i + (nms t sp).length]?).map _ = _
    rw [nms_len, List.getElem?_append_right (by omega), Nat.add_sub_cancel, List.getElem?_map, a]
    rfl
  | none =>
    rw [h] at e3
    rw [told_none h]
    show told _ _ _ = told t sp x
    cases g : lix x 0 (nms t sp) with
    | none =>
      rw [told_none g]
      exact told_none (e3.trans g)
    | some i =>
      obtain ⟨d, a, b⟩ := told_some g
      rw [b]
      unfold told
      rw [e3, g, e2]
      show ((bn t sp ++ (bn f q).map fun x => (x.1, x.2 + sp.length))[i]?).map _ = _
      rw [List.getElem?_append_left (List.getElem?_eq_some_iff.mp a).1, a]
      rfl
end K19

set_option Elab.async false
set_option linter.all false
set_option maxRecDepth 100000
set_option maxHeartbeats 4000000
namespace K17
open PySem L2 K19
mutual
theorem walk_form : ∀ (t : Tr) (x : List Nat × Tr), x ∈ walk [] t → (path t x.1)[x.1.length]? = some x.2
  | .mk w n ps, x, h => by
    rw [walk] at h
    rcases List.mem_cons.mp h with h | h
    · subst h; rfl
    · obtain ⟨j, t, r, h1, h2, h3⟩ := walks_form 0 ps x h
      rw [h2, Nat.zero_add, path_cons h1]
      exact h3
theorem walks_form : ∀ (i : Nat) (ts : List Tr) (x : List Nat × Tr), x ∈ walks [] i ts → ∃ (j : Nat) (t : Tr) (r : List Nat), ts[j]? = some t ∧ x.1 = (i + j) :: r ∧ (path t r)[r.length]? = some x.2
  | _, [], x, h => by rw [walks] at h; cases h
  | i, t :: q, x, h => by
    rw [walks] at h
    rcases List.mem_append.mp h with h | h
    · rw [List.nil_append, walk_at_pl] at h
      obtain ⟨y, hy, rfl⟩ := List.mem_map.mp h
      exact ⟨0, t, y.1, rfl, rfl, walk_form t y hy⟩
    · obtain ⟨j, t', r, h1, h2, h3⟩ := walks_form (i + 1) q x h
      exact ⟨j + 1, t', r, h1, by rw [h2]; congr 1; omega, h3⟩
end
theorem snoc_at {t : Tr} {pl : List Nat} (s : Sub t pl) : ∀ {w : Str} {n : Dt} {ps : List Tr} {k : Nat} {u : Tr}, (path t pl)[pl.length]? = some (.mk w n ps) → ps[k]? = some u → Sub t (pl ++ [k]) ∧ lay t (pl ++ [k]) = lay t pl ++ [nb w n k] := by
  induction s with
  | nil t =>
    intro w n ps k u h1 h2
    have h1 : some t = some (.mk w n ps) := by rw [← h1]; exact (path_zero t []).symm
    cases h1
    refine ⟨.cons h2 (.nil _), ?_⟩
    rw [List.nil_append, lay_cons h2]
    cases u
    rfl
  | cons h hs ih =>
    intro w n ps k u h1 h2
    rw [path_cons h, List.length_cons, List.getElem?_cons_succ] at h1
    obtain ⟨a, b⟩ := ih h1 h2
    exact ⟨.cons h a, by rw [List.cons_append, lay_cons h, b, lay_cons h]; rfl⟩
theorem bn_snoc {t : Tr} {pl : List Nat} (s : Sub t pl) {w : Str} {n : Dt} {ps : List Tr} {k : Nat} {u : Tr} (h1 : (path t pl)[pl.length]? = some (.mk w n ps)) (h2 : ps[k]? = some u) : bn t (pl ++ [k]) = bn t pl ++ (nb w n k).map fun y => (y, pl.length) := by
  unfold bn
  rw [(snoc_at s h1 h2).2, bnf_append, lay_len s, Nat.zero_add]
  simp [bnf]
theorem bn_lt {t : Tr} {pl : List Nat} (s : Sub t pl) {x : Str × Nat} (h : x ∈ bn t pl) : x.2 < pl.length := by
  obtain ⟨i, hi⟩ := List.mem_iff_getElem?.mp h
  obtain ⟨_, l, hl, _⟩ := bnf_at 0 _ i x.1 x.2 hi
  rw [Nat.sub_zero] at hl
  have := (List.getElem?_eq_some_iff.mp hl).1
  rw [lay_len s] at this
  exact this
end K17

set_option Elab.async false
set_option linter.all false
set_option maxRecDepth 100000
set_option maxHeartbeats 4000000
namespace K17
open PySem L2 K19
def top (i : Nat) : Stmt := PySem.Challenge.pw_gapscribe_k17_names_and_bindings.main.body.getD i (.Pass ⟨0, 0, 0, 0⟩)
abbrev s_is_whole : Stmt := top 4
abbrev s_has_part : Stmt := top 6
abbrev s_forms_down_to : Stmt := top 7
abbrev s_names_bound : Stmt := top 9
abbrev s_bindings_at : Stmt := top 10
abbrev s_names_at : Stmt := top 11
abbrev s_binding_at : Stmt := top 12
abbrev s_binder : Stmt := top 13
abbrev s_law_cell : Stmt := top 15
abbrev s_law_names : Stmt := top 16
abbrev s_law_odd : Stmt := top 17
abbrev s_law_number : Stmt := top 18
abbrev s_law_head : Stmt := top 19
abbrev s_law_many : Stmt := top 20
abbrev s_law_tree : Stmt := top 21
abbrev s_law_bound : Stmt := top 22
abbrev s_law_scopes : Stmt := top 23
abbrev s_law_last : Stmt := top 24
abbrev s_law_whole : Stmt := top 25
abbrev s_law_good : Stmt := top 26
abbrev s_law_refused : Stmt := top 27
abbrev s_law : Stmt := top 28
structure Txt (K : PySem.W.Frag) (mg : Str → Option Value) : Prop where
  isinstance : mg "isinstance" = none
  int : mg "int" = none
  bool : mg "bool" = none
  len : mg "len" = none
  list : mg "list" = none
  enumerate : mg "enumerate" = none
  range : mg "range" = none
  tuple : mg "tuple" = none
end K17
namespace K17
open PySem L2 K19
structure Script (K : PySem.W.Frag) (H : Hp) (a : Addr) : Prop where
  ex : ∃ ns : List Int, SqL K H a (ns.map V.int) ∧ ns.length ≤ 63
theorem Script.same {K : PySem.W.Frag} {H H' : Hp} {a : Addr} (S : Script K H a) (h : Same H H') : Script K H' a := by
  obtain ⟨ns, q, l⟩ := S.ex
  exact ⟨ns, h.seq q, l⟩
end K17

set_option Elab.async false
set_option linter.all false
set_option maxRecDepth 100000
set_option maxHeartbeats 4000000
local macro_rules | `(tactic| walk_at "r1") => `(tactic| (first | (with_reducible first | refine L2.s_seq ?_ | refine L2.s_asg ?_ | refine L2.s_ret ?_ | refine L2.s_ifS ?_ | refine L2.s_test ?_ | refine L2.s_op ?_ | refine L2.s_c ?_ | refine L2.s_cons ?_ | refine L2.s_nil ?_ | refine L2.s_call ?_ | refine L2.s_cb ?_ | refine L2.s_gname ?_ | refine L2.s_ex ?_ | refine L2.s_exi ?_ | refine L2.s_drop ?_ | refine L2.s_next ?_ | refine L2.s_un ?_ | refine L2.s_tB ?_ | refine L2.s_not ?_ | refine L2.s_and ?_ | refine L2.s_or ?_ | refine L2.s_andV ?_ | refine L2.s_orV ?_ | refine L2.s_notV ?_ | refine L2.s_vals ?_ | refine L2.s_tup ?_ | refine L2.s_lst ?_ | refine L2.s_bm ?_ | refine L2.s_bm0 ?_ | refine L2.s_sl ?_ | refine L2.s_po ?_ | refine L2.s_po0 ?_ | refine L2.s_gcons ?_ | refine L2.s_gnil ?_ | refine L2.s_gsub ?_ | refine L2.s_isN ?_ | refine L2.s_notN ?_ | refine L2.s_rI0 ?_ | refine L2.s_rU ?_ | refine L2.s_add_int ?_ | refine L2.s_lt ?_ | refine L2.s_le ?_ | refine L2.iteT ?_ | refine L2.iteF ?_ | refine L2.s_comp ?_ | refine L2.s_for ?_ | refine L2.s_rng1 ?_ | refine L2.s_rng3 ?_ | refine L2.s_exr ?_ | refine L2.s_iany ?_ | refine L2.s_irev ?_ | refine L2.s_ienum ?_ | refine L2.s_listen ?_ | refine L2.s_listrev ?_ | refine L2.s_izip ?_ | refine L2.s_ienumT ?_ | refine L2.s_listzp ?_ | refine L2.s_ipI ?_ | refine L2.s_yes ?_ | refine L2.s_turn ?_ | refine L2.s_int_b ?_ | refine L2.s_intb ?_ | refine L2.s_truth ?_ | refine L2.s_chain ?_ | refine L2.s_nt ?_ | refine L2.s_nf ?_) | ((with_reducible refine' L2.s_var ?e ?_); (case e => exact rfl)) | ((with_reducible refine' L2.s_aug ?e ?_); (case e => exact rfl)) | ((with_reducible refine' L2.s_eq ?e ?_); (case e => exact rfl)) | ((with_reducible refine' L2.s_ne ?e ?_); (case e => exact rfl)) | ((with_reducible refine' L2.s_neb ?e ?_); (case e => exact rfl)) | ((with_reducible refine' L2.s_rI ?c ?_); (case c => first | decide | exact ⟨by decide, by decide⟩ | exact ⟨by decide, by decide, by decide⟩)) | ((with_reducible refine' L2.s_mul_r ?a ?b ?_); (case a => decide); (case b => decide)) | ((with_reducible refine' L2.s_mul_l ?a ?b ?_); (case a => decide); (case b => decide)) | ((with_reducible refine' L2.s_exr3 ?e ?_); (case e => decide))))
local macro_rules | `(tactic| walk_at "r") => `(tactic| (repeat walk_at "r1"))
namespace K17
open PySem L2 K19
section
variable {P : Program} {w : World} {K : PySem.W.Frag} {mg : Str → Option Value} {base : Heap}
def sp_cell (K : PySem.W.Frag) : Sp := fun vs H Q _ => ∃ (a : Addr) (k : Int), vs = [.ref a, .int k] ∧ Script K H a ∧ 0 ≤ k ∧ ∀ z : Int, Q (.int z) H
theorem sc_law_cell : FnScope ["_law_script", "_law_k", "_law_many_here", "_law_first"] ["_law_script", "_law_k"] (defScope s_law_cell) := ⟨rfl, rfl, rfl, by decide +kernel, rfl, by decide +kernel, by decide +kernel⟩
theorem ok_cell {f : Addr} {fd : FuncData} (F : Fun K "_law_cell" "_law_cell" s_law_cell f fd) (T : Txt K mg) : FnOk P w K mg base CX0 1 f fd ["_law_script", "_law_k"] (sp_cell K) := by
  refine F.okq sc_law_cell (fun vs H Q E h => ?_) (fun cdv A outer s H vs Q E hr h => ?_)
  · obtain ⟨a, k, rfl, _⟩ := h
    rfl
  · obtain ⟨a, k, rfl, S, h0, q⟩ := h
    obtain ⟨ns, hS, hl⟩ := S.ex
    refine ⟨_, qss_cons (qs_if (qt_cmpR op_ltA (qv 1) (qe_callB (k_len K) (by rfl) T.len (by decide +kernel) (qa_cons (qv 0) qa_nil)) (nomark _)) (qss_one (qs_ret (qe_ix (k_ix K) (qv 0) (qv 1) (fun _ _ => rfl)))) (qss_nil))
      (qss_cons (qs_set (i := 2) sc_law_cell.nd rfl (Or.inl rfl) (qe_callB (k_len K) (by rfl) T.len (by decide +kernel) (qa_cons (qv 0) qa_nil)))
      (qss_cons (qs_set (i := 3) sc_law_cell.nd rfl (Or.inl rfl) (qe_int))
      (qss_cons (qs_if (qt_cmpR op_gt (qv 2) (qe_int) (nomark _)) (qss_one (qs_set (i := 3) sc_law_cell.nd rfl (Or.inl rfl) (qe_op op_mod (qe_ix (k_ix K) (qv 0) (qe_op op_mod (qv 1) (qv 2)) (fun _ _ => rfl)) (qe_int)))) (qss_nil))
      (qss_one (qs_ret (qe_op op_mod (qe_op (k_add K) (qe_op (k_add K) (qe_op op_mulA (qv 3) (qe_int)) (qe_op op_mulA (qv 2) (qe_int))) (qe_op op_mulA (qv 1) (qe_int))) (qe_int))))))), ?_⟩
    walk_at "r"
    refine s_len_lst hS ?_
    walk_at "r"
    refine ite2 (fun h => ?_) (fun h => ?_)
    · have h1 : k < (ns.map V.int).length := by simpa using h
      obtain ⟨v, hv, m⟩ := atI_in h0 h1
      obtain ⟨z, _, rfl⟩ := List.mem_map.mp m
      walk_at "r"
      exact s_ix_lst hS hv (q z)
    · walk_at "r"
      refine s_len_lst hS ?_
      walk_at "r"
      refine ite2 (fun h => ?_) (fun h => ?_)
      · have hp : (0 : Int) < (ns.map V.int).length := by simpa using h
        obtain ⟨v, hv, m⟩ := atI_in (xs := ns.map V.int) (Int.emod_nonneg k (by omega)) (Int.emod_lt_of_pos k hp)
        obtain ⟨z, _, rfl⟩ := List.mem_map.mp m
        walk_at "r"
        refine s_rI hp ?_
        refine s_ix_lst hS hv ?_
        walk_at "r"
        exact q _
      · walk_at "r"
        exact q _
end
end K17

set_option Elab.async false
set_option linter.all false
set_option maxRecDepth 100000
set_option maxHeartbeats 4000000
namespace K17
open PySem L2 K19
section
variable {P : Program} {w : World} {K : PySem.W.Frag} {mg : Str → Option Value} {base : Heap}
def LETS : Str := "abcdefghijklmnopqrstuvwxyz_"
theorem lets_len : LETS.cps.toList.length = 27 := by decide +kernel
theorem lets_size : LETS.length ≤ sizeLine := by decide +kernel
theorem catlen (u v : Str) : (u ++ v).length = u.length + v.length := by
  show (u.cps ++ v.cps).size = _
  simp [Str.length]
theorem one_len (c : Nat) : (⟨#[c]⟩ : Str).length = 1 := rfl
theorem big : 100000 ≤ sizeLine := by decide
def sp_names : Sp := fun vs H Q _ => ∃ (a b : Int), vs = [.int a, .int b] ∧ ∀ (p : Addr) (t0 t1 t2 : Str) (H' : Hp), Same H H' → H p = none → H' p = some (.lst [.str t0, .str t1, .str t2]) → Q (.ref p) H'
theorem nd_law_names_1 : (["_law_k", "_law_one"] : List Str).Nodup := by decide +kernel
theorem sc_law_names : FnScope ["_law_one", "_law_other", "_law_letters", "_law_size", "_law_base", "_law_step", "_law_names_here", "_law_j", "_law_name", "_law_k", "_law_move"] ["_law_one", "_law_other"] (defScope s_law_names) := ⟨rfl, rfl, rfl, by decide +kernel, rfl, by decide +kernel, by decide +kernel⟩
theorem three {α : Type} {xs : List α} (h : xs.length = 3) : ∃ a b c, xs = [a, b, c] := by
  match xs, h with
  | [a, b, c], _ => exact ⟨a, b, c, rfl⟩
theorem flat_strs {ws : List Str} : (ws.map V.str).all flatV = true := by
  rw [List.all_map]
  exact List.all_eq_true.mpr fun _ _ => rfl
def NmJ (H : Hp) (a b : Int) (D p : Addr) (ms : List Int) (j : Nat) (σ' : St) (H' : Hp) : Prop := ∃ (v7 v8 v9 v10 : Option V) (ts : List Str), σ' = [some (.int a), some (.int b), some (.str LETS), some (.int (1 + a % 8)), some (.ref D), some (.int (1 + b / 8 % 13)), some (.ref p), v7, v8, v9, v10] ∧ H' D = some (.lst (ms.map V.int)) ∧ H' p = some (.lst (ts.map V.str)) ∧ ts.length = j ∧ (∀ t ∈ ts, t.length ≤ 10) ∧ Same H H'
theorem ok_names {f : Addr} {fd : FuncData} (F : Fun K "_law_names" "_law_names" s_law_names f fd) (T : Txt K mg) : FnOk P w K mg base CX0 1 f fd ["_law_one", "_law_other"] sp_names := by
  refine F.okq sc_law_names (fun vs H Q E h => ?_) (fun cdv A outer s H vs Q E hr h => ?_)
  · obtain ⟨a, b, rfl, _⟩ := h
    rfl
  · obtain ⟨a, b, rfl, q⟩ := h
    refine ⟨_, qss_cons (qs_set (i := 2) sc_law_names.nd rfl (Or.inl rfl) (qe_str))
      (qss_cons (qs_set (i := 3) sc_law_names.nd rfl (Or.inl rfl) (qe_op (k_add K) (qe_int) (qe_op op_mod (qv 0) (qe_int))))
      (qss_cons (qs_setC (i := 4) (N := ["_law_k", "_law_one"]) (σ0 := capSt 1 [0]) rfl (cscope_fn rfl (by decide +kernel) (by decide +kernel) (by decide +kernel)) (qi_range1 rfl T.range (qa_cons (qv 3) qa_nil)) (takes_in rfl (by rfl)) (fun _ _ _ _ => qg_name (i := 0) nd_law_names_1 rfl (Or.inl rfl)) (fun _ _ _ _ => qts_nil) (fun _ _ _ _ => qe_op op_mod (qe_op op_mod (qe_op op_mulA (qv 1) (qe_op (k_add K) (qe_op op_mulA (qe_int) (qv 0)) (qe_int))) (qe_int)) (qe_int)) sc_law_names.nd rfl (Or.inl rfl))
      (qss_cons (qs_set (i := 5) sc_law_names.nd rfl (Or.inl rfl) (qe_op (k_add K) (qe_int) (qe_op op_mod (qe_op op_fdiv (qv 1) (qe_int)) (qe_int))))
      (qss_cons (qs_set (i := 6) sc_law_names.nd rfl (Or.inl rfl) (qe_lst (qa_nil)))
      (qss_cons (qs_for PassesOwn.never rfl (qi_range1 rfl T.range (qa_cons (qe_int) qa_nil)) (qg_name (i := 7) sc_law_names.nd rfl (Or.inl rfl)) (qss_cons (qs_set (i := 8) sc_law_names.nd rfl (Or.inl rfl) (qe_str))
      (qss_cons (qs_for PassesOwn.never rfl (qi_range1 rfl T.range (qa_cons (qv 3) qa_nil)) (qg_name (i := 9) sc_law_names.nd rfl (Or.inl rfl)) (qss_cons (qs_set (i := 10) sc_law_names.nd rfl (Or.inl rfl) (qe_op op_mulA (qe_op op_mulA (qv 7) (qv 5)) (qe_callTy k_int (by rfl) T.int (by decide +kernel) (qa_cons (qe_cmpR (k_eq K hr.u200) (qv 9) (qe_op op_mod (qv 1) (qv 3)) (nomark _)) qa_nil))))
      (qss_one (qs_set (i := 8) sc_law_names.nd rfl (Or.inl rfl) (qe_op (k_add K) (qv 8) (qe_ix (k_ix K) (qv 2) (qe_op op_mod (qe_op (k_add K) (qe_ix (k_ix K) (qv 4) (qv 9) (fun _ _ => rfl)) (qv 10)) (qe_int)) (fun _ _ => rfl)))))))
      (qss_cons (qs_if (qt_cmpR (k_in K) (qv 8) (qe_tup (qa_consts (xs := [.str "let", .str "in", .str "if", .str "then", .str "else", .str "fn", .str "rec", .str "yes", .str "no"]) rfl)) (by rfl)) (qss_one (qs_set (i := 8) sc_law_names.nd rfl (Or.inl rfl) (qe_op (k_add K) (qv 8) (qe_str)))) (qss_nil))
      (qss_one (qs_expr (qe_bmK K PySem.F.plainAttrs_list PySem.F.slot_list_append PySem.F.type_list_append mt_append (qv 6) (qa_cons (qv 8) qa_nil))))))))
      (qss_cons (qs_if (QW.qt (qw_and (qt_cmpR (k_eq K hr.u200) (qe_op op_mod (qe_op op_fdiv (qv 1) (qe_int)) (qe_int)) (qe_int) (nomark _)) (qw_and1 (qt_cmpR op_ltA (qe_callB (k_len K) (by rfl) T.len (by decide +kernel) (qa_cons (qe_ix (k_ix K) (qv 6) (qe_int) (fun _ _ => rfl)) qa_nil)) (qe_int) (nomark _))))) (qss_one (qs_asg (qe_op (k_add K) (qe_ix (k_ix K) (qv 6) (qe_int) (fun _ _ => rfl)) (qe_str)) (qg_sub (qv 6) (qe_int) set_list))) (qss_nil))
      (qss_one (qs_ret (qv 6))))))))), ?_⟩
    have bg := big
    have hs0 : 0 ≤ a % 8 := Int.emod_nonneg a (by decide)
    have hs1 : a % 8 < 8 := Int.emod_lt_of_pos a (by decide)
    have hst0 : 0 ≤ b / 8 % 13 := Int.emod_nonneg _ (by decide)
    have hst1 : b / 8 % 13 < 13 := Int.emod_lt_of_pos _ (by decide)
    walk_at "r"
    refine ⟨by omega, by omega, fun D hD => ?_⟩
    refine comp_range (Pv := fun i ys σ' H' => ∃ kv ms, σ' = [kv, some (.int a)] ∧ ys = ms.map V.int ∧ ms.length = i ∧ Same H H') ⟨none, [], rfl, rfl, rfl, Same.upd hD⟩ ?_ ?_
    · rintro i ys σ' H' hi hys ⟨kv, ms, rfl, rfl, hl, hH⟩
      walk_at "r"
      refine s_mul_r (by omega) (by omega) ?_
      walk_at "r"
      refine ⟨_, hys, by rw [List.length_map]; omega, _, upd_same, ?_⟩
      exact ⟨_, ms ++ [_], rfl, by rw [List.map_append]; rfl, by simp [hl], hH.over hD⟩
    · rintro ys σ' H1 hys ⟨kv, ms, rfl, rfl, hl, hH⟩
      walk_at "r"
      refine ⟨by show 0 ≤ sizeLine; decide, fun p hp => ?_⟩
      have hpD : D ≠ p := fun z => by rw [z, hp] at hys; cases hys
      have hp0 : H p = none := hH.free hp
      have hys' : upd H1 p (.lst []) D = some (.lst (ms.map V.int)) := by rw [upd_ne hpD]; exact hys
      walk_at "r"
      refine ⟨by decide, by decide, ?_⟩
      refine for_range (n := 3) (NmJ H a b D p ms) ⟨_, _, _, _, [], rfl, hys', upd_same, rfl, (fun t h => nomatch h), hH.put hp⟩ ?_ ?_
      · rintro j σ' H2 hj ⟨v7, v8, v9, v10, ts, rfl, hD2, hp2, hl2, hle2, sm2⟩
        walk_at "r"
        refine ⟨by omega, by omega, ?_⟩
        refine for_range (n := (1 + a % 8).toNat) (fun k σ' H' => ∃ v9 v10 t, σ' = [some (.int a), some (.int b), some (.str LETS), some (.int (1 + a % 8)), some (.ref D), some (.int (1 + b / 8 % 13)), some (.ref p), some (.int (0 + j)), some (.str t), v9, v10] ∧ t.length = k ∧ H' = H2) ⟨_, _, Str.empty, rfl, rfl, rfl⟩ ?_ ?_
        · rintro k σ' H3 hk ⟨v9', v10', t, rfl, hl3, rfl⟩
          walk_at "r"
          refine s_mul_l (by omega) (by omega) ?_
          walk_at "r"
          refine s_rI (by omega) ?_
          walk_at "r"
          refine s_mul_r (by split <;> decide) (by split <;> decide) ?_
          walk_at "r"
          have hk' : (k : Int) < ((ms.map V.int).length : Int) := by rw [List.length_map]; omega
          obtain ⟨v, hv, m⟩ := atI_in (xs := ms.map V.int) (i := 0 + (k : Int)) (by omega) (by omega)
          obtain ⟨z, _, rfl⟩ := List.mem_map.mp m
          refine s_ix_lst (SqL.of hD2) hv ?_
          walk_at "r"
          obtain ⟨c, hc, _⟩ := atI_in (xs := LETS.cps.toList) (i := (z + (0 + (j : Int)) * (1 + b / 8 % 13) * (if decide (V.int (0 + (k : Int)) = V.int (b % (1 + a % 8))) = true then 1 else 0)) % 27) (Int.emod_nonneg _ (by decide)) (by rw [lets_len]; exact Int.emod_lt_of_pos _ (by decide))
          refine s_ix_str lets_size hc ?_
          refine s_add_str (by rw [one_len]; omega) ?_
          exact ⟨_, _, _, rfl, by rw [catlen, one_len]; omega, rfl⟩
        · rintro σ' H3 ⟨v9', v10', t, rfl, hl3, rfl⟩
          walk_at "r"
          refine ⟨by show 9 ≤ sizeLine; decide, fun p9 h9 => ?_⟩
          refine s_in_seq (.inr (SqT.of upd_same)) rfl rfl ?_
          have nD : D ≠ p9 := fun z => by rw [z, h9] at hD2; cases hD2
          have np : p ≠ p9 := fun z => by rw [z, h9] at hp2; cases hp2
          have hpU : ∀ o, upd H3 p9 o p = some (.lst (ts.map V.str)) := fun o => by rw [upd_ne np]; exact hp2
          have hDU : ∀ o, upd H3 p9 o D = some (.lst (ms.map V.int)) := fun o => by rw [upd_ne nD]; exact hD2
          have smU : ∀ o, Same H (upd H3 p9 o) := fun o => sm2.put h9
          have fin : ∀ (t' : Str) (o : HO), t'.length ≤ 10 → NmJ H a b D p ms (j + 1) [some (.int a), some (.int b), some (.str LETS), some (.int (1 + a % 8)), some (.ref D), some (.int (1 + b / 8 % 13)), some (.ref p), some (.int (0 + (j : Int))), some (.str t'), v9', v10'] (upd (upd H3 p9 o) p (.lst (ts.map V.str ++ [.str t']))) := fun t' o ht' =>
            ⟨_, _, _, _, ts ++ [t'], rfl, by rw [upd_ne hpD]; exact hDU o, by rw [upd_same, List.map_append]; rfl, by simp [hl2], fun u hu => by
              rcases List.mem_append.mp hu with hu | hu
              · exact hle2 u hu
              · rw [List.mem_singleton.mp hu]; exact ht', (smU o).over hp0⟩
          walk_at "r"
          refine ite2 (fun _ => ?_) (fun _ => ?_)
          · walk_at "r"
            have l1 : (Str.ofString "_").length = 1 := by decide +kernel
            refine s_add_str (by rw [l1]; omega) ?_
            walk_at "r"
            refine s_tyL (SqL.of (hpU _)) ?_
            walk_at "r"
            refine s_app (hpU _) (by rw [List.length_map]; omega) ?_
            exact fin _ _ (by rw [catlen, l1]; omega)
          · walk_at "r"
            refine s_tyL (SqL.of (hpU _)) ?_
            walk_at "r"
            refine s_app (hpU _) (by rw [List.length_map]; omega) ?_
            exact fin _ _ (by omega)
      · rintro σ' H2 ⟨v7, v8, v9, v10, ts, rfl, hD2, hp2, hl2, hle2, sm2⟩
        obtain ⟨t0, t1, t2, rfl⟩ := three hl2
        have l0 := hle2 t0 (by simp)
        walk_at "r"
        refine ite2 (fun _ => ?_) (fun _ => ?_)
        · walk_at "r"
          refine s_ix_lst (SqL.of hp2) (v := .str t0) rfl ?_
          walk_at "r"
          refine s_len_str (by omega) ?_
          walk_at "r"
          refine ite2 (fun _ => ?_) (fun _ => ?_)
          · walk_at "r"
            refine s_ix_lst (SqL.of hp2) (v := .str t0) rfl ?_
            have l1 : (Str.ofString "_").length = 1 := by decide +kernel
            refine s_add_str (by rw [l1]; omega) ?_
            walk_at "r"
            refine s_setL hp2 (j := 2) rfl ?_
            walk_at "r"
            exact q p _ _ _ _ (sm2.over hp0) hp0 upd_same
          · walk_at "r"
            exact q p _ _ _ _ sm2 hp0 hp2
        · walk_at "r"
          exact q p _ _ _ _ sm2 hp0 hp2
end
end K17

set_option Elab.async false
set_option linter.all false
set_option maxRecDepth 100000
set_option maxHeartbeats 4000000
namespace K17
open PySem L2 K19
section
variable {P : Program} {w : World} {K : PySem.W.Frag} {mg : Str → Option Value} {base : Heap}
def SIG91 : Str := "!\"#$&'*+,-./0123456789:;<=>?@ABCDEFGHIJKLMNOPQRSTUVWXYZ[\\]^_`abcdefghijklmnopqrstuvwxyz{|}~"
def SIG27 : Str := "!\"#$&'*,./:;=>@AQZ[\\]^`{|}~"
theorem sig91_len : SIG91.cps.toList.length = 91 := by decide +kernel
theorem sig91_size : SIG91.length ≤ sizeLine := by decide +kernel
theorem sig27_len : SIG27.cps.toList.length = 27 := by decide +kernel
theorem sig27_size : SIG27.length ≤ sizeLine := by decide +kernel
def sp_odd : Sp := fun vs H Q _ => ∃ c : Int, vs = [.int c] ∧ ∀ (t : Str) (H' : Hp), Same H H' → Q (.str t) H'
theorem sum_ones {ts : List Str} (h : ∀ t ∈ ts, t.length = 1) : (ts.map (·.length)).sum = ts.length := by
  induction ts with
  | nil => rfl
  | cons t r ih =>
    rw [List.map_cons, List.sum_cons, h t List.mem_cons_self, ih fun u hu => h u (List.mem_cons_of_mem _ hu), List.length_cons]
    omega
theorem join_le {ts : List Str} (h : ∀ t ∈ ts, t.length = 1) : (Txt.join "" ts).length ≤ ts.length := by
  have e : ("" : Str) = Str.empty := by decide +kernel
  have := PySem.StrLaws.join_length_le Str.empty ts
  rw [sum_ones h, show Str.empty.length = 0 from rfl] at this
  unfold Txt.join
  rw [PySem.StrLaws.glued_eq_join, e]
  omega
theorem nd_law_odd_1 : (["_law_k", "_law_signs", "_law_cell_here"] : List Str).Nodup := by decide +kernel
theorem sc_law_odd : FnScope ["_law_cell_here", "_law_some", "_law_signs", "_law_size", "_law_text", "_law_at"] ["_law_cell_here"] (defScope s_law_odd) := ⟨rfl, rfl, rfl, by decide +kernel, rfl, by decide +kernel, by decide +kernel⟩
theorem ok_odd {f : Addr} {fd : FuncData} (F : Fun K "_law_odd" "_law_odd" s_law_odd f fd) (T : Txt K mg) : FnOk P w K mg base CX0 1 f fd ["_law_cell_here"] sp_odd := by
  refine F.okq sc_law_odd (fun vs H Q E h => ?_) (fun cdv A outer s H vs Q E hr h => ?_)
  · obtain ⟨a, rfl, _⟩ := h
    rfl
  · obtain ⟨c, rfl, q⟩ := h
    refine ⟨_, qss_cons (qs_set (i := 1) sc_law_odd.nd rfl (Or.inl rfl) (qe_lst (qa_consts (xs := [.str "in", .str "then", .str "else", .str "=", .str "=>", .str "007", .str "--", .str "??", .str "ninesigns"]) rfl)))
      (qss_cons (qs_if (qt_cmpR (k_eq K hr.u200) (qe_op op_mod (qv 0) (qe_int)) (qe_int) (nomark _)) (qss_one (qs_ret (qe_ix (k_ix K) (qv 1) (qe_op op_mod (qe_op op_fdiv (qv 0) (qe_int)) (qe_int)) (fun _ _ => rfl)))) (qss_nil))
      (qss_cons (qs_set (i := 2) sc_law_odd.nd rfl (Or.inr rfl) (qe_str))
      (qss_cons (qs_set (i := 3) sc_law_odd.nd rfl (Or.inl rfl) (qe_ix (k_ix K) (qe_lst (qa_consts (xs := [.int 2, .int 1, .int 5, .int 7, .int 60]) rfl)) (qe_op op_mod (qe_op op_fdiv (qv 0) (qe_int)) (qe_int)) (fun _ _ => rfl)))
      (qss_cons (qs_set (i := 4) sc_law_odd.nd rfl (Or.inl rfl) (qe_bmK K PySem.F.plainAttrs_str PySem.F.slot_str_join PySem.F.type_str_join (k_join K) (qe_str) (qa_cons (qe_comp (N := ["_law_k", "_law_signs", "_law_cell_here"]) (σ0 := capSt 1 [2, 0]) rfl (cscope_fn rfl (by decide +kernel) (by decide +kernel) (by decide +kernel)) (qi_range1 rfl T.range (qa_cons (qe_op op_sub (qv 3) (qe_int)) qa_nil)) (takes_in rfl (by rfl)) (fun _ _ _ _ => qg_name (i := 0) nd_law_odd_1 rfl (Or.inl rfl)) (fun _ _ _ _ => qts_nil) (fun _ _ _ _ => qe_ix (k_ix K) (qv 1) (qe_op op_mod (qe_op op_mod (qe_op op_mulA (qv 2) (qe_op (k_add K) (qv 0) (qe_int))) (qe_int)) (qe_int)) (fun _ _ => rfl))) qa_nil)))
      (qss_cons (qs_set (i := 5) sc_law_odd.nd rfl (Or.inl rfl) (qe_op op_mod (qe_op op_fdiv (qv 0) (qe_int)) (qv 3)))
      (qss_one (qs_ret (qe_op (k_add K) (qe_op (k_add K) (qe_slice (k_sl K) (qv 4) (qo_none) (qo_some (qv 5))) (qe_ix (k_ix K) (qe_str) (qe_op op_mod (qe_op op_fdiv (qv 0) (qe_int)) (qe_int)) (fun _ _ => rfl))) (qe_slice (k_sl K) (qv 4) (qo_some (qv 5)) (qo_none)))))))))), ?_⟩
    have bg := big
    walk_at "r"
    refine ⟨by show 9 ≤ sizeLine; decide, fun p hp => ?_⟩
    have sm := Same.upd (o := .lst [.str "in", .str "then", .str "else", .str "=", .str "=>", .str "007", .str "--", .str "??", .str "ninesigns"]) hp
    walk_at "r"
    refine ite2 (fun _ => ?_) (fun _ => ?_)
    · walk_at "r"
      obtain ⟨v, hv, m⟩ := atI_in (xs := ([.str "in", .str "then", .str "else", .str "=", .str "=>", .str "007", .str "--", .str "??", .str "ninesigns"] : List V)) (i := c / 3 % 9) (Int.emod_nonneg _ (by decide)) (Int.emod_lt_of_pos _ (by decide))
      obtain ⟨t, rfl⟩ : ∃ t, v = V.str t := by
        simp only [List.mem_cons, List.not_mem_nil, or_false] at m
        rcases m with h | h | h | h | h | h | h | h | h <;> exact ⟨_, h⟩
      exact s_ix_lst (SqL.of upd_same) hv (q t _ sm)
    · walk_at "r"
      refine ⟨by show 5 ≤ sizeLine; decide, fun p2 hp2 => ?_⟩
      have sm2 := sm.put (o := .lst [.int 2, .int 1, .int 5, .int 7, .int 60]) hp2
      walk_at "r"
      obtain ⟨v, hv, m⟩ := atI_in (xs := ([.int 2, .int 1, .int 5, .int 7, .int 60] : List V)) (i := c / 3 % 5) (Int.emod_nonneg _ (by decide)) (Int.emod_lt_of_pos _ (by decide))
      obtain ⟨n, rfl, n1, n2⟩ : ∃ n : Int, v = V.int n ∧ 1 ≤ n ∧ n ≤ 60 := by
        simp only [List.mem_cons, List.not_mem_nil, or_false] at m
        rcases m with h | h | h | h | h <;> exact ⟨_, h, by decide, by decide⟩
      refine s_ix_lst (SqL.of upd_same) hv ?_
      walk_at "r"
      refine ⟨rfl, ?_⟩
      walk_at "r"
      refine ⟨by omega, by omega, fun D hD => ?_⟩
      refine comp_range (Pv := fun i ys σ' H' => ∃ kv ts, σ' = [kv, some (.str SIG91), some (.int c)] ∧ ys = ts.map V.str ∧ ts.length = i ∧ (∀ t ∈ ts, t.length = 1) ∧ Same H H') ⟨none, [], rfl, rfl, rfl, (fun t h => nomatch h), sm2.put hD⟩ ?_ ?_
      · rintro i ys σ' H' hi hys ⟨kv, ts, rfl, rfl, hl, h1, hH⟩
        walk_at "r"
        refine s_mul_r (by omega) (by omega) ?_
        walk_at "r"
        obtain ⟨d, hd, _⟩ := atI_in (xs := SIG91.cps.toList) (i := c * (0 + (i : Int) + 6007) % 1000003 % 91) (Int.emod_nonneg _ (by decide)) (by rw [sig91_len]; exact Int.emod_lt_of_pos _ (by decide))
        refine s_ix_str sig91_size hd ?_
        refine ⟨_, hys, by rw [List.length_map]; omega, _, upd_same, ?_⟩
        refine ⟨_, ts ++ [⟨#[d]⟩], rfl, by rw [List.map_append]; rfl, by simp [hl], fun t ht => ?_, hH.over (sm2.free hD)⟩
        rcases List.mem_append.mp ht with ht | ht
        · exact h1 t ht
        · rw [List.mem_singleton.mp ht]; rfl
      · rintro ys σ' H1 hys ⟨kv, ts, rfl, rfl, hl, h1, hH⟩
        have e0 : (Str.ofString "").length = 0 := by decide +kernel
        walk_at "r"
        refine s_join (K := K) (SqL.of hys) (by rw [sum_ones h1, e0]; omega) ?_
        have jl := join_le h1
        walk_at "r"
        refine s_rI (by omega) ?_
        walk_at "r"
        refine s_sl_str (by omega) ?_
        walk_at "r"
        obtain ⟨d, hd, _⟩ := atI_in (xs := SIG27.cps.toList) (i := c / 7 % 27) (Int.emod_nonneg _ (by decide)) (by rw [sig27_len]; exact Int.emod_lt_of_pos _ (by decide))
        refine s_ix_str sig27_size hd ?_
        have l1 := Txt.slice_le (Txt.join "" ts) none (some (c / 15 % n))
        have l2 := Txt.slice_le (Txt.join "" ts) (some (c / 15 % n)) none
        refine s_add_str (by rw [one_len]; omega) ?_
        walk_at "r"
        refine s_sl_str (by omega) ?_
        refine s_add_str (by rw [catlen, one_len]; omega) ?_
        exact q _ _ hH
end
end K17

set_option Elab.async false
set_option linter.all false
set_option maxRecDepth 100000
set_option maxHeartbeats 4000000
namespace K17
open PySem L2 K19
section
variable {P : Program} {w : World} {K : PySem.W.Frag} {mg : Str → Option Value} {base : Heap}
def sp_num : Sp := fun vs H Q _ => ∃ c : Int, vs = [.int c] ∧ ∀ z : Int, Q (.int z) H
theorem sc_law_number : FnScope ["_law_cell_here"] ["_law_cell_here"] (defScope s_law_number) := ⟨rfl, rfl, rfl, by decide +kernel, rfl, by decide +kernel, by decide +kernel⟩
theorem ok_num {f : Addr} {fd : FuncData} (F : Fun K "_law_number" "_law_number" s_law_number f fd) (T : Txt K mg) : FnOk P w K mg base CX0 1 f fd ["_law_cell_here"] sp_num := by
  refine F.okq sc_law_number (fun vs H Q E h => ?_) (fun cdv A outer s H vs Q E hr h => ?_)
  · obtain ⟨a, rfl, _⟩ := h
    rfl
  · obtain ⟨c, rfl, q⟩ := h
    refine ⟨_, qss_cons (qs_if (qt_cmpR (k_eq K hr.u200) (qe_op op_mod (qv 0) (qe_int)) (qe_int) (nomark _)) (qss_one (qs_ret (qe_op op_mod (qe_op op_fdiv (qv 0) (qe_int)) (qe_int)))) (qss_nil))
      (qss_cons (qs_if (qt_cmpR (k_eq K hr.u200) (qe_op op_mod (qv 0) (qe_int)) (qe_int) (nomark _)) (qss_one (qs_ret (qe_op op_sub (qe_op op_sub (qe_op op_pow (qe_int) (qe_int)) (qe_int)) (qe_op op_mod (qe_op op_fdiv (qv 0) (qe_int)) (qe_int))))) (qss_nil))
      (qss_one (qs_ret (qe_op op_mod (qe_op op_mulA (qe_op op_fdiv (qv 0) (qe_int)) (qe_int)) (qe_op op_pow (qe_int) (qe_int)))))), ?_⟩
    walk_at "r"
    refine ite2 (fun _ => ?_) (fun _ => ?_)
    · walk_at "r"
      exact q _
    · walk_at "r"
      refine ite2 (fun _ => ?_) (fun _ => ?_)
      · walk_at "r"
        exact q _
      · walk_at "r"
        exact q _
end
end K17

set_option Elab.async false
set_option linter.all false
set_option maxRecDepth 100000
set_option maxHeartbeats 4000000
namespace K17
open PySem L2 K19
section
variable {P : Program} {w : World} {K : PySem.W.Frag} {mg : Str → Option Value} {base : Heap}
def sp_head (K : PySem.W.Frag) : Sp := fun vs H Q _ => ∃ (c : Int) (p : Addr) (t0 t1 t2 : Str), vs = [.int c, .ref p] ∧ SqL K H p [.str t0, .str t1, .str t2] ∧
  ∀ (a : Addr) (wd : Str) (note : V) (n : Dt) (H' : Hp), Same H H' → SqT K H' a [.str wd, note] → IsN K H' note n → shp wd n → Q (.ref a) H'
theorem pick3 {t0 t1 t2 : Str} (c : Int) : ∃ t : Str, atI ([.str t0, .str t1, .str t2] : List V) (c % 3) = some (.str t) := by
  obtain ⟨v, hv, m⟩ := atI_in (xs := ([.str t0, .str t1, .str t2] : List V)) (i := c % 3) (Int.emod_nonneg _ (by decide)) (Int.emod_lt_of_pos _ (by decide))
  simp only [List.mem_cons, List.not_mem_nil, or_false] at m
  rcases m with h | h | h <;> exact ⟨_, by rw [hv, h]⟩
theorem sc_law_head : FnScope ["_law_cell_here", "_law_names_here", "_law_heads", "_law_word", "_law_more"] ["_law_cell_here", "_law_names_here"] (defScope s_law_head) := ⟨rfl, rfl, rfl, by decide +kernel, rfl, by decide +kernel, by decide +kernel⟩
theorem ok_head {f : Addr} {fd : FuncData} (F : Fun K "_law_head" "_law_head" s_law_head f fd) (T : Txt K mg) (C__law_odd : Callee P w K mg base 1 "_law_odd" ["_law_cell_here"] sp_odd) (C__law_number : Callee P w K mg base 1 "_law_number" ["_law_cell_here"] sp_num) : FnOk P w K mg base CX0 2 f fd ["_law_cell_here", "_law_names_here"] (sp_head K) := by
  refine F.okq sc_law_head (fun vs H Q E h => ?_) (fun cdv A outer s H vs Q E hr h => ?_)
  · obtain ⟨c, p, t0, t1, t2, rfl, _⟩ := h
    rfl
  · obtain ⟨c, p, t0, t1, t2, rfl, hp, q⟩ := h
    refine ⟨_, qss_cons (qs_set (i := 2) sc_law_head.nd rfl (Or.inl rfl) (qe_lst (qa_consts (xs := [.str "gap", .str "odd", .str "num", .str "truth", .str "name", .str "plus", .str "minus", .str "less", .str "call", .str "if", .str "fn"]) rfl)))
      (qss_cons (qs_set (i := 3) sc_law_head.nd rfl (Or.inl rfl) (qe_ix (k_ix K) (qe_op (k_add K) (qv 2) (qe_lst (qa_cons (qe_str) (qa_cons (qe_str) qa_nil)))) (qe_op op_mod (qv 0) (qe_int)) (fun _ _ => rfl)))
      (qss_cons (qs_set (i := 4) sc_law_head.nd rfl (Or.inl rfl) (qe_op op_fdiv (qv 0) (qe_int)))
      (qss_cons (qs_if (qt_cmpR (k_eq K hr.u200) (qv 3) (qe_str) (nomark _)) (qss_one (qs_ret (qe_tup (qa_cons (qv 3) (qa_cons (qe_fn C__law_odd (hr.mono (by decide)) (qa_cons (qv 4) qa_nil)) qa_nil))))) (qss_nil))
      (qss_cons (qs_if (qt_cmpR (k_eq K hr.u200) (qv 3) (qe_str) (nomark _)) (qss_one (qs_ret (qe_tup (qa_cons (qv 3) (qa_cons (qe_fn C__law_number (hr.mono (by decide)) (qa_cons (qv 4) qa_nil)) qa_nil))))) (qss_nil))
      (qss_cons (qs_if (qt_cmpR (k_eq K hr.u200) (qv 3) (qe_str) (nomark _)) (qss_one (qs_ret (qe_tup (qa_cons (qv 3) (qa_cons (qe_cmpR (k_eq K hr.u200) (qe_op op_mod (qv 4) (qe_int)) (qe_int) (nomark _)) qa_nil))))) (qss_nil))
      (qss_cons (qs_if (qt_cmpR (k_in K) (qv 3) (qe_tup (qa_cons (qe_str) (qa_cons (qe_str) (qa_cons (qe_str) qa_nil)))) (by rfl)) (qss_one (qs_ret (qe_tup (qa_cons (qv 3) (qa_cons (qe_ix (k_ix K) (qv 1) (qe_op op_mod (qv 4) (qe_int)) (fun _ _ => rfl)) qa_nil))))) (qss_nil))
      (qss_cons (qs_if (qt_cmpR (k_eq K hr.u200) (qv 3) (qe_str) (nomark _)) (qss_one (qs_ret (qe_tup (qa_cons (qv 3) (qa_cons (qe_tup (qa_cons (qe_ix (k_ix K) (qv 1) (qe_op op_mod (qv 4) (qe_int)) (fun _ _ => rfl)) (qa_cons (qe_ix (k_ix K) (qv 1) (qe_op op_mod (qe_op op_fdiv (qv 4) (qe_int)) (qe_int)) (fun _ _ => rfl)) qa_nil))) qa_nil))))) (qss_nil))
      (qss_one (qs_ret (qe_tup (qa_cons (qv 3) (qa_cons (qe_non) qa_nil)))))))))))), ?_⟩
    walk_at "r"
    refine ⟨by show 11 ≤ sizeLine; decide, fun p1 h1 => ?_⟩
    walk_at "r"
    refine ⟨by show 2 ≤ sizeLine; decide, fun p2 h2 => ?_⟩
    have n12 : p1 ≠ p2 := fun z => by rw [z, ← z, upd_same] at h2; cases h2
    refine s_add_lst (by rw [upd_ne n12]; exact upd_same) upd_same (by show 13 ≤ sizeLine; decide) fun p3 h3 => ?_
    walk_at "r"
    obtain ⟨v, hv, m⟩ := atI_in (xs := ([.str "gap", .str "odd", .str "num", .str "truth", .str "name", .str "plus", .str "minus", .str "less", .str "call", .str "if", .str "fn"] ++ [.str "rec", .str "let"] : List V)) (i := c % 13) (Int.emod_nonneg _ (by decide)) (Int.emod_lt_of_pos _ (by decide))
    obtain ⟨wd, rfl⟩ : ∃ t, v = V.str t := by
      simp only [List.cons_append, List.nil_append, List.mem_cons, List.not_mem_nil, or_false] at m
      rcases m with h | h | h | h | h | h | h | h | h | h | h | h | h <;> exact ⟨_, h⟩
    refine s_ix_lst (SqL.of upd_same) hv ?_
    have sm3 := ((Same.upd (o := .lst [.str "gap", .str "odd", .str "num", .str "truth", .str "name", .str "plus", .str "minus", .str "less", .str "call", .str "if", .str "fn"]) h1).put (o := .lst [.str "rec", .str "let"]) h2).put (o := .lst ([.str "gap", .str "odd", .str "num", .str "truth", .str "name", .str "plus", .str "minus", .str "less", .str "call", .str "if", .str "fn"] ++ [.str "rec", .str "let"])) h3
    revert sm3
    generalize upd (upd (upd H p1 _) p2 _) p3 _ = H3
    intro sm3
    have two : ∀ (note : V) (n : Dt) (H4 : Hp), Same H3 H4 → IsN K H4 note n → shp wd n → ([V.str wd, note] : List V).length ≤ sizeLine ∧ ∀ p, H4 p = none → Q (.ref p) (upd H4 p (.tup [.str wd, note])) := fun note n H4 s4 hn hsh =>
      ⟨by show 2 ≤ sizeLine; decide, fun p4 h4 => q p4 wd note n _ (sm3.trans (s4.put h4)) (SqT.of upd_same) (hn.same (SameT.new h4)) hsh⟩
    walk_at "r"
    refine ite2 (fun cc => ?_) (fun cc => ?_)
    · walk_at "r"
      refine ⟨_, rfl, fun t H4 s4 => ?_⟩
      walk_at "r"
      exact two _ _ _ s4 (.inl ⟨rfl, rfl⟩) (by rw [show wd = "odd" by simpa using cc]; exact shp_non (by decide +kernel) (by decide +kernel) (by decide +kernel) (by decide +kernel))
    have g1 : wd ≠ "odd" := fun e => cc (by simp [e])
    walk_at "r"
    refine ite2 (fun cc => ?_) (fun cc => ?_)
    · walk_at "r"
      refine ⟨_, rfl, fun z => ?_⟩
      walk_at "r"
      exact two _ _ _ (Same.refl _) (.inl ⟨rfl, rfl⟩) (by rw [show wd = "num" by simpa using cc]; exact shp_non (by decide +kernel) (by decide +kernel) (by decide +kernel) (by decide +kernel))
    have g2 : wd ≠ "num" := fun e => cc (by simp [e])
    walk_at "r"
    refine ite2 (fun cc => ?_) (fun cc => ?_)
    · walk_at "r"
      exact two _ _ _ (Same.refl _) (.inl ⟨rfl, rfl⟩) (by rw [show wd = "truth" by simpa using cc]; exact shp_non (by decide +kernel) (by decide +kernel) (by decide +kernel) (by decide +kernel))
    have g3 : wd ≠ "truth" := fun e => cc (by simp [e])
    walk_at "r"
    refine ⟨by show 3 ≤ sizeLine; decide, fun p4 h4 => ?_⟩
    refine s_in_seq (.inr (SqT.of upd_same)) rfl rfl ?_
    have s4 := Same.upd (o := .tup [.str "name", .str "fn", .str "let"]) h4
    walk_at "r"
    refine ite2 (fun cc => ?_) (fun cc => ?_)
    · walk_at "r"
      obtain ⟨t, ht⟩ := pick3 (t0 := t0) (t1 := t1) (t2 := t2) (c / 13)
      refine s_ix_lst ((sm3.trans s4).seq hp) ht ?_
      walk_at "r"
      exact two _ _ _ s4 (.inl ⟨rfl, rfl⟩) ⟨fun _ => ⟨t, rfl⟩, fun e => absurd cc (by rw [e]; decide +kernel)⟩
    have g4 : wd ≠ "name" := fun e => cc (by rw [e]; decide +kernel)
    have g5 : wd ≠ "fn" := fun e => cc (by rw [e]; decide +kernel)
    have g6 : wd ≠ "let" := fun e => cc (by rw [e]; decide +kernel)
    walk_at "r"
    refine ite2 (fun cc => ?_) (fun cc => ?_)
    · walk_at "r"
      obtain ⟨t, ht⟩ := pick3 (t0 := t0) (t1 := t1) (t2 := t2) (c / 13)
      obtain ⟨u, hu⟩ := pick3 (t0 := t0) (t1 := t1) (t2 := t2) (c / 13 / 3)
      refine s_ix_lst ((sm3.trans s4).seq hp) ht ?_
      walk_at "r"
      refine s_ix_lst ((sm3.trans s4).seq hp) hu ?_
      walk_at "r"
      refine ⟨by show 2 ≤ sizeLine; decide, fun p5 h5 => ?_⟩
      walk_at "r"
      exact two _ _ _ (s4.put h5) (.inr ⟨p5, [.str t, .str u], rfl, SqT.of upd_same, rfl, rfl⟩) ⟨fun e => by rcases e with e | e | e <;> contradiction, fun _ => ⟨t, u, rfl⟩⟩
    · walk_at "r"
      exact two _ _ _ s4 (.inl ⟨rfl, rfl⟩) (shp_non g5 g6 g4 (fun e => cc (by simp [e])))
end
end K17

set_option Elab.async false
set_option linter.all false
set_option maxRecDepth 100000
set_option maxHeartbeats 4000000
namespace K17
open PySem L2 K19
section
variable {P : Program} {w : World} {K : PySem.W.Frag} {mg : Str → Option Value} {base : Heap}
def sp_many : Sp := fun vs H Q _ => ∃ wd : Str, vs = [.str wd] ∧ ∀ (z : Int) (H' : Hp), 0 ≤ z → z ≤ 3 → Same H H' → Q (.int z) H'
theorem sc_law_many : FnScope ["_law_word"] ["_law_word"] (defScope s_law_many) := ⟨rfl, rfl, rfl, by decide +kernel, rfl, by decide +kernel, by decide +kernel⟩
theorem ok_many {f : Addr} {fd : FuncData} (F : Fun K "_law_many" "_law_many" s_law_many f fd) (T : Txt K mg) : FnOk P w K mg base CX0 1 f fd ["_law_word"] sp_many := by
  refine F.okq sc_law_many (fun vs H Q E h => ?_) (fun cdv A outer s H vs Q E hr h => ?_)
  · obtain ⟨a, rfl, _⟩ := h
    rfl
  · obtain ⟨wd, rfl, q⟩ := h
    refine ⟨_, qss_cons (qs_if (qt_cmpR (k_in K) (qv 0) (qe_tup (qa_consts (xs := [.str "plus", .str "minus", .str "less", .str "call", .str "let"]) rfl)) (by rfl)) (qss_one (qs_ret (qe_int))) (qss_nil))
      (qss_cons (qs_if (qt_cmpR (k_eq K hr.u200) (qv 0) (qe_str) (nomark _)) (qss_one (qs_ret (qe_int))) (qss_nil))
      (qss_one (qs_ret (qe_callTy k_int (by rfl) T.int (by decide +kernel) (qa_cons (qe_cmpR (k_in K) (qv 0) (qe_tup (qa_cons (qe_str) (qa_cons (qe_str) qa_nil))) (by rfl)) qa_nil))))), ?_⟩
    walk_at "r"
    refine ⟨by show 5 ≤ sizeLine; decide, fun p1 h1 => ?_⟩
    refine s_in_seq (.inr (SqT.of upd_same)) rfl rfl ?_
    have s1 := Same.upd (o := .tup [.str "plus", .str "minus", .str "less", .str "call", .str "let"]) h1
    walk_at "r"
    refine ite2 (fun _ => ?_) (fun _ => ?_)
    · walk_at "r"
      exact q _ _ (by decide) (by decide) s1
    walk_at "r"
    refine ite2 (fun _ => ?_) (fun _ => ?_)
    · walk_at "r"
      exact q _ _ (by decide) (by decide) s1
    walk_at "r"
    refine ⟨by show 2 ≤ sizeLine; decide, fun p2 h2 => ?_⟩
    refine s_in_seq (.inr (SqT.of upd_same)) rfl rfl ?_
    walk_at "r"
    have h01 : ∀ b : Bool, (0 : Int) ≤ (if b = true then 1 else 0) ∧ (if b = true then (1 : Int) else 0) ≤ 3 := by decide
    exact q _ _ (h01 _).1 (h01 _).2 (s1.put h2)
end
end K17

set_option Elab.async false
set_option linter.all false
set_option maxRecDepth 100000
set_option maxHeartbeats 4000000
namespace K17
open PySem L2 K19
section
variable {P : Program} {w : World} {K : PySem.W.Frag} {mg : Str → Option Value} {base : Heap}
def sp_tree (K : PySem.W.Frag) : Sp := fun vs H Q _ => ∃ (c p : Addr) (ns : List Int) (t0 t1 t2 : Str), vs = [.ref c, .ref p] ∧ SqL K H c (ns.map V.int) ∧ ns.length ≤ 63 ∧ SqL K H p [.str t0, .str t1, .str t2] ∧
  ∀ (v : V) (t : Tr) (H' : Hp), Same H H' → TrAt K H' v t → TrSh t → t.size ≤ 1 + 5 * ns.length → Q v H'
theorem sc_law_tree : FnScope ["_law_cells", "_law_names_here", "_law_left", "_law_cell_here", "_law_word", "_law_note", "_law_parts", "_law_k", "_law_tree_here", "_law_form"] ["_law_cells", "_law_names_here"] (defScope s_law_tree) := ⟨rfl, rfl, rfl, by decide +kernel, rfl, by decide +kernel, by decide +kernel⟩
def TreeJ (K : PySem.W.Frag) (H : Hp) (c p pl : Addr) (i : Nat) (σ : St) (H' : Hp) : Prop := ∃ (v3 v4 v5 v6 v7 v8 v9 : Option V) (lv : List V) (lt : List Tr), σ = [some (.ref c), some (.ref p), some (.ref pl), v3, v4, v5, v6, v7, v8, v9] ∧ H' pl = some (.lst lv) ∧ Al (TrAt K H') lv lt ∧ sizes lt ≤ 4 * i ∧ lt.length ≤ i ∧ (∀ t ∈ lt, TrSh t) ∧ Same H H'
theorem TrAt.al {K : PySem.W.Frag} {H H' : Hp} {vs : List V} {ts : List Tr} (h : Al (TrAt K H) vs ts) (e : SameT H H') : Al (TrAt K H') vs ts := h.mono fun _ _ a => a.sameT e
theorem ok_tree {f : Addr} {fd : FuncData} (F : Fun K "_law_tree" "_law_tree" s_law_tree f fd) (T : Txt K mg) (C__law_head : Callee P w K mg base 2 "_law_head" ["_law_cell_here", "_law_names_here"] (sp_head K)) (C__law_many : Callee P w K mg base 1 "_law_many" ["_law_word"] sp_many) : FnOk P w K mg base CX0 3 f fd ["_law_cells", "_law_names_here"] (sp_tree K) := by
  refine F.okq sc_law_tree (fun vs H Q E h => ?_) (fun cdv A outer s H vs Q E hr h => ?_)
  · obtain ⟨c, p, ns, t0, t1, t2, rfl, _⟩ := h
    rfl
  · obtain ⟨c, p, ns, t0, t1, t2, rfl, hc, hn, hp, q⟩ := h
    refine ⟨_, qss_cons (qs_set (i := 2) sc_law_tree.nd rfl (Or.inl rfl) (qe_lst (qa_nil)))
      (qss_cons (qs_for PassesOwn.never rfl (qi_anyK K (qv 0)) (qg_name (i := 3) sc_law_tree.nd rfl (Or.inl rfl)) (qss_cons (qs_asg (qe_fn C__law_head (hr.mono (by decide)) (qa_cons (qv 3) (qa_cons (qv 1) qa_nil))) (qg_tupK K (n := 2) rfl (qgs_cons (qg_name (i := 4) sc_law_tree.nd rfl (Or.inl rfl)) (qgs_cons (qg_name (i := 5) sc_law_tree.nd rfl (Or.inl rfl)) (qgs_nil)))))
      (qss_cons (qs_set (i := 6) sc_law_tree.nd rfl (Or.inl rfl) (qe_lst (qa_nil)))
      (qss_cons (qs_for PassesOwn.never rfl (qi_range1 rfl T.range (qa_cons (qe_fn C__law_many (hr.mono (by decide)) (qa_cons (qv 4) qa_nil)) qa_nil)) (qg_name (i := 7) sc_law_tree.nd rfl (Or.inl rfl)) (qss_one (qs_if (QW.qt (qw_and (qt_cmpR op_gt (qe_callB (k_len K) (by rfl) T.len (by decide +kernel) (qa_cons (qv 2) qa_nil)) (qe_int) (nomark _)) (qw_and1 (qt_cmpR op_gt (qe_op op_mod (qe_op op_mod (qe_op op_mulA (qv 3) (qe_op (k_add K) (qe_op op_mulA (qe_int) (qv 7)) (qe_int))) (qe_int)) (qe_int)) (qe_int) (nomark _))))) (qss_one (qs_expr (qe_bmK K PySem.F.plainAttrs_list PySem.F.slot_list_append PySem.F.type_list_append mt_append (qv 6) (qa_cons (qe_bm0K K PySem.F.plainAttrs_list PySem.F.slot_list_pop PySem.F.type_list_pop mt_pop (qv 2)) qa_nil)))) (qss_one (qs_expr (qe_bmK K PySem.F.plainAttrs_list PySem.F.slot_list_append PySem.F.type_list_append mt_append (qv 6) (qa_cons (qe_tup (qa_cons (qe_str) (qa_cons (qe_non) (qa_cons (qe_tup (qa_nil)) qa_nil)))) qa_nil)))))))
      (qss_one (qs_expr (qe_bmK K PySem.F.plainAttrs_list PySem.F.slot_list_append PySem.F.type_list_append mt_append (qv 2) (qa_cons (qe_tup (qa_cons (qv 4) (qa_cons (qv 5) (qa_cons (qe_callTy (k_tuple K) (by rfl) T.tuple (by decide +kernel) (qa_cons (qv 6) qa_nil)) qa_nil)))) qa_nil))))))))
      (qss_cons (qs_set (i := 8) sc_law_tree.nd rfl (Or.inl rfl) (qe_tup (qa_cons (qe_str) (qa_cons (qe_non) (qa_cons (qe_tup (qa_nil)) qa_nil)))))
      (qss_cons (qs_for PassesOwn.never rfl (qi_enumK K rfl T.enumerate (qa_cons (qv 2) qa_nil)) (qg_tupK K (n := 2) rfl (qgs_cons (qg_name (i := 7) sc_law_tree.nd rfl (Or.inl rfl)) (qgs_cons (qg_name (i := 9) sc_law_tree.nd rfl (Or.inl rfl)) (qgs_nil)))) (qss_one (qs_if (qt_cmpR (k_eq K hr.u200) (qv 7) (qe_int) (nomark _)) (qss_one (qs_set (i := 8) sc_law_tree.nd rfl (Or.inl rfl) (qv 9))) (qss_one (qs_if (qt_cmpR (k_eq K hr.u200) (qe_op op_mod (qv 7) (qe_int)) (qe_int) (nomark _)) (qss_one (qs_set (i := 8) sc_law_tree.nd rfl (Or.inl rfl) (qe_tup (qa_cons (qe_str) (qa_cons (qe_ix (k_ix K) (qv 1) (qe_op op_mod (qv 7) (qe_int)) (fun _ _ => rfl)) (qa_cons (qe_tup (qa_cons (qv 8) (qa_cons (qv 9) qa_nil))) qa_nil)))))) (qss_one (qs_set (i := 8) sc_law_tree.nd rfl (Or.inl rfl) (qe_tup (qa_cons (qe_str) (qa_cons (qe_non) (qa_cons (qe_tup (qa_cons (qv 9) (qa_cons (qv 8) qa_nil))) qa_nil)))))))))))
      (qss_one (qs_ret (qv 8)))))), ?_⟩
    have bg := big
    walk_at "r"
    refine ⟨by show 0 ≤ sizeLine; decide, fun pl hpl => ?_⟩
    have s1 := Same.upd (o := .lst []) hpl
    walk_at "r"
    refine .inl ⟨c, rfl, ⟨_, s1.seq hc⟩, ?_⟩
    refine for_list (K := K) (a := c) (xs := ns.map V.int) (TreeJ K H c p pl) ⟨_, _, _, _, _, _, _, [], [], rfl, upd_same, .nil, Nat.zero_le _, Nat.zero_le _, (fun t h => nomatch h), s1⟩ ?_ ?_ ?_
    · rintro i σ' H' _ ⟨_, _, _, _, _, _, _, _, _, _, _, _, _, _, _, sm⟩
      exact sm.seq hc
    · rintro i x σ' H1 hx ⟨v3, v4, v5, v6, v7, v8, v9, lv, lt, rfl, el, al, hsz, hln, hok, sm⟩
      obtain ⟨z, _, rfl⟩ := List.mem_map.mp (List.mem_of_getElem? hx)
      have hi := (List.getElem?_eq_some_iff.mp hx).1
      rw [List.length_map] at hi
      walk_at "r"
      refine ⟨z, p, t0, t1, t2, rfl, sm.seq hp, fun a wd note n H2 s2 qa hno hsh => ?_⟩
      refine s_gtup qa rfl ?_
      walk_at "r"
      refine ⟨by show 0 ≤ sizeLine; decide, fun pp hpp => ?_⟩
      have el2 := s2 _ _ el
      have npp : pl ≠ pp := ne_of_none el2 hpp
      have s3 := Same.upd (o := .lst []) hpp
      walk_at "r"
      refine ⟨wd, rfl, fun k H3 k0 k3 s4 => ?_⟩
      have sm3 := sm.trans (s2.trans (s3.trans s4))
      have hpp0 : H pp = none := (sm.trans s2).free hpp
      walk_at "r"
      refine ⟨by omega, by omega, ?_⟩
      refine for_range (n := k.toNat) (fun j σ5 H5 => ∃ (v7 : Option V) (lv5 pv5 : List V) (lt5 pt5 : List Tr), σ5 = [some (.ref c), some (.ref p), some (.ref pl), some (.int z), some (.str wd), some note, some (.ref pp), v7, v8, v9] ∧ H5 pl = some (.lst lv5) ∧ H5 pp = some (.lst pv5) ∧ Al (TrAt K H5) lv5 lt5 ∧ Al (TrAt K H5) pv5 pt5 ∧ pt5.length = j ∧ (∀ t ∈ lt5, TrSh t) ∧ (∀ t ∈ pt5, TrSh t) ∧ sizes lt5 + sizes pt5 ≤ sizes lt + j ∧ lt5.length ≤ i ∧ SameT H3 H5 ∧ Same H H5)
        ⟨_, lv, [], lt, [], rfl, s4 _ _ (s3 _ _ el2), s4 _ _ upd_same, TrAt.al al (s2.trans (s3.trans s4)).t, .nil, rfl, hok, (fun t h => nomatch h), by simp [sizes], hln, SameT.refl _, sm3⟩ ?_ ?_
      · rintro j σ5 H5 hj ⟨v7', lv5, pv5, lt5, pt5, rfl, e5l, e5p, al5, ap5, hpt, ok5, okp, hs5, hl5, t5, sm5⟩
        have hpv : pv5.length = j := by rw [ap5.1, hpt]
        -- a gap in this place
        have gap : ∀ σ6 : St, σ6 = [some (.ref c), some (.ref p), some (.ref pl), some (.int z), some (.str wd), some note, some (.ref pp), some (.int (0 + (j : Int))), v8, v9] →
            ∀ pa, H5 pa = none → ∀ pb, upd H5 pa (.tup []) pb = none → rAppend (.ref pp) [.ref pb] (upd (upd H5 pa (.tup [])) pb (.tup [.str "gap", .non, .ref pa])) fun _ H6 => ∃ (v7 : Option V) (lv5 pv5 : List V) (lt5 pt5 : List Tr), σ6 = [some (.ref c), some (.ref p), some (.ref pl), some (.int z), some (.str wd), some note, some (.ref pp), v7, v8, v9] ∧ H6 pl = some (.lst lv5) ∧ H6 pp = some (.lst pv5) ∧ Al (TrAt K H6) lv5 lt5 ∧ Al (TrAt K H6) pv5 pt5 ∧ pt5.length = j + 1 ∧ (∀ t ∈ lt5, TrSh t) ∧ (∀ t ∈ pt5, TrSh t) ∧ sizes lt5 + sizes pt5 ≤ sizes lt + (j + 1) ∧ lt5.length ≤ i ∧ SameT H3 H6 ∧ Same H H6 := fun σ6 e6 pa hpa pb hpb => by
          have s6 := (Same.upd (o := .tup []) hpa).put (o := .tup [.str "gap", .non, .ref pa]) hpb
          have e6p := s6 _ _ e5p
          have t6 : SameT H5 (upd (upd (upd H5 pa (.tup [])) pb (.tup [.str "gap", .non, .ref pa])) pp (.lst (pv5 ++ [.ref pb]))) := s6.t.trans (SameT.set e6p)
          refine s_app e6p (by omega) ⟨_, lv5, pv5 ++ [.ref pb], lt5, pt5 ++ [gapT], e6, by rw [upd_ne npp]; exact s6 _ _ e5l, upd_same, TrAt.al al5 t6, (TrAt.al ap5 t6).snoc ?_, by simp [hpt], ok5, sh_snoc okp TrSh.gap, ?_, hl5, t5.trans t6, (sm5.trans s6).over hpp0⟩
          · exact TrAt.gap ((SameT.set e6p).tup (SqT.of upd_same)) (((SameT.new (o := .tup [.str "gap", .non, .ref pa]) hpb).trans (SameT.set e6p)).tup (SqT.of upd_same))
          · have e1 : sizes [gapT] = 1 := by rw [sizes, gapT_size, sizes]
            rw [sizes_append, e1]
            omega
        walk_at "r"
        refine s_len_lst (SqL.of e5l) ?_
        walk_at "r"
        by_cases hlv : lv5 = []
        · subst hlv
          refine iteF ?_
          walk_at "r"
          refine s_tyL (SqL.of e5p) ?_
          walk_at "r"
          refine ⟨by show 0 ≤ sizeLine; decide, fun pa hpa => ?_⟩
          walk_at "r"
          refine ⟨by show 3 ≤ sizeLine; decide, fun pb hpb => ?_⟩
          walk_at "r"
          exact gap _ rfl pa hpa pb hpb
        · obtain ⟨lv6, x6, lt6, t6, rfl, rfl, al6, hx6⟩ := al5.last hlv
          have hne : decide ((0 : Int) < ((lv6 ++ [x6]).length : Int)) = true := decide_eq_true (by rw [List.length_append, List.length_singleton]; omega)
          rw [hne]
          walk_at "r"
          refine s_mul_r (by omega) (by omega) ?_
          walk_at "r"
          refine ite2 (fun _ => ?_) (fun _ => ?_)
          · walk_at "r"
            refine s_tyL (SqL.of e5p) ?_
            walk_at "r"
            refine s_tyL (SqL.of e5l) ?_
            refine s_pop e5l ?_
            walk_at "r"
            have e6p : upd H5 pl (.lst lv6) pp = some (.lst pv5) := by rw [upd_ne npp.symm]; exact e5p
            have t6' : SameT H5 (upd (upd H5 pl (.lst lv6)) pp (.lst (pv5 ++ [x6]))) := (SameT.set e5l).trans (SameT.set e6p)
            have hs6 : sizes (lt6 ++ [t6]) = sizes lt6 + t6.size := by rw [sizes_append, sizes, sizes]; omega
            refine s_app e6p (by omega) ⟨_, lv6, pv5 ++ [x6], lt6, pt5 ++ [t6], rfl, by rw [upd_ne npp, upd_same], upd_same, TrAt.al al6 t6', (TrAt.al ap5 t6').snoc (hx6.sameT t6'), by simp [hpt], fun t ht => ok5 t (List.mem_append_left _ ht), sh_snoc okp (ok5 t6 (by simp)), ?_, ?_, t5.trans t6', (sm5.over hpl).over hpp0⟩
            · have e2 : sizes (pt5 ++ [t6]) = sizes pt5 + t6.size := by rw [sizes_append, sizes, sizes]; omega
              omega
            · rw [List.length_append, List.length_singleton] at hl5
              omega
          · walk_at "r"
            refine s_tyL (SqL.of e5p) ?_
            walk_at "r"
            refine ⟨by show 0 ≤ sizeLine; decide, fun pa hpa => ?_⟩
            walk_at "r"
            refine ⟨by show 3 ≤ sizeLine; decide, fun pb hpb => ?_⟩
            walk_at "r"
            exact gap _ rfl pa hpa pb hpb
      · rintro σ5 H5 ⟨v7', lv5, pv5, lt5, pt5, rfl, e5l, e5p, al5, ap5, hpt, ok5, okp, hs5, hl5, t5, sm5⟩
        walk_at "r"
        refine s_tyL (SqL.of e5l) ?_
        walk_at "r"
        refine s_tupL (SqL.of e5p) fun pq hpq => ?_
        walk_at "r"
        refine ⟨by show 3 ≤ sizeLine; decide, fun pr hpr => ?_⟩
        walk_at "r"
        have s6 := (Same.upd (o := .tup pv5) hpq).put (o := .tup [.str wd, note, .ref pq]) hpr
        have e6l := s6 _ _ e5l
        have hll : lv5.length ≤ i := by rw [al5.1]; exact hl5
        have t6 : SameT H5 (upd (upd (upd H5 pq (.tup pv5)) pr (.tup [.str wd, note, .ref pq])) pl (.lst (lv5 ++ [.ref pr]))) := s6.t.trans (SameT.set e6l)
        refine s_app e6l (by omega) ⟨_, _, _, _, _, _, _, lv5 ++ [.ref pr], lt5 ++ [.mk wd n pt5], rfl, upd_same, (TrAt.al al5 t6).snoc ?_, ?_, by simp; omega, sh_snoc ok5 (.mk hsh okp), (sm5.trans s6).over hpl⟩
        · have ap6 := TrAt.al ap5 t6
          exact .mk ((SameT.set e6l).tup (SqT.of upd_same)) (hno.same (((s3.trans s4).t.trans t5).trans t6)) (((SameT.new (o := .tup [.str wd, note, .ref pq]) hpr).trans (SameT.set e6l)).tup (SqT.of upd_same)) ap6.1 ap6.2
        · have e1 : sizes (lt5 ++ [.mk wd n pt5]) = sizes lt5 + (1 + sizes pt5) := by rw [sizes_append, sizes, sizes, Tr.size]; omega
          omega
    · rintro σ' H1 ⟨v3, v4, v5, v6, v7, v8, v9, lv, lt, rfl, el, al, hsz, hln, hok, sm⟩
      rw [List.length_map] at hsz hln
      walk_at "r"
      refine ⟨by show 0 ≤ sizeLine; decide, fun pa hpa => ?_⟩
      walk_at "r"
      refine ⟨by show 3 ≤ sizeLine; decide, fun pb hpb => ?_⟩
      have s2 := (Same.upd (o := .tup []) hpa).put (o := .tup [.str "gap", .non, .ref pa]) hpb
      walk_at "r"
      refine ⟨pl, lv, rfl, SqL.of (s2 _ _ el), ?_⟩
      refine for_enum (K := K) (a := pl) (xs := lv) (fun i σ5 H5 => ∃ (v7 v9 : Option V) (tv : V) (t : Tr), σ5 = [some (.ref c), some (.ref p), some (.ref pl), v3, v4, v5, v6, v7, some tv, v9] ∧ TrAt K H5 tv t ∧ TrSh t ∧ t.size ≤ 1 + sizes (lt.take i) + i ∧ Same H1 H5)
        ⟨_, _, _, gapT, rfl, TrAt.gap (SqT.of upd_same) ((SameT.new (o := .tup [.str "gap", .non, .ref pa]) hpb).tup (SqT.of upd_same)), TrSh.gap, by rw [gapT_size]; omega, s2⟩ ?_ ?_ ?_
      · rintro i σ5 H5 _ ⟨_, _, _, _, _, _, _, _, sm5⟩
        exact SqL.of (sm5 _ _ el)
      · rintro i x tt σ5 H5 hx htt ⟨v7', v9', tv, t, rfl, htv, hto, hts, sm5⟩
        obtain ⟨tx, htx, hax⟩ := al.get hx
        have hxo := hok tx (List.mem_of_getElem? htx)
        have s6 := Same.upd (o := .tup [.int i, x]) htt
        have hst : sizes (lt.take (i + 1)) = sizes (lt.take i) + tx.size := by
          rw [List.take_add_one, htx, sizes_append]
          show _ + sizes [tx] = _
          rw [sizes, sizes]
          omega
        refine s_gtup (SqT.of upd_same) rfl ?_
        walk_at "r"
        refine ite2 (fun _ => ?_) (fun _ => ?_)
        · walk_at "r"
          exact ⟨_, _, x, tx, rfl, hax.same (sm5.trans s6), hxo, by omega, sm5.trans s6⟩
        walk_at "r"
        refine ite2 (fun _ => ?_) (fun _ => ?_)
        · walk_at "r"
          obtain ⟨u, hu⟩ := pick3 (t0 := t0) (t1 := t1) (t2 := t2) (i : Int)
          refine s_ix_lst ((sm.trans (sm5.trans s6)).seq hp) hu ?_
          walk_at "r"
          refine ⟨by show 2 ≤ sizeLine; decide, fun p8 h8 => ?_⟩
          walk_at "r"
          refine ⟨by show 3 ≤ sizeLine; decide, fun p9 h9 => ?_⟩
          walk_at "r"
          have s8 := s6.trans ((Same.upd (o := .tup [tv, x]) h8).put (o := .tup [.str "let", .str u, .ref p8]) h9)
          have ax := hax.same (sm5.trans s8)
          have at' := htv.same s8
          have e8 := (SameT.new (o := .tup [.str "let", .str u, .ref p8]) h9).tup (K := K) (SqT.of upd_same)
          refine ⟨_, _, .ref p9, .mk "let" (.flat (.str u)) [t, tx], rfl, .mk (SqT.of upd_same) (.inl ⟨rfl, rfl⟩) e8 rfl fun j v y f1 f2 => ?_, TrSh.let hto hxo, ?_, sm5.trans s8⟩
          · match j, f1, f2 with
            | 0, f1, f2 => cases f1; cases f2; exact at'
            | 1, f1, f2 => cases f1; cases f2; exact ax
          · rw [Tr.size, sizes, sizes, sizes]
            omega
        · walk_at "r"
          refine ⟨by show 2 ≤ sizeLine; decide, fun p8 h8 => ?_⟩
          walk_at "r"
          refine ⟨by show 3 ≤ sizeLine; decide, fun p9 h9 => ?_⟩
          walk_at "r"
          have s8 := s6.trans ((Same.upd (o := .tup [x, tv]) h8).put (o := .tup [.str "call", .non, .ref p8]) h9)
          have ax := hax.same (sm5.trans s8)
          have at' := htv.same s8
          have e8 := (SameT.new (o := .tup [.str "call", .non, .ref p8]) h9).tup (K := K) (SqT.of upd_same)
          refine ⟨_, _, .ref p9, .mk "call" (.flat .non) [tx, t], rfl, .mk (SqT.of upd_same) (.inl ⟨rfl, rfl⟩) e8 rfl fun j v y f1 f2 => ?_, TrSh.call hxo hto, ?_, sm5.trans s8⟩
          · match j, f1, f2 with
            | 0, f1, f2 => cases f1; cases f2; exact ax
            | 1, f1, f2 => cases f1; cases f2; exact at'
          · rw [Tr.size, sizes, sizes, sizes]
            omega
      · rintro σ5 H5 ⟨v7', v9', tv, t, rfl, htv, hto, hts, sm5⟩
        walk_at "r"
        rw [al.1, List.take_length] at hts
        exact q tv t H5 (sm.trans sm5) htv hto (by omega)
end
end K17

set_option Elab.async false
set_option linter.all false
set_option maxRecDepth 100000
set_option maxHeartbeats 4000000
namespace K17
open PySem L2 K19
section
variable {P : Program} {w : World} {K : PySem.W.Frag} {mg : Str → Option Value} {base : Heap}
abbrev s_init : Stmt := match top 2 with
  | .ClassDef _ _ _ b _ _ _ _ _ _ _ => b.getD 0 (.Pass ⟨0, 0, 0, 0⟩)
  | s => s
theorem sc_init : FnScope ["self", "place"] ["self", "place"] (defScope s_init) := ⟨rfl, rfl, rfl, by decide +kernel, rfl, by decide +kernel, by decide +kernel⟩
def sp_init (K : PySem.W.Frag) : Sp := fun vs H Q _ => ∃ (a C : Addr) (v : V), vs = [.ref a, v] ∧ H a = some (exm a (.ref C) none) ∧ ExC K C ∧ NoAttr K C "place" ∧ ∀ d, H d = none → d ≠ a → Q .non (upd (upd H d (.xd [("place", v)])) a (exm a (.ref C) (some d)))
theorem ok_init {f : Addr} {fd : FuncData} (F : Fun K "__init__" "NoPlace.__init__" s_init f fd) : FnOk P w K mg base CX0 1 f fd ["self", "place"] (sp_init K) := by
  refine F.okq sc_init (fun vs H Q E h => ?_) (fun cdv A outer s H vs Q E hr h => ?_)
  · obtain ⟨a, C, v, rfl, _⟩ := h
    rfl
  · obtain ⟨a, C, v, rfl, h1, h2, h3, q⟩ := h
    refine ⟨_, qss_one (qs_xset (qv 0) (qv 1)), ?_⟩
    exact ⟨v, rfl, .ref a, rfl, a, C, rfl, h1, h2, h3, q⟩
end
end K17

set_option Elab.async false
set_option linter.all false
set_option maxRecDepth 100000
set_option maxHeartbeats 4000000
namespace K17
open PySem L2 K19
section
variable {P : Program} {w : World} {K : PySem.W.Frag} {mg : Str → Option Value} {base : Heap}
def sp_whole : Sp := fun vs H Q _ => ∃ k : Int, vs = [.int k] ∧ Q (.bl true) H
theorem sc_is_whole : FnScope ["thing"] ["thing"] (defScope s_is_whole) := ⟨rfl, rfl, rfl, by decide +kernel, rfl, by decide +kernel, by decide +kernel⟩
theorem ok_whole {f : Addr} {fd : FuncData} (F : Fun K "is_whole" "is_whole" s_is_whole f fd) (T : Txt K mg) : FnOk P w K mg base CX0 1 f fd ["thing"] sp_whole := by
  refine F.okq sc_is_whole (fun vs H Q E h => ?_) (fun cdv A outer s H vs Q E hr h => ?_)
  · obtain ⟨k, rfl, _⟩ := h
    rfl
  · obtain ⟨k, rfl, q⟩ := h
    refine ⟨_, qss_one (qs_ret (qe_and (qe_callB (k_isi K "int") (by rfl) T.isinstance (by decide +kernel) (qa_cons (qv 0) (qa_cons (qe_bltn (v := .ty "int") (by rfl) T.int (by decide +kernel) rfl) qa_nil))) (qe_one (qe_not (qe_callB (k_isi K "bool") (by rfl) T.isinstance (by decide +kernel) (qa_cons (qv 0) (qa_cons (qe_bltn (v := .ty "bool") (by rfl) T.bool (by decide +kernel) rfl) qa_nil))))))), ?_⟩
    walk_at "r"
    refine s_isi (.int _) kit_same ?_
    walk_at "r"
    refine s_isi (.int _) kit_int_bool ?_
    walk_at "r"
    exact q
end
end K17

set_option Elab.async false
set_option linter.all false
set_option maxRecDepth 100000
set_option maxHeartbeats 4000000
namespace K17
open PySem L2 K19
section
variable {P : Program} {w : World} {K : PySem.W.Frag} {mg : Str → Option Value} {base : Heap}
def sp_has (K : PySem.W.Frag) : Sp := fun vs H Q _ => ∃ (v : V) (w : Str) (n : Dt) (ps : List Tr) (k : Nat), vs = [v, .int (k : Nat)] ∧ TrAt K H v (.mk w n ps) ∧ k < ps.length ∧ Q (.bl true) H
theorem sc_has_part : FnScope ["form", "number"] ["form", "number"] (defScope s_has_part) := ⟨rfl, rfl, rfl, by decide +kernel, rfl, by decide +kernel, by decide +kernel⟩
theorem ok_has {f : Addr} {fd : FuncData} (F : Fun K "has_part" "has_part" s_has_part f fd) (T : Txt K mg) (C_is_whole : Callee P w K mg base 1 "is_whole" ["thing"] sp_whole) : FnOk P w K mg base CX0 2 f fd ["form", "number"] (sp_has K) := by
  refine F.okq sc_has_part (fun vs H Q E h => ?_) (fun cdv A outer s H vs Q E hr h => ?_)
  · obtain ⟨v, w, n, ps, k, rfl, _⟩ := h
    rfl
  · obtain ⟨v, w, n, ps, k, rfl, ht, hk, q⟩ := h
    refine ⟨_, qss_one (qs_ret (qe_and (qe_fn C_is_whole (hr.mono (by decide)) (qa_cons (qv 1) qa_nil)) (qe_one (qe_chain op_leA op_ltA (qe_int) (qv 1) (qe_callB (k_len K) (by rfl) T.len (by decide +kernel) (qa_cons (qe_ix (k_ix K) (qv 0) (qe_int) (fun _ _ => rfl)) qa_nil)))))), ?_⟩
    cases ht with
    | @mk b pp _ nv _ us _ qb hn qp l hch =>
    walk_at "r"
    refine ⟨_, rfl, ?_⟩
    walk_at "r"
    refine ite2 (fun _ => ?_) (fun c => absurd (decide_eq_true (by omega)) c)
    walk_at "r"
    refine s_ix_tup qb rfl ?_
    walk_at "r"
    refine s_len_tup qp ?_
    walk_at "r"
    have e : decide ((k : Int) < (us.length : Int)) = true := decide_eq_true (by omega)
    rw [e]
    exact q
end
end K17

set_option Elab.async false
set_option linter.all false
set_option maxRecDepth 100000
set_option maxHeartbeats 4000000
namespace K17
open PySem L2 K19
section
variable {P : Program} {w : World} {K : PySem.W.Frag} {mg : Str → Option Value} {base : Heap}
theorem atI_last {α : Type} {xs : List α} {x : α} (h : xs[xs.length - 1]? = some x) : atI xs (-1) = some x := by
  have hl := (List.getElem?_eq_some_iff.mp h).1
  unfold atI ixN
  rw [if_neg (by omega), if_pos (by omega)]
  have e : ((-1 : Int) + (xs.length : Int)).toNat = xs.length - 1 := by omega
  simpa [e] using h
theorem atI_ok {α : Type} {xs : List α} {i : Int} {x : α} (j : Nat) (hj : (j : Int) = i) (h : xs[j]? = some x) : atI xs i = some x := by
  have hl := (List.getElem?_eq_some_iff.mp h).1
  subst hj
  unfold atI ixN
  rw [if_pos (by omega), if_pos (by omega)]
  simpa using h
theorem plV_at {pl : List Nat} {i : Nat} {v : V} (h : (plV pl)[i]? = some v) : ∃ k, v = .int (k : Nat) ∧ pl[i]? = some k := by
  unfold plV at h
  rw [List.getElem?_map] at h
  cases e : pl[i]? with
  | none => rw [e] at h; cases h
  | some x => rw [e] at h; exact ⟨x, (Option.some.inj h).symm, rfl⟩
theorem plV_len (pl : List Nat) : (plV pl).length = pl.length := by unfold plV; simp
def sp_down (K : PySem.W.Frag) : Sp := fun vs H Q _ => ∃ (v : V) (t : Tr) (p : Addr) (pl : List Nat), vs = [v, .ref p] ∧ TrAt K H v t ∧ SqT K H p (plV pl) ∧ Sub t pl ∧ pl.length ≤ 1000 ∧
  ∀ (q : Addr) (ws : List V) (H' : Hp), H q = none → Same H H' → H' q = some (.lst ws) → Al (TrAt K H') ws (path t pl) → Q (.ref q) H'
theorem sc_forms_down_to : FnScope ["tree", "place", "passed", "number"] ["tree", "place"] (defScope s_forms_down_to) := ⟨rfl, rfl, rfl, by decide +kernel, rfl, by decide +kernel, by decide +kernel⟩
theorem ok_down {f : Addr} {fd : FuncData} (F : Fun K "forms_down_to" "forms_down_to" s_forms_down_to f fd) (T : Txt K mg) (C_has_part : Callee P w K mg base 2 "has_part" ["form", "number"] (sp_has K)) : FnOk P w K mg base CX0 3 f fd ["tree", "place"] (sp_down K) := by
  refine F.okq sc_forms_down_to (fun vs H Q E h => ?_) (fun cdv A outer s H vs Q E hr h => ?_)
  · obtain ⟨v, t, p, pl, rfl, _⟩ := h
    rfl
  · obtain ⟨v, t, p, pl, rfl, ht, hp, hs, hl, q⟩ := h
    refine ⟨_, qss_cons (qs_set (i := 2) sc_forms_down_to.nd rfl (Or.inl rfl) (qe_lst (qa_cons (qv 0) qa_nil)))
      (qss_cons (qs_for PassesOwn.never rfl (qi_anyK K (qv 1)) (qg_name (i := 3) sc_forms_down_to.nd rfl (Or.inl rfl)) (qss_cons (qs_if (qt_not (qt_val (qe_fn C_has_part (hr.mono (by decide)) (qa_cons (qe_ix (k_ix K) (qv 2) (qe_un un_neg (qe_int)) (fun _ _ => rfl)) (qa_cons (qv 3) qa_nil))))) (qss_one (qs_dead)) (qss_nil))
      (qss_one (qs_expr (qe_bmK K PySem.F.plainAttrs_list PySem.F.slot_list_append PySem.F.type_list_append mt_append (qv 2) (qa_cons (qe_ix (k_ix K) (qe_ix (k_ix K) (qe_ix (k_ix K) (qv 2) (qe_un un_neg (qe_int)) (fun _ _ => rfl)) (qe_int) (fun _ _ => rfl)) (qv 3) (fun _ _ => rfl)) qa_nil))))))
      (qss_one (qs_ret (qv 2)))), ?_⟩
    have bg := big
    walk_at "r"
    refine ⟨by show 1 ≤ sizeLine; decide, fun q0 hq0 => ?_⟩
    have s1 : Same H (upd H q0 (.lst [v])) := Same.upd hq0
    have e1 : upd H q0 (.lst [v]) q0 = some (.lst [v]) := upd_same
    revert s1 e1
    generalize upd H q0 (.lst [v]) = H1
    intro s1 e1
    walk_at "r"
    refine .inr (.inl ⟨p, rfl, ⟨_, s1.tup hp⟩, ?_⟩)
    have p0 : (path t pl).take 1 = [t] := by
      have := path_zero t pl
      cases e : path t pl with
      | nil => rw [e] at this; cases this
      | cons a r =>
        rw [e] at this
        have h : a = t := by simpa using this
        rw [h]
        rfl
    refine for_tup (K := K) (a := p) (xs := plV pl) (fun i σ' H' => ∃ w3 ws, σ' = [some v, some (.ref p), some (.ref q0), w3] ∧ H' q0 = some (.lst ws) ∧ Al (TrAt K H') ws ((path t pl).take (i + 1)) ∧ Same H H') ⟨none, [v], rfl, e1, by rw [p0]; exact Al.nil.snoc (ht.same s1), s1⟩ ?_ ?_ ?_
    · rintro i σ' H' _ ⟨_, _, _, _, _, sm⟩
      exact sm.tup hp
    · rintro i x σ' H' hx ⟨w3, ws, rfl, e2, al, sm⟩
      obtain ⟨k, rfl, hk⟩ := plV_at hx
      obtain ⟨w', n', ps, u, a1, a2, a3⟩ := path_at hs i k hk
      have hi := (List.getElem?_eq_some_iff.mp hk).1
      have hpl := path_len hs
      have hwl : ws.length = i + 1 := by rw [al.1, List.length_take]; omega
      have hx1 : ((path t pl).take (i + 1))[i]? = some (.mk w' n' ps) := by rw [List.getElem?_take, if_pos (by omega)]; exact a1
      obtain ⟨vi, hvi, hti⟩ := al.get' hx1
      have hlast : atI ws (-1) = some vi := atI_last (by rw [hwl]; exact hvi)
      cases hti with
      | @mk b pp _ nv _ us _ qb hn qp l hch =>
      have hku : k < us.length := by rw [l]; exact (List.getElem?_eq_some_iff.mp a2).1
      walk_at "r"
      refine s_ix_lst (SqL.of e2) hlast ?_
      walk_at "r"
      refine ⟨_, w', n', ps, k, rfl, .mk qb hn qp l hch, by omega, ?_⟩
      walk_at "r"
      refine s_tyL (SqL.of e2) ?_
      walk_at "r"
      refine s_ix_lst (SqL.of e2) hlast ?_
      walk_at "r"
      refine s_ix_tup qb rfl ?_
      walk_at "r"
      refine s_ix_tup qp (atI_ok k rfl (List.getElem?_eq_getElem hku)) ?_
      walk_at "r"
      refine s_app e2 (by omega) ?_
      walk_at "r"
      have t3 : SameT H' (upd H' q0 (.lst (ws ++ [us[k]]))) := SameT.set e2
      refine ⟨_, ws ++ [us[k]], rfl, upd_same, ?_, sm.over hq0⟩
      have e3 : (path t pl).take (i + 1 + 1) = (path t pl).take (i + 1) ++ [u] := by rw [List.take_add_one, a3]; rfl
      rw [e3]
      exact (al.mono fun _ _ z => z.sameT t3).snoc ((hch k _ u (List.getElem?_eq_getElem hku) a2).sameT t3)
    · rintro σ' H' ⟨w3, ws, rfl, e2, al, sm⟩
      rw [plV_len, List.take_of_length_le (by rw [path_len hs]; omega)] at al
      walk_at "r"
      exact q q0 ws H' hq0 sm e2 al
end
end K17

set_option Elab.async false
set_option linter.all false
set_option maxRecDepth 100000
set_option maxHeartbeats 4000000
namespace K17
open PySem L2 K19
section
variable {P : Program} {w : World} {K : PySem.W.Frag} {mg : Str → Option Value} {base : Heap}
def sp_hasZ (K : PySem.W.Frag) : Sp := fun vs H Q _ => ∃ (v : V) (w : Str) (n : Dt) (ps : List Tr) (k : Int), vs = [v, .int k] ∧ TrAt K H v (.mk w n ps) ∧ Q (.bl (decide (0 ≤ k ∧ k < ps.length))) H
theorem ok_hasZ {f : Addr} {fd : FuncData} (F : Fun K "has_part" "has_part" s_has_part f fd) (T : Txt K mg) (C_is_whole : Callee P w K mg base 1 "is_whole" ["thing"] sp_whole) : FnOk P w K mg base CX0 2 f fd ["form", "number"] (sp_hasZ K) := by
  refine F.okq sc_has_part (fun vs H Q E h => ?_) (fun cdv A outer s H vs Q E hr h => ?_)
  · obtain ⟨v, w, n, ps, k, rfl, _⟩ := h
    rfl
  · obtain ⟨v, w, n, ps, k, rfl, ht, q⟩ := h
    refine ⟨_, qss_one (qs_ret (qe_and (qe_fn C_is_whole (hr.mono (by decide)) (qa_cons (qv 1) qa_nil)) (qe_one (qe_chain op_leA op_ltA (qe_int) (qv 1) (qe_callB (k_len K) (by rfl) T.len (by decide +kernel) (qa_cons (qe_ix (k_ix K) (qv 0) (qe_int) (fun _ _ => rfl)) qa_nil)))))), ?_⟩
    cases ht with
    | @mk b pp _ nv _ us _ qb hn qp l hch =>
    walk_at "r"
    refine ⟨_, rfl, ?_⟩
    walk_at "r"
    refine ite2 (fun c => ?_) (fun c => ?_)
    · have c : 0 ≤ k := by simpa using c
      walk_at "r"
      refine s_ix_tup qb rfl ?_
      walk_at "r"
      refine s_len_tup qp ?_
      walk_at "r"
      have e : decide (k < (us.length : Int)) = decide (0 ≤ k ∧ k < (ps.length : Int)) := by rw [l]; exact decide_eq_decide.mpr ⟨fun h => ⟨c, h⟩, fun h => h.2⟩
      rw [e]
      exact q
    · have c : ¬ 0 ≤ k := fun h => c (by simpa using h)
      have e : decide (0 ≤ k ∧ k < (ps.length : Int)) = false := decide_eq_false fun h => c h.1
      rw [e] at q
      walk_at "r"
      exact q
end
end K17

set_option Elab.async false
set_option linter.all false
set_option maxRecDepth 100000
set_option maxHeartbeats 4000000
namespace K17
open PySem L2 K19
section
variable {P : Program} {w : World} {K : PySem.W.Frag} {mg : Str → Option Value} {base : Heap}
/-- a place that is none: beneath the form at pl there is no part of the number far -/
structure Bad (t : Tr) (pl : List Nat) (far : Int) : Prop where
  sub : Sub t pl
  ex : ∃ w n ps, (path t pl)[pl.length]? = some (.mk w n ps) ∧ ¬ (0 ≤ far ∧ far < (ps.length : Int))
def badV (pl : List Nat) (far : Int) (rest : List V) : List V := plV pl ++ .int far :: rest
theorem badV_at {pl : List Nat} {far : Int} {rest : List V} {i : Nat} (hi : i < pl.length) {v : V} (h : (badV pl far rest)[i]? = some v) : ∃ k, v = .int (k : Nat) ∧ pl[i]? = some k := by
  unfold badV at h
  rw [List.getElem?_append_left (by rw [plV_len]; exact hi)] at h
  exact plV_at h
theorem badV_far {pl : List Nat} {far : Int} {rest : List V} {v : V} (h : (badV pl far rest)[pl.length]? = some v) : v = .int far := by
  unfold badV at h
  rw [List.getElem?_append_right (by rw [plV_len]; exact Nat.le_refl _), plV_len, Nat.sub_self] at h
  exact (Option.some.inj h).symm
/-- the refusal: a NoPlace that has the place -/
def Rf (C : Addr) (H : Hp) (p : Addr) (E : XK) : Prop := ∀ (d : Addr) (H' : Hp), Same H H' → H' d = some (.xd [("place", .ref p)]) → E (.ref C) (some d) H'
theorem Rf.same {C : Addr} {H H' : Hp} {p : Addr} {E : XK} (h : Rf C H p E) (s : Same H H') : Rf C H' p E := fun d H2 s2 e => h d H2 (s.trans s2) e
def sp_downX (K : PySem.W.Frag) (C : Addr) : Sp := fun vs H _ E => ∃ (v : V) (t : Tr) (p : Addr) (pl : List Nat) (far : Int) (rest : List V), vs = [v, .ref p] ∧ TrAt K H v t ∧ SqT K H p (badV pl far rest) ∧ Bad t pl far ∧ pl.length ≤ 1000 ∧ Rf C H p E
theorem ok_downX {f : Addr} {fd : FuncData} (F : Fun K "forms_down_to" "forms_down_to" s_forms_down_to f fd) (T : Txt K mg) (C_has_part : Callee P w K mg base 2 "has_part" ["form", "number"] (sp_hasZ K))
    {C fi : Addr} {fdi : FuncData} (R_NoPlace : Rz K C fi) (F_NoPlace : FnOk P w K mg base CX0 1 fi fdi ["self", "place"] (sp_init K)) (b_NoPlace : Binds K fdi ["self", "place"] []) (G_NoPlace : mg "NoPlace" = some (.ref C)) (xC : ExC K C) (nA : NoAttr K C "place") : FnOk P w K mg base (CXR P w) 3 f fd ["tree", "place"] (sp_downX K C) := by
  refine F.okx sc_forms_down_to (fun vs H Q E h => ?_) (fun cdv A outer s H vs Q E hr h => ?_)
  · obtain ⟨v, t, p, pl, far, rest, rfl, _⟩ := h
    rfl
  · obtain ⟨v, t, p, pl, far, rest, rfl, ht, hp, hb, hl, q⟩ := h
    refine ⟨_, qss_cons (qs_set (i := 2) sc_forms_down_to.nd rfl (Or.inl rfl) (qe_lst (qa_cons (qv 0) qa_nil)))
      (qss_cons (qs_for PassesOwn.leaving rfl (qi_anyK K (qv 1)) (qg_name (i := 3) sc_forms_down_to.nd rfl (Or.inl rfl)) (qss_cons (qs_if (qt_not (qt_val (qe_fn C_has_part (hr.mono (by decide)) (qa_cons (qe_ix (k_ix K) (qv 2) (qe_un un_neg (qe_int)) (fun _ _ => rfl)) (qa_cons (qv 3) qa_nil))))) (qss_one (qs_raiseI rfl R_NoPlace F_NoPlace (hr.mono (by decide)) b_NoPlace G_NoPlace (qa_cons (qv 1) qa_nil) (fun _ _ _ _ _ _ _ I x h0 hn he => raises_cx I x h0 hn he) rfl)) (qss_nil))
      (qss_one (qs_expr (qe_bmK K PySem.F.plainAttrs_list PySem.F.slot_list_append PySem.F.type_list_append mt_append (qv 2) (qa_cons (qe_ix (k_ix K) (qe_ix (k_ix K) (qe_ix (k_ix K) (qv 2) (qe_un un_neg (qe_int)) (fun _ _ => rfl)) (qe_int) (fun _ _ => rfl)) (qv 3) (fun _ _ => rfl)) qa_nil))))))
      (qss_one (qs_ret (qv 2)))), ?_⟩
    have bg := big
    have hs := hb.sub
    walk_at "r"
    refine ⟨by show 1 ≤ sizeLine; decide, fun q0 hq0 => ?_⟩
    have s1 : Same H (upd H q0 (.lst [v])) := Same.upd hq0
    have e1 : upd H q0 (.lst [v]) q0 = some (.lst [v]) := upd_same
    revert s1 e1
    generalize upd H q0 (.lst [v]) = H1
    intro s1 e1
    walk_at "r"
    refine .inr (.inl ⟨p, rfl, ⟨_, s1.tup hp⟩, ?_⟩)
    have p0 : (path t pl).take 1 = [t] := by
      have := path_zero t pl
      cases e : path t pl with
      | nil => rw [e] at this; cases this
      | cons a r =>
        rw [e] at this
        have h : a = t := by simpa using this
        rw [h]
        rfl
    refine for_tup (K := K) (a := p) (xs := badV pl far rest) (fun i σ' H' => i ≤ pl.length ∧ ∃ w3 ws, σ' = [some v, some (.ref p), some (.ref q0), w3] ∧ H' q0 = some (.lst ws) ∧ Al (TrAt K H') ws ((path t pl).take (i + 1)) ∧ Same H H') ⟨Nat.zero_le _, none, [v], rfl, e1, by rw [p0]; exact Al.nil.snoc (ht.same s1), s1⟩ ?_ ?_ ?_
    · rintro i σ' H' _ ⟨_, _, _, _, _, _, sm⟩
      exact sm.tup hp
    · rintro i x σ' H' hx ⟨hil, w3, ws, rfl, e2, al, sm⟩
      have hpl := path_len hs
      have hwl : ws.length = i + 1 := by rw [al.1, List.length_take]; omega
      by_cases hi : i < pl.length
      · obtain ⟨k, rfl, hk⟩ := badV_at hi hx
        obtain ⟨w', n', ps, u, a1, a2, a3⟩ := path_at hs i k hk
        have hx1 : ((path t pl).take (i + 1))[i]? = some (.mk w' n' ps) := by rw [List.getElem?_take, if_pos (by omega)]; exact a1
        obtain ⟨vi, hvi, hti⟩ := al.get' hx1
        have hlast : atI ws (-1) = some vi := atI_last (by rw [hwl]; exact hvi)
        cases hti with
        | @mk b pp _ nv _ us _ qb hn qp l hch =>
        have hku : k < us.length := by rw [l]; exact (List.getElem?_eq_some_iff.mp a2).1
        walk_at "r"
        refine s_ix_lst (SqL.of e2) hlast ?_
        walk_at "r"
        refine ⟨_, w', n', ps, k, rfl, .mk qb hn qp l hch, ?_⟩
        rw [decide_eq_true (show (0 : Int) ≤ (k : Int) ∧ (k : Int) < (ps.length : Int) from ⟨by omega, by omega⟩)]
        walk_at "r"
        refine s_tyL (SqL.of e2) ?_
        walk_at "r"
        refine s_ix_lst (SqL.of e2) hlast ?_
        walk_at "r"
        refine s_ix_tup qb rfl ?_
        walk_at "r"
        refine s_ix_tup qp (atI_ok k rfl (List.getElem?_eq_getElem hku)) ?_
        walk_at "r"
        refine s_app e2 (by omega) ?_
        walk_at "r"
        have t3 : SameT H' (upd H' q0 (.lst (ws ++ [us[k]]))) := SameT.set e2
        refine ⟨hi, _, ws ++ [us[k]], rfl, upd_same, ?_, sm.over hq0⟩
        have e3 : (path t pl).take (i + 1 + 1) = (path t pl).take (i + 1) ++ [u] := by rw [List.take_add_one, a3]; rfl
        rw [e3]
        exact (al.mono fun _ _ z => z.sameT t3).snoc ((hch k _ u (List.getElem?_eq_getElem hku) a2).sameT t3)
      · obtain rfl : i = pl.length := by omega
        obtain rfl := badV_far hx
        obtain ⟨w', n', ps, a1, a2⟩ := hb.ex
        have hx1 : ((path t pl).take (pl.length + 1))[pl.length]? = some (.mk w' n' ps) := by rw [List.getElem?_take, if_pos (by omega)]; exact a1
        obtain ⟨vi, hvi, hti⟩ := al.get' hx1
        have hlast : atI ws (-1) = some vi := atI_last (by rw [hwl]; exact hvi)
        walk_at "r"
        refine s_ix_lst (SqL.of e2) hlast ?_
        walk_at "r"
        refine ⟨_, w', n', ps, far, rfl, hti, ?_⟩
        rw [decide_eq_false a2]
        walk_at "r"
        refine ⟨.ref p, rfl, ?_⟩
        refine ⟨by show 1 ≤ sizeLine; decide, fun e he => ⟨e, C, .ref p, rfl, upd_same, xC, nA, fun d hd hde => ⟨rfl, some d, upd_same, q d _ ?_ ?_⟩⟩⟩
        · intro b o hbo
          have hb' := sm b o hbo
          have n1 : b ≠ e := fun z => by rw [z, he] at hb'; cases hb'
          rw [upd_ne hde] at hd
          have n2 : b ≠ d := fun z => by rw [z, hd] at hb'; cases hb'
          rw [del_ne n1, upd_ne n1, upd_ne n2, upd_ne n1]
          exact hb'
        · rw [del_ne hde, upd_ne hde, upd_same]
    · rintro σ' H' ⟨hil, _⟩
      unfold badV at hil
      rw [List.length_append, plV_len, List.length_cons] at hil
      omega
end
end K17

set_option Elab.async false
set_option linter.all false
set_option maxRecDepth 100000
set_option maxHeartbeats 4000000
namespace K17
open PySem L2 K19
section
variable {P : Program} {w : World} {K : PySem.W.Frag} {mg : Str → Option Value} {base : Heap}
def sp_nb (K : PySem.W.Frag) : Sp := fun vs H Q _ => ∃ (v : V) (w : Str) (n : Dt) (ps : List Tr) (k : Nat), vs = [v, .int (k : Nat)] ∧ TrAt K H v (.mk w n ps) ∧ shp w n ∧
  ∀ (q : Addr) (H' : Hp), H q = none → Same H H' → H' q = some (.lst ((nb w n k).map V.str)) → Q (.ref q) H'
theorem dec_str {x y : Str} : decide (V.str x = V.str y) = decide (x = y) := by
  by_cases h : x = y
  · subst h; simp
  · rw [decide_eq_false h, decide_eq_false (fun e => h (by injection e))]
theorem isn_txt {H : Hp} {nv : V} {t : Str} (h : IsN K H nv (.flat (.str t))) : nv = .str t := by
  rcases h with ⟨_, e⟩ | ⟨a, vs, _, _, _, e⟩
  · injection e with e
    exact e.symm
  · cases e
theorem isn_two {H : Hp} {nv : V} {t u : Str} (h : IsN K H nv (.tup [.flat (.str t), .flat (.str u)])) : ∃ a, nv = .ref a ∧ SqT K H a [.str t, .str u] := by
  rcases h with ⟨_, e⟩ | ⟨a, vs, e1, q, _, e⟩
  · cases e
  · injection e with e
    match vs, e with
    | [x, y], e =>
      simp only [List.map_cons, List.map_nil, List.cons.injEq, Dt.flat.injEq, and_true] at e
      obtain ⟨rfl, rfl⟩ := e
      exact ⟨a, e1, q⟩
theorem sc_names_bound : FnScope ["form", "number"] ["form", "number"] (defScope s_names_bound) := ⟨rfl, rfl, rfl, by decide +kernel, rfl, by decide +kernel, by decide +kernel⟩
theorem ok_nb {f : Addr} {fd : FuncData} (F : Fun K "names_bound" "names_bound" s_names_bound f fd) (T : Txt K mg) : FnOk P w K mg base CX0 1 f fd ["form", "number"] (sp_nb K) := by
  refine F.okq sc_names_bound (fun vs H Q E h => ?_) (fun cdv A outer s H vs Q E hr h => ?_)
  · obtain ⟨v, w, n, ps, k, rfl, _⟩ := h
    rfl
  · obtain ⟨v, w, n, ps, k, rfl, ht, hsh, q⟩ := h
    refine ⟨_, qss_cons (qs_if (qt_cmpR (k_eq K hr.u200) (qe_ix (k_ix K) (qv 0) (qe_int) (fun _ _ => rfl)) (qe_str) (nomark _)) (qss_one (qs_ret (qe_lst (qa_cons (qe_ix (k_ix K) (qv 0) (qe_int) (fun _ _ => rfl)) qa_nil)))) (qss_nil))
      (qss_cons (qs_if (qt_cmpR (k_eq K hr.u200) (qe_ix (k_ix K) (qv 0) (qe_int) (fun _ _ => rfl)) (qe_str) (nomark _)) (qss_one (qs_ret (qe_callTy (k_list K) (by rfl) T.list (by decide +kernel) (qa_cons (qe_ix (k_ix K) (qv 0) (qe_int) (fun _ _ => rfl)) qa_nil)))) (qss_nil))
      (qss_cons (qs_if (QW.qt (qw_and (qt_cmpR (k_eq K hr.u200) (qe_ix (k_ix K) (qv 0) (qe_int) (fun _ _ => rfl)) (qe_str) (nomark _)) (qw_and1 (qt_cmpR (k_eq K hr.u200) (qv 1) (qe_int) (nomark _))))) (qss_one (qs_ret (qe_lst (qa_cons (qe_ix (k_ix K) (qv 0) (qe_int) (fun _ _ => rfl)) qa_nil)))) (qss_nil))
      (qss_one (qs_ret (qe_lst (qa_nil)))))), ?_⟩
    cases ht with
    | @mk b pp _ nv _ us _ qb hn qp l hch =>
    walk_at "r"
    refine s_ix_tup qb rfl ?_
    walk_at "r"
    rw [dec_str]
    refine ite2 (fun c => ?_) (fun c => ?_)
    · have c := of_decide_eq_true c
      obtain ⟨t, rfl⟩ := hsh.1 (.inl c)
      have := isn_txt hn
      subst this
      walk_at "r"
      refine s_ix_tup qb rfl ?_
      walk_at "r"
      refine ⟨by show 1 ≤ sizeLine; decide, fun p hp => ?_⟩
      refine q p _ hp (Same.upd hp) ?_
      rw [upd_same, nb, if_pos c]
      rfl
    have c1 : ¬ w = "fn" := fun e => c (decide_eq_true e)
    walk_at "r"
    refine s_ix_tup qb rfl ?_
    walk_at "r"
    rw [dec_str]
    refine ite2 (fun c => ?_) (fun c => ?_)
    · have c := of_decide_eq_true c
      obtain ⟨t, u, rfl⟩ := hsh.2 c
      obtain ⟨na, rfl, qn⟩ := isn_two hn
      walk_at "r"
      refine s_ix_tup qb rfl ?_
      walk_at "r"
      refine ⟨na, _, rfl, .inr qn, fun p hp => ?_⟩
      refine q p _ hp (Same.upd hp) ?_
      rw [upd_same, nb, if_neg c1, if_pos c]
      rfl
    have c2 : ¬ w = "rec" := fun e => c (decide_eq_true e)
    have none : ¬ (w = "let" ∧ k = 1) → ∀ p, H p = none → Q (.ref p) (upd H p (.lst [])) := fun h p hp => by
      refine q p _ hp (Same.upd hp) ?_
      rw [upd_same, nb, if_neg c1, if_neg c2, if_neg h]
      rfl
    walk_at "r"
    refine s_ix_tup qb rfl ?_
    walk_at "r"
    rw [dec_str]
    refine ite2 (fun c => ?_) (fun c => ?_)
    · have c := of_decide_eq_true c
      walk_at "r"
      refine ite2 (fun c3 => ?_) (fun c3 => ?_)
      · have c3 : k = 1 := by
          have : (k : Int) = 1 := by simpa using c3
          omega
        obtain ⟨t, rfl⟩ := hsh.1 (.inr (.inl c))
        have := isn_txt hn
        subst this
        walk_at "r"
        refine s_ix_tup qb rfl ?_
        walk_at "r"
        refine ⟨by show 1 ≤ sizeLine; decide, fun p hp => ?_⟩
        refine q p _ hp (Same.upd hp) ?_
        rw [upd_same, nb, if_neg c1, if_neg c2, if_pos ⟨c, c3⟩]
        rfl
      · walk_at "r"
        refine ⟨by show 0 ≤ sizeLine; decide, fun p hp => none (fun e => c3 ?_) p hp⟩
        rw [e.2]
        decide
    · walk_at "r"
      refine ⟨by show 0 ≤ sizeLine; decide, fun p hp => none (fun e => c (decide_eq_true e.1)) p hp⟩
end
end K17

set_option Elab.async false
set_option linter.all false
set_option maxRecDepth 100000
set_option maxHeartbeats 4000000
namespace K17
open PySem L2 K19
section
variable {P : Program} {w : World} {K : PySem.W.Frag} {mg : Str → Option Value} {base : Heap}
/-- a binding: its name, and the place of its form -/
def BdAt (K : PySem.W.Frag) (H : Hp) (pl : List Nat) (v : V) (x : Str × Nat) : Prop := ∃ (a b : Addr), v = .ref a ∧ SqT K H a [.str x.1, .ref b] ∧ SqT K H b (plV (pl.take x.2))
theorem BdAt.same {H H' : Hp} {pl : List Nat} (e : SameT H H') (v : V) (x : Str × Nat) (h : BdAt K H pl v x) : BdAt K H' pl v x := by
  obtain ⟨a, b, h1, h2, h3⟩ := h
  exact ⟨a, b, h1, e.tup h2, e.tup h3⟩
theorem nb_len (w : Str) (n : Dt) (k : Nat) : (nb w n k).length ≤ 2 := by
  have h1 : (txt1 n).length ≤ 2 := by unfold txt1; split <;> simp
  have h2 : (txt2 n).length ≤ 2 := by unfold txt2; split <;> simp
  unfold nb
  split
  · exact h1
  · split
    · exact h2
    · split
      · exact h1
      · simp
theorem lay_two {t : Tr} {pl : List Nat} (s : Sub t pl) : ∀ l ∈ lay t pl, l.length ≤ 2 := by
  induction s with
  | nil t => intro l h; cases t; cases h
  | cons h _ ih =>
    intro l hl
    rw [lay_cons h] at hl
    rcases List.mem_cons.mp hl with rfl | hl
    · exact nb_len _ _ _
    · exact ih l hl
theorem bnf_len : ∀ (d : Nat) (ls : List (List Str)), (∀ l ∈ ls, l.length ≤ 2) → (bnf d ls).length ≤ 2 * ls.length
  | _, [], _ => by simp [bnf]
  | d, l :: r, h => by
    have h1 := h l List.mem_cons_self
    have h2 := bnf_len (d + 1) r fun x hx => h x (List.mem_cons_of_mem _ hx)
    rw [bnf, List.length_append, List.length_map, List.length_cons]
    omega
theorem bn_len {t : Tr} {pl : List Nat} (s : Sub t pl) : (bn t pl).length ≤ 2 * pl.length := by
  have := bnf_len 0 (lay t pl) (lay_two s)
  rw [lay_len s] at this
  exact this
theorem plV_take (pl : List Nat) (k : Nat) : (plV pl).take k = plV (pl.take k) := by unfold plV; rw [List.map_take]
def sp_bnd (K : PySem.W.Frag) : Sp := fun vs H Q _ => ∃ (v : V) (t : Tr) (p : Addr) (pl : List Nat), vs = [v, .ref p] ∧ TrAt K H v t ∧ TrSh t ∧ SqT K H p (plV pl) ∧ Sub t pl ∧ pl.length ≤ 1000 ∧
  ∀ (q : Addr) (ws : List V) (H' : Hp), H q = none → Same H H' → H' q = some (.lst ws) → Al (BdAt K H' pl) ws (bn t pl) → Q (.ref q) H'
theorem sc_bindings_at : FnScope ["tree", "place", "told", "depth", "above", "name"] ["tree", "place"] (defScope s_bindings_at) := ⟨rfl, rfl, rfl, by decide +kernel, rfl, by decide +kernel, by decide +kernel⟩
theorem ok_bnd {f : Addr} {fd : FuncData} (F : Fun K "bindings_at" "bindings_at" s_bindings_at f fd) (T : Txt K mg) (C_forms_down_to : Callee P w K mg base 3 "forms_down_to" ["tree", "place"] (sp_down K)) (C_names_bound : Callee P w K mg base 1 "names_bound" ["form", "number"] (sp_nb K)) : FnOk P w K mg base CX0 4 f fd ["tree", "place"] (sp_bnd K) := by
  refine F.okq sc_bindings_at (fun vs H Q E h => ?_) (fun cdv A outer s H vs Q E hr h => ?_)
  · obtain ⟨v, t, p, pl, rfl, _⟩ := h
    rfl
  · obtain ⟨v, t, p, pl, rfl, ht, hsh, hp, hs, hl, q⟩ := h
    refine ⟨_, qss_cons (qs_set (i := 2) sc_bindings_at.nd rfl (Or.inl rfl) (qe_lst (qa_nil)))
      (qss_cons (qs_for PassesOwn.never rfl (qi_enumK K rfl T.enumerate (qa_cons (qe_slice (k_slB K) (qe_fn C_forms_down_to (hr.mono (by decide)) (qa_cons (qv 0) (qa_cons (qv 1) qa_nil))) (qo_none) (qo_some (qe_un un_neg (qe_int)))) qa_nil)) (qg_tupK K (n := 2) rfl (qgs_cons (qg_name (i := 3) sc_bindings_at.nd rfl (Or.inl rfl)) (qgs_cons (qg_name (i := 4) sc_bindings_at.nd rfl (Or.inl rfl)) (qgs_nil)))) (qss_one (qs_for PassesOwn.never rfl (qi_anyK K (qe_fn C_names_bound (hr.mono (by decide)) (qa_cons (qv 4) (qa_cons (qe_ix (k_ix K) (qv 1) (qv 3) (fun _ _ => rfl)) qa_nil)))) (qg_name (i := 5) sc_bindings_at.nd rfl (Or.inl rfl)) (qss_one (qs_expr (qe_bmK K PySem.F.plainAttrs_list PySem.F.slot_list_append PySem.F.type_list_append mt_append (qv 2) (qa_cons (qe_tup (qa_cons (qv 5) (qa_cons (qe_slice (k_slB K) (qv 1) (qo_none) (qo_some (qv 3))) qa_nil))) qa_nil)))))))
      (qss_one (qs_ret (qv 2)))), ?_⟩
    have bg := big
    have hpl := path_len hs
    have hll := lay_len hs
    have hbl := bn_len hs
    walk_at "r"
    refine ⟨by show 0 ≤ sizeLine; decide, fun q0 hq0 => ?_⟩
    have s1 : Same H (upd H q0 (.lst [])) := Same.upd hq0
    have e1 : upd H q0 (.lst []) q0 = some (.lst []) := upd_same
    revert s1 e1
    generalize upd H q0 (.lst []) = H1
    intro s1 e1
    walk_at "r"
    refine ⟨v, t, p, pl, rfl, ht.same s1, s1.tup hp, hs, hl, fun q2 ws H2 hq2 s2 e2 al => ?_⟩
    walk_at "r"
    refine s_slb_lst (SqL.of e2) fun q3 hq3 => ?_
    have ec : cutV ws none (some (-1)) = ws.take pl.length := by rw [cutV_last, al.1, hpl]; rfl
    rw [ec]
    have s3 : Same H2 (upd H2 q3 (.lst (ws.take pl.length))) := Same.upd hq3
    have e3 : upd H2 q3 (.lst (ws.take pl.length)) q3 = some (.lst (ws.take pl.length)) := upd_same
    revert s3 e3
    generalize upd H2 q3 (.lst (ws.take pl.length)) = H3
    intro s3 e3
    walk_at "r"
    refine ⟨q3, _, rfl, SqL.of e3, ?_⟩
    have s13 := s1.trans (s2.trans s3)
    have hwl : (ws.take pl.length).length = pl.length := by rw [List.length_take, al.1]; omega
    have n3 : q0 ≠ q3 := ne_of_none ((s2 _ _ e1)) hq3
    refine for_enum (K := K) (a := q3) (xs := ws.take pl.length) (fun i σ' H' => ∃ w3 w4 w5 vs, σ' = [some v, some (.ref p), some (.ref q0), w3, w4, w5] ∧ H' q0 = some (.lst vs) ∧ H' q3 = some (.lst (ws.take pl.length)) ∧ Al (BdAt K H' pl) vs (bnf 0 ((lay t pl).take i)) ∧ SameT H3 H' ∧ Same H H') ⟨none, none, none, [], rfl, (s2.trans s3) _ _ e1, e3, Al.nil, SameT.refl _, s13⟩ ?_ ?_ ?_
    · rintro i σ' H' _ ⟨_, _, _, _, _, _, e, _⟩
      exact SqL.of e
    · rintro i x tt σ' H' hx htt ⟨w3, w4, w5, vs, rfl, e4, e5, al4, t4, sm4⟩
      have hi : i < pl.length := by have := (List.getElem?_eq_some_iff.mp hx).1; rw [hwl] at this; exact this
      have hk : pl[i]? = some pl[i] := List.getElem?_eq_getElem hi
      have hx' : ws[i]? = some x := by rw [List.getElem?_take, if_pos hi] at hx; exact hx
      obtain ⟨w', n', ps, u, a1, a2, a3⟩ := path_at hs i _ hk
      obtain ⟨ti, hti, hat⟩ := al.get hx'
      rw [a1] at hti
      cases hti
      have hsi : shp w' n' := by
        cases path_sh hs hsh _ (List.mem_of_getElem? a1) with
        | mk h _ => exact h
      have hla := lay_at hs i _ w' n' ps hk a1
      have s6 : Same H' (upd H' tt (.tup [.int i, x])) := Same.upd htt
      have e6 : upd H' tt (.tup [.int i, x]) tt = some (.tup [.int i, x]) := upd_same
      revert s6 e6
      generalize upd H' tt (.tup [.int i, x]) = H6
      intro s6 e6
      walk_at "r"
      refine s_gtup (SqT.of e6) rfl ?_
      walk_at "r"
      refine s_ix_tup (s6.tup (sm4.tup hp)) (v := .int (pl[i] : Nat)) (atI_ok i rfl (by unfold plV; rw [List.getElem?_map, hk]; rfl)) ?_
      walk_at "r"
      refine ⟨x, w', n', ps, pl[i], rfl, (hat.sameT (s3.t.trans t4)).same s6, hsi, fun q7 H7 hq7 s7 e7 => ?_⟩
      refine .inl ⟨q7, rfl, ⟨_, SqL.of e7⟩, ?_⟩
      have s67 := s6.trans s7
      have n07 : q0 ≠ q7 := ne_of_none (s6 _ _ e4) hq7
      have n37 : q3 ≠ q7 := ne_of_none (s6 _ _ e5) hq7
      refine for_list (K := K) (a := q7) (xs := (nb w' n' pl[i]).map V.str) (fun j σ' H' => ∃ w5 us, σ' = [some v, some (.ref p), some (.ref q0), some (.int i), some x, w5] ∧ H' q0 = some (.lst us) ∧ H' q3 = some (.lst (ws.take pl.length)) ∧ H' q7 = some (.lst ((nb w' n' pl[i]).map V.str)) ∧ Al (BdAt K H' pl) us (bnf 0 ((lay t pl).take i) ++ ((nb w' n' pl[i]).take j).map fun y => (y, i)) ∧ SameT H3 H' ∧ Same H H') ⟨_, vs, rfl, s67 _ _ e4, s67 _ _ e5, e7, by simpa using al4.mono (BdAt.same s67.t), t4.trans s67.t, sm4.trans s67⟩ ?_ ?_ ?_
      · rintro j σ' H' _ ⟨_, _, _, _, _, e, _⟩
        exact SqL.of e
      · rintro j y σ' H8 hy ⟨w5', us, rfl, e8, e8b, e8c, al8, t8, sm8⟩
        rw [List.getElem?_map] at hy
        cases hyy : (nb w' n' pl[i])[j]? with
        | none => rw [hyy] at hy; cases hy
        | some yy =>
        rw [hyy] at hy
        have hy : V.str yy = y := by simpa using hy
        subst hy
        have hnl := nb_len w' n' pl[i]
        have hul : us.length ≤ 2 * pl.length + 2 := by
          rw [al8.1, List.length_append, List.length_map, List.length_take]
          have := bnf_len 0 ((lay t pl).take i) (fun l hl => lay_two hs l (List.mem_of_mem_take hl))
          rw [List.length_take] at this
          omega
        walk_at "r"
        refine s_tyL (SqL.of e8) ?_
        walk_at "r"
        refine s_slb_tup (sm8.tup hp) fun r9 H9 s9 q9 => ?_
        rw [cutV_to, plV_take] at q9
        walk_at "r"
        refine ⟨by show 2 ≤ sizeLine; decide, fun p10 h10 => ?_⟩
        have s10 : Same H8 (upd H9 p10 (.tup [.str yy, .ref r9])) := s9.put h10
        have e10 := s10 _ _ e8
        walk_at "r"
        refine s_app e10 (by omega) ?_
        walk_at "r"
        have t11 : SameT H8 (upd (upd H9 p10 (.tup [.str yy, .ref r9])) q0 (.lst (us ++ [.ref p10]))) := s10.t.trans (SameT.set e10)
        refine ⟨_, us ++ [.ref p10], rfl, upd_same, by rw [upd_ne n3.symm]; exact s10 _ _ e8b, by rw [upd_ne n07.symm]; exact s10 _ _ e8c, ?_, t8.trans t11, (sm8.trans s10).over hq0⟩
        rw [List.take_add_one, hyy, List.map_append, ← List.append_assoc]
        refine (al8.mono (BdAt.same t11)).snoc ⟨p10, r9, rfl, (SameT.set e10).tup (SqT.of upd_same), ?_⟩
        exact ((Same.upd (o := .tup [.str yy, .ref r9]) h10).t.trans (SameT.set e10)).tup q9
      · rintro σ' H8 ⟨w5', us, rfl, e8, e8b, e8c, al8, t8, sm8⟩
        rw [List.length_map, List.take_length] at al8
        refine ⟨_, _, _, us, rfl, e8, e8b, ?_, t8, sm8⟩
        rw [List.take_add_one, hla, bnf_append]
        have e9 : bnf (0 + ((lay t pl).take i).length) (some (nb w' n' pl[i])).toList = (nb w' n' pl[i]).map fun y => (y, i) := by
          rw [List.length_take, hll, Nat.zero_add, Nat.min_eq_left (by omega)]
          simp [bnf]
        rw [e9]
        exact al8
    · rintro σ' H' ⟨w3, w4, w5, vs, rfl, e4, e5, al4, t4, sm4⟩
      rw [hwl, List.take_of_length_le (by omega)] at al4
      walk_at "r"
      exact q q0 vs H' hq0 sm4 e4 al4
end
end K17

set_option Elab.async false
set_option linter.all false
set_option maxRecDepth 100000
set_option maxHeartbeats 4000000
namespace K17
open PySem L2 K19
section
variable {P : Program} {w : World} {K : PySem.W.Frag} {mg : Str → Option Value} {base : Heap}
def sp_nat (K : PySem.W.Frag) : Sp := fun vs H Q _ => ∃ (v : V) (t : Tr) (p : Addr) (pl : List Nat), vs = [v, .ref p] ∧ TrAt K H v t ∧ TrSh t ∧ SqT K H p (plV pl) ∧ Sub t pl ∧ pl.length ≤ 1000 ∧
  ∀ (q : Addr) (H' : Hp), H q = none → Same H H' → H' q = some (.lst ((nms t pl).map V.str)) → Q (.ref q) H'
theorem nd_names_at_1 : (["name", "where"] : List Str).Nodup := by decide +kernel
theorem sc_names_at : FnScope ["tree", "place"] ["tree", "place"] (defScope s_names_at) := ⟨rfl, rfl, rfl, by decide +kernel, rfl, by decide +kernel, by decide +kernel⟩
theorem ok_nat {f : Addr} {fd : FuncData} (F : Fun K "names_at" "names_at" s_names_at f fd) (T : Txt K mg) (C_bindings_at : Callee P w K mg base 4 "bindings_at" ["tree", "place"] (sp_bnd K)) : FnOk P w K mg base CX0 5 f fd ["tree", "place"] (sp_nat K) := by
  refine F.okq sc_names_at (fun vs H Q E h => ?_) (fun cdv A outer s H vs Q E hr h => ?_)
  · obtain ⟨v, t, p, pl, rfl, _⟩ := h
    rfl
  · obtain ⟨v, t, p, pl, rfl, ht, hsh, hp, hs, hl, q⟩ := h
    refine ⟨_, qss_one (qs_ret (qe_comp (N := ["name", "where"]) (σ0 := capSt 2 []) rfl (cscope_fn rfl (by decide +kernel) (by decide +kernel) (by decide +kernel)) (qi_anyK K (qe_fn C_bindings_at (hr.mono (by decide)) (qa_cons (qv 0) (qa_cons (qv 1) qa_nil)))) (takes_in rfl (by rfl)) (fun _ _ _ _ => qg_tupK K (n := 2) rfl (qgs_cons (qg_name (i := 0) nd_names_at_1 rfl (Or.inl rfl)) (qgs_cons (qg_name (i := 1) nd_names_at_1 rfl (Or.inl rfl)) (qgs_nil)))) (fun _ _ _ _ => qts_nil) (fun _ _ _ _ => qv 0))), ?_⟩
    have bg := big
    have hbl := bn_len hs
    walk_at "r"
    refine ⟨v, t, p, pl, rfl, ht, hsh, hp, hs, hl, fun q1 ws H1 hq1 s1 e1 al => ?_⟩
    refine .inl ⟨q1, rfl, ⟨_, SqL.of e1⟩, fun D hD => ?_⟩
    have nD : q1 ≠ D := ne_of_none e1 hD
    refine comp_list (K := K) (a := q1) (xs := ws) (Pv := fun i ys σ' H' => ∃ v0 v1, σ' = [v0, v1] ∧ H' q1 = some (.lst ws) ∧ ys = (((bn t pl).take i).map fun x => V.str x.1) ∧ SameT H1 H' ∧ Same H1 H') ⟨none, none, rfl, by rw [upd_ne nD]; exact e1, rfl, SameT.new hD, Same.upd hD⟩ ?_ ?_ ?_
    · rintro i ys σ' H' _ ⟨_, _, _, e, _⟩
      exact SqL.of e
    · rintro i x ys σ' H' hx hys ⟨v0, v1, rfl, e, rfl, t2, sm⟩
      obtain ⟨y, hy, a, b, rfl, g1, g2⟩ := al.get hx
      have hi := (List.getElem?_eq_some_iff.mp hx).1
      have hwl : ws.length ≤ 2000 := by rw [al.1]; omega
      walk_at "r"
      refine s_gtup (t2.tup g1) rfl ?_
      walk_at "r"
      refine ⟨_, hys, by rw [List.length_map, List.length_take]; omega, _, upd_same, ?_⟩
      refine ⟨_, _, rfl, by rw [upd_ne nD]; exact e, ?_, t2.trans (SameT.set hys), sm.over hD⟩
      rw [List.take_add_one, hy, List.map_append]
      rfl
    · rintro ys σ' H' hys ⟨v0, v1, rfl, e, rfl, t2, sm⟩
      rw [al.1, List.take_length] at hys
      refine q D H' (s1.free hD) (s1.trans sm) ?_
      rw [hys, ← bn_nms, List.map_map]
      rfl
end
end K17

set_option Elab.async false
set_option linter.all false
set_option maxRecDepth 100000
set_option maxHeartbeats 4000000
namespace K17
open PySem L2 K19
section
variable {P : Program} {w : World} {K : PySem.W.Frag} {mg : Str → Option Value} {base : Heap}
def optV : Option Nat → V
  | none => .non
  | some i => .int (i : Nat)
def sp_bat (K : PySem.W.Frag) : Sp := fun vs H Q _ => ∃ (v : V) (t : Tr) (p : Addr) (pl : List Nat) (x : Str), vs = [v, .ref p, .str x] ∧ TrAt K H v t ∧ TrSh t ∧ SqT K H p (plV pl) ∧ Sub t pl ∧ pl.length ≤ 1000 ∧
  ∀ (H' : Hp), Same H H' → Q (optV (lix x 0 (nms t pl))) H'
theorem sc_binding_at : FnScope ["tree", "place", "name", "last", "number", "bound"] ["tree", "place", "name"] (defScope s_binding_at) := ⟨rfl, rfl, rfl, by decide +kernel, rfl, by decide +kernel, by decide +kernel⟩
theorem ok_bat {f : Addr} {fd : FuncData} (F : Fun K "binding_at" "binding_at" s_binding_at f fd) (T : Txt K mg) (C_names_at : Callee P w K mg base 5 "names_at" ["tree", "place"] (sp_nat K)) : FnOk P w K mg base CX0 6 f fd ["tree", "place", "name"] (sp_bat K) := by
  refine F.okq sc_binding_at (fun vs H Q E h => ?_) (fun cdv A outer s H vs Q E hr h => ?_)
  · obtain ⟨v, t, p, pl, x, rfl, _⟩ := h
    rfl
  · obtain ⟨v, t, p, pl, x, rfl, ht, hsh, hp, hs, hl, q⟩ := h
    refine ⟨_, qss_cons (qs_set (i := 3) sc_binding_at.nd rfl (Or.inl rfl) (qe_non))
      (qss_cons (qs_for PassesOwn.never rfl (qi_enumK K rfl T.enumerate (qa_cons (qe_fn C_names_at (hr.mono (by decide)) (qa_cons (qv 0) (qa_cons (qv 1) qa_nil))) qa_nil)) (qg_tupK K (n := 2) rfl (qgs_cons (qg_name (i := 4) sc_binding_at.nd rfl (Or.inl rfl)) (qgs_cons (qg_name (i := 5) sc_binding_at.nd rfl (Or.inl rfl)) (qgs_nil)))) (qss_one (qs_if (qt_cmpR (k_eq K hr.u200) (qv 5) (qv 2) (nomark _)) (qss_one (qs_set (i := 3) sc_binding_at.nd rfl (Or.inl rfl) (qv 4))) (qss_nil))))
      (qss_one (qs_ret (qv 3)))), ?_⟩
    walk_at "r"
    refine ⟨v, t, p, pl, rfl, ht, hsh, hp, hs, hl, fun q1 H1 hq1 s1 e1 => ?_⟩
    walk_at "r"
    refine ⟨q1, _, rfl, SqL.of e1, ?_⟩
    refine for_enum (K := K) (a := q1) (xs := (nms t pl).map V.str) (fun i σ' H' => ∃ w4 w5, σ' = [some v, some (.ref p), some (.str x), some (optV (lix x 0 ((nms t pl).take i))), w4, w5] ∧ Same H1 H') ⟨none, none, rfl, Same.refl _⟩ ?_ ?_ ?_
    · rintro i σ' H' _ ⟨_, _, _, sm⟩
      exact SqL.of (sm _ _ e1)
    · rintro i y tt σ' H' hy htt ⟨w4, w5, rfl, sm⟩
      rw [List.getElem?_map] at hy
      cases hyy : (nms t pl)[i]? with
      | none => rw [hyy] at hy; cases hy
      | some yy =>
      rw [hyy] at hy
      have hy : V.str yy = y := by simpa using hy
      subst hy
      have hi := (List.getElem?_eq_some_iff.mp hyy).1
      have e2 : lix x 0 ((nms t pl).take (i + 1)) = if yy = x then some i else lix x 0 ((nms t pl).take i) := by
        rw [List.take_add_one, hyy]
        show lix x 0 (_ ++ [yy]) = _
        rw [lix_snoc, List.length_take, Nat.zero_add, Nat.min_eq_left (by omega)]
      have s3 : Same H' (upd H' tt (.tup [.int i, .str yy])) := Same.upd htt
      have e3 : upd H' tt (.tup [.int i, .str yy]) tt = some (.tup [.int i, .str yy]) := upd_same
      revert s3 e3
      generalize upd H' tt (.tup [.int i, .str yy]) = H3
      intro s3 e3
      walk_at "r"
      refine s_gtup (SqT.of e3) rfl ?_
      walk_at "r"
      rw [dec_str]
      refine ite2 (fun c => ?_) (fun c => ?_)
      · have c := of_decide_eq_true c
        walk_at "r"
        refine ⟨some (.int i), some (.str yy), ?_, sm.trans s3⟩
        rw [e2, if_pos c]
        rfl
      · have c : ¬ yy = x := fun e => c (decide_eq_true e)
        walk_at "r"
        refine ⟨some (.int i), some (.str yy), ?_, sm.trans s3⟩
        rw [e2, if_neg c]
        rfl
    · rintro σ' H' ⟨w4, w5, rfl, sm⟩
      rw [List.length_map, List.take_length]
      walk_at "r"
      exact q H' (s1.trans sm)
end
end K17

set_option Elab.async false
set_option linter.all false
set_option maxRecDepth 100000
set_option maxHeartbeats 4000000
namespace K17
open PySem L2 K19
section
variable {P : Program} {w : World} {K : PySem.W.Frag} {mg : Str → Option Value} {base : Heap}
def sp_bdr (K : PySem.W.Frag) : Sp := fun vs H Q _ => ∃ (v : V) (t : Tr) (p : Addr) (pl : List Nat) (i : Nat) (x : Str) (d : Nat), vs = [v, .ref p, .int (i : Nat)] ∧ TrAt K H v t ∧ TrSh t ∧ SqT K H p (plV pl) ∧ Sub t pl ∧ pl.length ≤ 1000 ∧ (bn t pl)[i]? = some (x, d) ∧
  ∀ (b : Addr) (H' : Hp), Same H H' → SqT K H' b (plV (pl.take d)) → Q (.ref b) H'
theorem sc_binder : FnScope ["tree", "place", "number"] ["tree", "place", "number"] (defScope s_binder) := ⟨rfl, rfl, rfl, by decide +kernel, rfl, by decide +kernel, by decide +kernel⟩
theorem ok_bdr {f : Addr} {fd : FuncData} (F : Fun K "binder" "binder" s_binder f fd) (T : Txt K mg) (C_bindings_at : Callee P w K mg base 4 "bindings_at" ["tree", "place"] (sp_bnd K)) : FnOk P w K mg base CX0 5 f fd ["tree", "place", "number"] (sp_bdr K) := by
  refine F.okq sc_binder (fun vs H Q E h => ?_) (fun cdv A outer s H vs Q E hr h => ?_)
  · obtain ⟨v, t, p, pl, i, x, d, rfl, _⟩ := h
    rfl
  · obtain ⟨v, t, p, pl, i, x, d, rfl, ht, hsh, hp, hs, hl, hi, q⟩ := h
    refine ⟨_, qss_one (qs_ret (qe_ix (k_ix K) (qe_ix (k_ix K) (qe_fn C_bindings_at (hr.mono (by decide)) (qa_cons (qv 0) (qa_cons (qv 1) qa_nil))) (qv 2) (fun _ _ => rfl)) (qe_int) (fun _ _ => rfl))), ?_⟩
    walk_at "r"
    refine ⟨v, t, p, pl, rfl, ht, hsh, hp, hs, hl, fun q1 ws H1 hq1 s1 e1 al => ?_⟩
    obtain ⟨y, hy, a, b, rfl, g1, g2⟩ := al.get' hi
    walk_at "r"
    refine s_ix_lst (SqL.of e1) (atI_ok i rfl hy) ?_
    walk_at "r"
    refine s_ix_tup g1 rfl ?_
    exact q b H1 s1 g2
end
end K17

set_option Elab.async false
set_option linter.all false
set_option maxRecDepth 100000
set_option maxHeartbeats 4000000
namespace K17
open PySem L2 K19
section
variable {P : Program} {w : World} {K : PySem.W.Frag} {mg : Str → Option Value} {base : Heap}
def sp_bndX (K : PySem.W.Frag) (C : Addr) : Sp := sp_downX K C
theorem ok_bndX {C : Addr} {f : Addr} {fd : FuncData} (F : Fun K "bindings_at" "bindings_at" s_bindings_at f fd) (T : Txt K mg) (C_forms_down_to : CalleeX P w K mg base 3 "forms_down_to" ["tree", "place"] (sp_downX K C)) (C_names_bound : Callee P w K mg base 1 "names_bound" ["form", "number"] (sp_nb K)) : FnOk P w K mg base (CXR P w) 4 f fd ["tree", "place"] (sp_bndX K C) := by
  refine F.okx sc_bindings_at (fun vs H Q E h => ?_) (fun cdv A outer s H vs Q E hr h => ?_)
  · obtain ⟨v, t, p, pl, far, rest, rfl, _⟩ := h
    rfl
  · obtain ⟨v, t, p, pl, far, rest, rfl, ht, hp, hb, hl, q⟩ := h
    refine ⟨_, qss_cons (qs_set (i := 2) sc_bindings_at.nd rfl (Or.inl rfl) (qe_lst (qa_nil)))
      (qss_cons (qs_for PassesOwn.leaving rfl (qi_enumK K rfl T.enumerate (qa_cons (qe_slice (k_slB K) (qe_fnx C_forms_down_to (hr.mono (by decide)) (passes_cx (fun _ _ _ h => h)) (qa_cons (qv 0) (qa_cons (qv 1) qa_nil))) (qo_none) (qo_some (qe_un un_neg (qe_int)))) qa_nil)) (qg_tupK K (n := 2) rfl (qgs_cons (qg_name (i := 3) sc_bindings_at.nd rfl (Or.inl rfl)) (qgs_cons (qg_name (i := 4) sc_bindings_at.nd rfl (Or.inl rfl)) (qgs_nil)))) (qss_one (qs_for PassesOwn.leaving rfl (qi_anyK K (qe_fn C_names_bound (hr.mono (by decide)) (qa_cons (qv 4) (qa_cons (qe_ix (k_ix K) (qv 1) (qv 3) (fun _ _ => rfl)) qa_nil)))) (qg_name (i := 5) sc_bindings_at.nd rfl (Or.inl rfl)) (qss_one (qs_expr (qe_bmK K PySem.F.plainAttrs_list PySem.F.slot_list_append PySem.F.type_list_append mt_append (qv 2) (qa_cons (qe_tup (qa_cons (qv 5) (qa_cons (qe_slice (k_slB K) (qv 1) (qo_none) (qo_some (qv 3))) qa_nil))) qa_nil)))))))
      (qss_one (qs_ret (qv 2)))), ?_⟩
    walk_at "r"
    refine ⟨by show 0 ≤ sizeLine; decide, fun q0 hq0 => ?_⟩
    have s1 : Same H (upd H q0 (.lst [])) := Same.upd hq0
    walk_at "r"
    exact ⟨v, t, p, pl, far, rest, rfl, ht.same s1, s1.tup hp, hb, hl, q.same s1⟩
end
end K17

set_option Elab.async false
set_option linter.all false
set_option maxRecDepth 100000
set_option maxHeartbeats 4000000
namespace K17
open PySem L2 K19
section
variable {P : Program} {w : World} {K : PySem.W.Frag} {mg : Str → Option Value} {base : Heap}
theorem ok_natX {C : Addr} {f : Addr} {fd : FuncData} (F : Fun K "names_at" "names_at" s_names_at f fd) (T : Txt K mg) (C_bindings_at : CalleeX P w K mg base 4 "bindings_at" ["tree", "place"] (sp_bndX K C)) : FnOk P w K mg base (CXR P w) 5 f fd ["tree", "place"] (sp_downX K C) := by
  refine F.okx sc_names_at (fun vs H Q E h => ?_) (fun cdv A outer s H vs Q E hr h => ?_)
  · obtain ⟨v, t, p, pl, far, rest, rfl, _⟩ := h
    rfl
  · obtain ⟨v, t, p, pl, far, rest, rfl, ht, hp, hb, hl, q⟩ := h
    refine ⟨_, qss_one (qs_ret (qe_comp (N := ["name", "where"]) (σ0 := capSt 2 []) rfl (cscope_fn rfl (by decide +kernel) (by decide +kernel) (by decide +kernel)) (qi_anyK K (qe_fnx C_bindings_at (hr.mono (by decide)) (passes_cx (fun _ _ _ h => h)) (qa_cons (qv 0) (qa_cons (qv 1) qa_nil)))) (takes_in rfl (by rfl)) (fun _ _ _ _ => qg_tupK K (n := 2) rfl (qgs_cons (qg_name (i := 0) nd_names_at_1 rfl (Or.inl rfl)) (qgs_cons (qg_name (i := 1) nd_names_at_1 rfl (Or.inl rfl)) (qgs_nil)))) (fun _ _ _ _ => qts_nil) (fun _ _ _ _ => qv 0))), ?_⟩
    walk_at "r"
    exact ⟨v, t, p, pl, far, rest, rfl, ht, hp, hb, hl, q⟩
end
end K17

set_option Elab.async false
set_option linter.all false
set_option maxRecDepth 100000
set_option maxHeartbeats 4000000
namespace K17
open PySem L2 K19
section
variable {P : Program} {w : World} {K : PySem.W.Frag} {mg : Str → Option Value} {base : Heap}
def sp_batX (K : PySem.W.Frag) (C : Addr) : Sp := fun vs H _ E => ∃ (v : V) (t : Tr) (p : Addr) (pl : List Nat) (far : Int) (rest : List V) (y : V), vs = [v, .ref p, y] ∧ TrAt K H v t ∧ SqT K H p (badV pl far rest) ∧ Bad t pl far ∧ pl.length ≤ 1000 ∧ Rf C H p E
theorem ok_batX {C : Addr} {f : Addr} {fd : FuncData} (F : Fun K "binding_at" "binding_at" s_binding_at f fd) (T : Txt K mg) (C_names_at : CalleeX P w K mg base 5 "names_at" ["tree", "place"] (sp_downX K C)) : FnOk P w K mg base (CXR P w) 6 f fd ["tree", "place", "name"] (sp_batX K C) := by
  refine F.okx sc_binding_at (fun vs H Q E h => ?_) (fun cdv A outer s H vs Q E hr h => ?_)
  · obtain ⟨v, t, p, pl, far, rest, y, rfl, _⟩ := h
    rfl
  · obtain ⟨v, t, p, pl, far, rest, y, rfl, ht, hp, hb, hl, q⟩ := h
    refine ⟨_, qss_cons (qs_set (i := 3) sc_binding_at.nd rfl (Or.inl rfl) (qe_non))
      (qss_cons (qs_for PassesOwn.leaving rfl (qi_enumK K rfl T.enumerate (qa_cons (qe_fnx C_names_at (hr.mono (by decide)) (passes_cx (fun _ _ _ h => h)) (qa_cons (qv 0) (qa_cons (qv 1) qa_nil))) qa_nil)) (qg_tupK K (n := 2) rfl (qgs_cons (qg_name (i := 4) sc_binding_at.nd rfl (Or.inl rfl)) (qgs_cons (qg_name (i := 5) sc_binding_at.nd rfl (Or.inl rfl)) (qgs_nil)))) (qss_one (qs_if (qt_cmpR (k_eq K hr.u200) (qv 5) (qv 2) (nomark _)) (qss_one (qs_set (i := 3) sc_binding_at.nd rfl (Or.inl rfl) (qv 4))) (qss_nil))))
      (qss_one (qs_ret (qv 3)))), ?_⟩
    walk_at "r"
    exact ⟨v, t, p, pl, far, rest, rfl, ht, hp, hb, hl, q⟩
end
end K17

set_option Elab.async false
set_option linter.all false
set_option maxRecDepth 100000
set_option maxHeartbeats 4000000
namespace K17
open PySem L2 K19
section
variable {P : Program} {w : World} {K : PySem.W.Frag} {mg : Str → Option Value} {base : Heap}
theorem ok_bdrX {C : Addr} {f : Addr} {fd : FuncData} (F : Fun K "binder" "binder" s_binder f fd) (T : Txt K mg) (C_bindings_at : CalleeX P w K mg base 4 "bindings_at" ["tree", "place"] (sp_bndX K C)) : FnOk P w K mg base (CXR P w) 5 f fd ["tree", "place", "number"] (sp_batX K C) := by
  refine F.okx sc_binder (fun vs H Q E h => ?_) (fun cdv A outer s H vs Q E hr h => ?_)
  · obtain ⟨v, t, p, pl, far, rest, y, rfl, _⟩ := h
    rfl
  · obtain ⟨v, t, p, pl, far, rest, y, rfl, ht, hp, hb, hl, q⟩ := h
    refine ⟨_, qss_one (qs_ret (qe_ix (k_ix K) (qe_ix (k_ix K) (qe_fnx C_bindings_at (hr.mono (by decide)) (passes_cx (fun _ _ _ h => h)) (qa_cons (qv 0) (qa_cons (qv 1) qa_nil))) (qv 2) (fun _ _ => rfl)) (qe_int) (fun _ _ => rfl))), ?_⟩
    walk_at "r"
    exact ⟨v, t, p, pl, far, rest, rfl, ht, hp, hb, hl, q⟩
end
end K17

set_option Elab.async false
set_option linter.all false
set_option maxRecDepth 100000
set_option maxHeartbeats 4000000
namespace K17
open PySem L2 K19
section
variable {P : Program} {w : World} {K : PySem.W.Frag} {mg : Str → Option Value} {base : Heap}
theorem sc_law_bound : FnScope ["_law_form", "_law_k"] ["_law_form", "_law_k"] (defScope s_law_bound) := ⟨rfl, rfl, rfl, by decide +kernel, rfl, by decide +kernel, by decide +kernel⟩
theorem ok_bound {f : Addr} {fd : FuncData} (F : Fun K "_law_bound" "_law_bound" s_law_bound f fd) (T : Txt K mg) : FnOk P w K mg base CX0 1 f fd ["_law_form", "_law_k"] (sp_nb K) := by
  refine F.okq sc_law_bound (fun vs H Q E h => ?_) (fun cdv A outer s H vs Q E hr h => ?_)
  · obtain ⟨v, w, n, ps, k, rfl, _⟩ := h
    rfl
  · obtain ⟨v, w, n, ps, k, rfl, ht, hsh, q⟩ := h
    refine ⟨_, qss_cons (qs_if (QW.qt (qw_or (qt_cmpR (k_eq K hr.u200) (qe_ix (k_ix K) (qv 0) (qe_int) (fun _ _ => rfl)) (qe_str) (nomark _)) (qw_or1 (QW.qt (qw_and (qt_cmpR (k_eq K hr.u200) (qe_ix (k_ix K) (qv 0) (qe_int) (fun _ _ => rfl)) (qe_str) (nomark _)) (qw_and1 (qt_cmpR (k_eq K hr.u200) (qv 1) (qe_int) (nomark _)))))))) (qss_one (qs_ret (qe_lst (qa_cons (qe_ix (k_ix K) (qv 0) (qe_int) (fun _ _ => rfl)) qa_nil)))) (qss_nil))
      (qss_cons (qs_if (qt_cmpR (k_eq K hr.u200) (qe_ix (k_ix K) (qv 0) (qe_int) (fun _ _ => rfl)) (qe_str) (nomark _)) (qss_one (qs_ret (qe_lst (qa_cons (qe_ix (k_ix K) (qe_ix (k_ix K) (qv 0) (qe_int) (fun _ _ => rfl)) (qe_int) (fun _ _ => rfl)) (qa_cons (qe_ix (k_ix K) (qe_ix (k_ix K) (qv 0) (qe_int) (fun _ _ => rfl)) (qe_int) (fun _ _ => rfl)) qa_nil))))) (qss_nil))
      (qss_one (qs_ret (qe_lst (qa_nil))))), ?_⟩
    cases ht with
    | @mk b pp _ nv _ us _ qb hn qp l hch =>
    have one : (w = "fn" ∨ (w = "let" ∧ k = 1)) → ∃ t : Str, nv = .str t ∧ ∀ p, H p = none → Q (.ref p) (upd H p (.lst [.str t])) := fun h => by
      obtain ⟨t, rfl⟩ := hsh.1 (h.elim .inl fun z => .inr (.inl z.1))
      refine ⟨t, isn_txt hn, fun p hp => q p _ hp (Same.upd hp) ?_⟩
      rcases h with h | h
      · rw [upd_same, nb, if_pos h]; rfl
      · have c1 : ¬ w = "fn" := fun z => by rw [h.1] at z; revert z; decide +kernel
        have c2 : ¬ w = "rec" := fun z => by rw [h.1] at z; revert z; decide +kernel
        rw [upd_same, nb, if_neg c1, if_neg c2, if_pos h]; rfl
    walk_at "r"
    refine s_ix_tup qb rfl ?_
    walk_at "r"
    rw [dec_str]
    refine ite2 (fun c => ?_) (fun c => ?_)
    · have c := of_decide_eq_true c
      refine iteT ?_
      obtain ⟨t, rfl, z⟩ := one (.inl c)
      walk_at "r"
      refine s_ix_tup qb rfl ?_
      walk_at "r"
      exact ⟨by show 1 ≤ sizeLine; decide, z⟩
    have c1 : ¬ w = "fn" := fun e => c (decide_eq_true e)
    walk_at "r"
    refine s_ix_tup qb rfl ?_
    walk_at "r"
    rw [dec_str]
    refine ite2 (fun c => ?_) (fun c => ?_)
    · have c := of_decide_eq_true c
      walk_at "r"
      refine ite2 (fun d => ?_) (fun d => ?_)
      · have d : k = 1 := by
          have : (k : Int) = 1 := by simpa using d
          omega
        obtain ⟨t, rfl, z⟩ := one (.inr ⟨c, d⟩)
        walk_at "r"
        refine s_ix_tup qb rfl ?_
        walk_at "r"
        exact ⟨by show 1 ≤ sizeLine; decide, z⟩
      · have c3 : ¬ (w = "let" ∧ k = 1) := fun e => d (by rw [e.2]; decide)
        walk_at "r"
        refine s_ix_tup qb rfl ?_
        walk_at "r"
        rw [dec_str]
        refine ite2 (fun c4 => ?_) (fun c4 => ?_)
        · have c4 := of_decide_eq_true c4
          obtain ⟨t, u, rfl⟩ := hsh.2 c4
          obtain ⟨na, rfl, qn⟩ := isn_two hn
          walk_at "r"
          refine s_ix_tup qb rfl ?_
          walk_at "r"
          refine s_ix_tup qn rfl ?_
          walk_at "r"
          refine s_ix_tup qb rfl ?_
          walk_at "r"
          refine s_ix_tup qn rfl ?_
          walk_at "r"
          refine ⟨by show 2 ≤ sizeLine; decide, fun p hp => ?_⟩
          refine q p _ hp (Same.upd hp) ?_
          rw [upd_same, nb, if_neg c1, if_pos c4]
          rfl
        · have c2 : ¬ w = "rec" := fun e => c4 (decide_eq_true e)
          walk_at "r"
          refine ⟨by show 0 ≤ sizeLine; decide, fun p hp => ?_⟩
          refine q p _ hp (Same.upd hp) ?_
          rw [upd_same, nb, if_neg c1, if_neg c2, if_neg c3]
          rfl
    · have c3 : ¬ (w = "let" ∧ k = 1) := fun e => c (decide_eq_true e.1)
      walk_at "r"
      refine s_ix_tup qb rfl ?_
      walk_at "r"
      rw [dec_str]
      refine ite2 (fun c4 => ?_) (fun c4 => ?_)
      · have c4 := of_decide_eq_true c4
        obtain ⟨t, u, rfl⟩ := hsh.2 c4
        obtain ⟨na, rfl, qn⟩ := isn_two hn
        walk_at "r"
        refine s_ix_tup qb rfl ?_
        walk_at "r"
        refine s_ix_tup qn rfl ?_
        walk_at "r"
        refine s_ix_tup qb rfl ?_
        walk_at "r"
        refine s_ix_tup qn rfl ?_
        walk_at "r"
        refine ⟨by show 2 ≤ sizeLine; decide, fun p hp => ?_⟩
        refine q p _ hp (Same.upd hp) ?_
        rw [upd_same, nb, if_neg c1, if_pos c4]
        rfl
      · have c2 : ¬ w = "rec" := fun e => c4 (decide_eq_true e)
        walk_at "r"
        refine ⟨by show 0 ≤ sizeLine; decide, fun p hp => ?_⟩
        refine q p _ hp (Same.upd hp) ?_
        rw [upd_same, nb, if_neg c1, if_neg c2, if_neg c3]
        rfl
end
end K17

set_option Elab.async false
set_option linter.all false
set_option maxRecDepth 100000
set_option maxHeartbeats 4000000
namespace K17
open PySem L2 K19
section
variable {P : Program} {w : World} {K : PySem.W.Frag} {mg : Str → Option Value} {base : Heap}
/-- all kept but two lists, tuples kept anyhow -/
structure K2 (pt pw : Addr) (H H' : Hp) : Prop where
  t : SameT H H'
  k : ∀ b o, b ≠ pt → b ≠ pw → H b = some o → H' b = some o
theorem K2.refl (pt pw : Addr) (H : Hp) : K2 pt pw H H := ⟨SameT.refl _, fun _ _ _ _ e => e⟩
theorem K2.trans {pt pw : Addr} {H H1 H2 : Hp} (a : K2 pt pw H H1) (b : K2 pt pw H1 H2) : K2 pt pw H H2 := ⟨a.t.trans b.t, fun c o n1 n2 e => b.k c o n1 n2 (a.k c o n1 n2 e)⟩
theorem K2.same {pt pw : Addr} {H H' : Hp} (s : Same H H') : K2 pt pw H H' := ⟨s.t, fun b o _ _ e => s b o e⟩
theorem K2.set1 {pt pw : Addr} {H : Hp} {zs : List V} {o : HO} (h : H pt = some (.lst zs)) : K2 pt pw H (upd H pt o) := ⟨SameT.set h, fun b u n _ e => by rw [upd_ne n]; exact e⟩
theorem K2.set2 {pt pw : Addr} {H : Hp} {zs : List V} {o : HO} (h : H pw = some (.lst zs)) : K2 pt pw H (upd H pw o) := ⟨SameT.set h, fun b u _ n e => by rw [upd_ne n]; exact e⟩
/-- a row: its place, its form, what is bound above it -/
def ScAt (K : PySem.W.Frag) (t : Tr) (H : Hp) (v : V) (x : List Nat × Tr) : Prop := ∃ (a p : Addr) (u : V) (ab : Addr) (bs : List V), v = .ref a ∧ SqT K H a [.ref p, u, .ref ab] ∧ SqT K H p (plV x.1) ∧ TrAt K H u x.2 ∧ H ab = some (.lst bs) ∧ Al (BdAt K H x.1) bs (bn t x.1)
theorem ScAt.same {t : Tr} {H H' : Hp} (e : Same H H') (v : V) (x : List Nat × Tr) (h : ScAt K t H v x) : ScAt K t H' v x := by
  obtain ⟨a, p, u, ab, bs, h1, h2, h3, h4, h5, h6⟩ := h
  exact ⟨a, p, u, ab, bs, h1, e.tup h2, e.tup h3, h4.same e, e _ _ h5, h6.mono (BdAt.same e.t)⟩
def Row3 (K : PySem.W.Frag) (t : Tr) (pt pw : Addr) (H : Hp) (v : V) (x : List Nat × Tr) : Prop := ∃ (a p : Addr) (u : V) (ab : Addr) (bs : List V), v = .ref a ∧ SqT K H a [.ref p, u, .ref ab] ∧ SqT K H p (plV x.1) ∧ TrAt K H u x.2 ∧ ab ≠ pt ∧ ab ≠ pw ∧ H ab = some (.lst bs) ∧ Al (BdAt K H x.1) bs (bn t x.1)
theorem Row3.same {t : Tr} {pt pw : Addr} {H H' : Hp} (e : K2 pt pw H H') (v : V) (x : List Nat × Tr) (h : Row3 K t pt pw H v x) : Row3 K t pt pw H' v x := by
  obtain ⟨a, p, u, ab, bs, h1, h2, h3, h4, n1, n2, h5, h6⟩ := h
  exact ⟨a, p, u, ab, bs, h1, e.t.tup h2, e.t.tup h3, h4.sameT e.t, n1, n2, e.k _ _ n1 n2 h5, h6.mono (BdAt.same e.t)⟩
theorem Row3.out {t : Tr} {pt pw : Addr} {H : Hp} (v : V) (x : List Nat × Tr) (h : Row3 K t pt pw H v x) : ScAt K t H v x := by
  obtain ⟨a, p, u, ab, bs, h1, h2, h3, h4, n1, n2, h5, h6⟩ := h
  exact ⟨a, p, u, ab, bs, h1, h2, h3, h4, h5, h6⟩
theorem bd_longer {t : Tr} {pl : List Nat} {k : Nat} {H : Hp} {bs : List V} (s : Sub t pl) (h : Al (BdAt K H pl) bs (bn t pl)) : Al (BdAt K H (pl ++ [k])) bs (bn t pl) := by
  refine ⟨h.1, fun i v x h1 h2 => ?_⟩
  obtain ⟨a, b, g1, g2, g3⟩ := h.2 i v x h1 h2
  refine ⟨a, b, g1, g2, ?_⟩
  rw [List.take_append_of_le_length (Nat.le_of_lt (bn_lt s (List.mem_of_getElem? h2)))]
  exact g3
def sp_scopes (K : PySem.W.Frag) : Sp := fun vs H Q _ => ∃ (v : V) (t : Tr), vs = [v] ∧ TrAt K H v t ∧ TrSh t ∧ t.size ≤ 2000 ∧ ∀ (p : Addr) (rows : List V) (H' : Hp), Same H H' → H p = none → H' p = some (.lst rows) → Al (ScAt K t H') rows (walk [] t) → Q (.ref p) H'
theorem nd_law_scopes_1 : (["_law_name", "_law_place"] : List Str).Nodup := by decide +kernel
theorem sc_law_scopes : FnScope ["_law_tree_here", "_law_rows", "_law_left", "_law_place", "_law_form", "_law_above", "_law_k", "_law_under"] ["_law_tree_here"] (defScope s_law_scopes) := ⟨rfl, rfl, rfl, by decide +kernel, rfl, by decide +kernel, by decide +kernel⟩
/-- between two turns -/
def WsJ (K : PySem.W.Frag) (H : Hp) (v : V) (t : Tr) (pt pw : Addr) (m : Nat) (σ : St) (H' : Hp) : Prop := ∃ (v3 v4 v5 v6 v7 : Option V) (tv wv : List V) (dn st : List (List Nat × Tr)), σ = [some v, some (.ref pt), some (.ref pw), v3, v4, v5, v6, v7] ∧ H' pt = some (.lst tv) ∧ H' pw = some (.lst wv) ∧
  Al (Row3 K t pt pw H') tv dn ∧ Al (Row3 K t pt pw H') wv st ∧ dn ++ todo st = walk [] t ∧ m = load st ∧ Same H H'
theorem ok_scopes {f : Addr} {fd : FuncData} (F : Fun K "_law_scopes" "_law_scopes" s_law_scopes f fd) (T : Txt K mg) (C__law_bound : Callee P w K mg base 1 "_law_bound" ["_law_form", "_law_k"] (sp_nb K)) : FnOk P w K mg base CX0 2 f fd ["_law_tree_here"] (sp_scopes K) := by
  refine F.okq sc_law_scopes (fun vs H Q E h => ?_) (fun cdv A outer s H vs Q E hr h => ?_)
  · obtain ⟨v, t, rfl, _⟩ := h
    rfl
  · obtain ⟨v, t, rfl, ht, hsh, hz, q⟩ := h
    refine ⟨_, qss_cons (qs_set (i := 1) sc_law_scopes.nd rfl (Or.inl rfl) (qe_lst (qa_nil)))
      (qss_cons (qs_set (i := 2) sc_law_scopes.nd rfl (Or.inl rfl) (qe_lst (qa_cons (qe_tup (qa_cons (qe_tup (qa_nil)) (qa_cons (qv 0) (qa_cons (qe_lst (qa_nil)) qa_nil)))) qa_nil)))
      (qss_cons (qs_while PassesOwn.never (qt_cmpR op_gt (qe_callB (k_len K) (by rfl) T.len (by decide +kernel) (qa_cons (qv 2) qa_nil)) (qe_int) (nomark _)) (qss_cons (qs_asg (qe_bm0K K PySem.F.plainAttrs_list PySem.F.slot_list_pop PySem.F.type_list_pop mt_pop (qv 2)) (qg_tupK K (n := 3) rfl (qgs_cons (qg_name (i := 3) sc_law_scopes.nd rfl (Or.inr rfl)) (qgs_cons (qg_name (i := 4) sc_law_scopes.nd rfl (Or.inl rfl)) (qgs_cons (qg_name (i := 5) sc_law_scopes.nd rfl (Or.inl rfl)) (qgs_nil))))))
      (qss_cons (qs_expr (qe_bmK K PySem.F.plainAttrs_list PySem.F.slot_list_append PySem.F.type_list_append mt_append (qv 1) (qa_cons (qe_tup (qa_cons (qv 3) (qa_cons (qv 4) (qa_cons (qv 5) qa_nil)))) qa_nil)))
      (qss_one (qs_for PassesOwn.never rfl (qi_range3 rfl T.range (qa_cons (qe_op op_sub (qe_callB (k_len K) (by rfl) T.len (by decide +kernel) (qa_cons (qe_ix (k_ix K) (qv 4) (qe_int) (fun _ _ => rfl)) qa_nil)) (qe_int)) (qa_cons (qe_un un_neg (qe_int)) (qa_cons (qe_un un_neg (qe_int)) qa_nil)))) (qg_name (i := 6) sc_law_scopes.nd rfl (Or.inl rfl)) (qss_cons (qs_set (i := 7) sc_law_scopes.nd rfl (Or.inl rfl) (qe_op (k_add K) (qv 5) (qe_comp (N := ["_law_name", "_law_place"]) (σ0 := capSt 1 [3]) rfl (cscope_fn rfl (by decide +kernel) (by decide +kernel) (by decide +kernel)) (qi_anyK K (qe_fn C__law_bound (hr.mono (by decide)) (qa_cons (qv 4) (qa_cons (qv 6) qa_nil)))) (takes_in rfl (by rfl)) (fun _ _ _ _ => qg_name (i := 0) nd_law_scopes_1 rfl (Or.inl rfl)) (fun _ _ _ _ => qts_nil) (fun _ _ _ _ => qe_tup (qa_cons (qv 0) (qa_cons (qv 1) qa_nil))))))
      (qss_one (qs_expr (qe_bmK K PySem.F.plainAttrs_list PySem.F.slot_list_append PySem.F.type_list_append mt_append (qv 2) (qa_cons (qe_tup (qa_cons (qe_op (k_add K) (qv 3) (qe_tup (qa_cons (qv 6) qa_nil))) (qa_cons (qe_ix (k_ix K) (qe_ix (k_ix K) (qv 4) (qe_int) (fun _ _ => rfl)) (qv 6) (fun _ _ => rfl)) (qa_cons (qv 7) qa_nil)))) qa_nil))))))))))
      (qss_one (qs_ret (qv 1))))), ?_⟩
    have bg := big
    walk_at "r"
    refine ⟨by show 0 ≤ sizeLine; decide, fun pt hpt => ?_⟩
    walk_at "r"
    refine ⟨by show 0 ≤ sizeLine; decide, fun p0 hp0 => ?_⟩
    walk_at "r"
    refine ⟨by show 0 ≤ sizeLine; decide, fun pe hpe => ?_⟩
    walk_at "r"
    refine ⟨by show 3 ≤ sizeLine; decide, fun p1 hp1 => ?_⟩
    walk_at "r"
    refine ⟨by show 1 ≤ sizeLine; decide, fun pw hpw => ?_⟩
    walk_at "r"
    have s3 := Same.upd (o := .lst [.ref p1]) hpw
    have s2 := (Same.upd (o := .tup [.ref p0, v, .ref pe]) hp1).trans s3
    have s1 := (Same.upd (o := .lst []) hpe).trans s2
    have s0 := (Same.upd (o := .tup []) hp0).trans s1
    have sH := (Same.upd (o := .lst []) hpt).trans s0
    have ept := s0 pt _ upd_same
    have ep0 := s1 p0 _ upd_same
    have epe := s2 pe _ upd_same
    have ep1 := s3 p1 _ upd_same
    have epw : upd (upd (upd (upd (upd H pt (.lst [])) p0 (.tup [])) pe (.lst [])) p1 (.tup [.ref p0, v, .ref pe])) pw (.lst [.ref p1]) pw = some (.lst [.ref p1]) := upd_same
    have hpw0 : H pw = none := ((Same.upd (o := .lst []) hpt).trans ((Same.upd (o := .tup []) hp0).trans ((Same.upd (o := .lst []) hpe).trans (Same.upd (o := .tup [.ref p0, v, .ref pe]) hp1)))).free hpw
    have n1 : pt ≠ pe := ne_of_none (Same.upd (o := .tup []) hp0 pt _ upd_same) hpe
    have n2 : pe ≠ pw := ne_of_none (Same.upd (o := .tup [.ref p0, v, .ref pe]) hp1 pe _ upd_same) hpw
    have npw : pt ≠ pw := ne_of_none (((Same.upd (o := .tup []) hp0).trans ((Same.upd (o := .lst []) hpe).trans (Same.upd (o := .tup [.ref p0, v, .ref pe]) hp1))) pt _ upd_same) hpw
    revert sH ept ep0 epe ep1 epw
    generalize upd (upd (upd (upd (upd H pt (.lst [])) p0 (.tup [])) pe (.lst [])) p1 (.tup [.ref p0, v, .ref pe])) pw (.lst [.ref p1]) = H1
    intro sH ept ep0 epe ep1 epw
    have bnil : bn t [] = [] := by cases t; rfl
    refine ⟨WsJ K H v t pt pw, ⟨_, none, none, none, none, none, [], [.ref p1], [], [([], t)], rfl, ept, epw, .nil, Al.nil.snoc ⟨p1, p0, v, pe, [], rfl, SqT.of ep1, SqT.of ep0, ht.same sH, n1.symm, n2, epe, by rw [bnil]; exact Al.nil⟩, by simp [todo], rfl, sH⟩, ?_⟩
    rintro m σ' H' ⟨v3, v4, v5, v6, v7, tv, wv, dn, st, rfl, et, ew, al1, al2, hw, rfl, sm⟩
    have hdl : dn.length + load st = t.size := by
      have := congrArg List.length hw
      rw [List.length_append, walk_len] at this
      exact this
    have htl : tv.length = dn.length := al1.1
    walk_at "r"
    refine s_len_lst (SqL.of ew) ?_
    walk_at "r"
    by_cases hwv : wv = []
    · subst hwv
      have hst : st = [] := List.eq_nil_of_length_eq_zero al2.1.symm
      subst hst
      refine iteF ?_
      walk_at "r"
      rw [todo_nil, List.append_nil] at hw
      rw [hw] at al1
      exact q pt tv H' sm hpt et (al1.mono Row3.out)
    obtain ⟨wv', tp, st', x, rfl, rfl, al3, hrow⟩ := al2.last hwv
    have hne : decide ((0 : Int) < ((wv' ++ [tp]).length : Int)) = true := decide_eq_true (by rw [List.length_append, List.length_singleton]; omega)
    rw [hne]
    refine iteT ?_
    obtain ⟨pl, tx⟩ := x
    have hx : (pl, tx) ∈ walk [] t := by rw [← hw, todo_pop]; simp
    have hpl : pl.length ≤ 2000 := by have := walk_depth [] t _ hx; simp at this; omega
    have hsub : Sub t pl := walk_sub t _ hx
    have hform : (path t pl)[pl.length]? = some tx := walk_form t _ hx
    have hshx : TrSh tx := walk_sh [] t _ hsh hx
    have hbl := bn_len hsub
    have hload := load_pop st' (pl, tx)
    have hll := load_len (st' ++ (kids pl 0 tx.ps).reverse)
    refine ⟨fun σ2 H2 => ∃ m', m' < load (st' ++ [(pl, tx)]) ∧ WsJ K H v t pt pw m' σ2 H2, fun _ _ h => h, ?_⟩
    walk_at "r"
    refine s_tyL (SqL.of ew) ?_
    refine s_pop ew ?_
    have t1 : K2 pt pw H' (upd H' pw (.lst wv')) := K2.set2 ew
    have et2 : upd H' pw (.lst wv') pt = some (.lst tv) := by rw [upd_ne npw]; exact et
    obtain ⟨a, p, u, ab, bs, rfl, qa, qp, hu, na1, na2, eab, alb⟩ := id hrow
    refine s_gtup (t1.t.tup qa) rfl ?_
    walk_at "r"
    refine s_tyL (SqL.of et2) ?_
    walk_at "r"
    refine ⟨by show 3 ≤ sizeLine; decide, fun pr hpr => ?_⟩
    walk_at "r"
    have s2' := Same.upd (o := .tup [.ref p, u, .ref ab]) hpr
    have et2' := s2' _ _ et2
    refine s_app et2' (by omega) ?_
    have t2 : K2 pt pw H' (upd (upd (upd H' pw (.lst wv')) pr (.tup [.ref p, u, .ref ab])) pt (.lst (tv ++ [.ref pr]))) := t1.trans ((K2.same s2').trans (K2.set1 et2'))
    have et3 : upd (upd (upd H' pw (.lst wv')) pr (.tup [.ref p, u, .ref ab])) pt (.lst (tv ++ [.ref pr])) pt = some (.lst (tv ++ [.ref pr])) := upd_same
    have ew3 : upd (upd (upd H' pw (.lst wv')) pr (.tup [.ref p, u, .ref ab])) pt (.lst (tv ++ [.ref pr])) pw = some (.lst wv') := by rw [upd_ne npw.symm]; exact s2' _ _ upd_same
    have er3 : upd (upd (upd H' pw (.lst wv')) pr (.tup [.ref p, u, .ref ab])) pt (.lst (tv ++ [.ref pr])) pr = some (.tup [.ref p, u, .ref ab]) := by rw [upd_ne (ne_of_none et2 hpr).symm]; exact upd_same
    have sm3 : Same H (upd (upd (upd H' pw (.lst wv')) pr (.tup [.ref p, u, .ref ab])) pt (.lst (tv ++ [.ref pr]))) := ((sm.over hpw0).put hpr).over hpt
    revert t2 et3 ew3 sm3 er3
    generalize upd (upd (upd H' pw (.lst wv')) pr (.tup [.ref p, u, .ref ab])) pt (.lst (tv ++ [.ref pr])) = H4
    intro t2 et3 ew3 er3 sm3
    have hu4 := hu.sameT t2.t
    have qp4 := t2.t.tup qp
    have eab4 := t2.k _ _ na1 na2 eab
    have alb4 := alb.mono (BdAt.same t2.t)
    have hrow4 : Row3 K t pt pw H4 (.ref pr) (pl, tx) := ⟨pr, p, u, ab, bs, rfl, SqT.of er3, qp4, hu4, na1, na2, eab4, alb4⟩
    have hu4' := hu4
    cases hu4 with
    | @mk b pp wd nv n vs ts qb hn qpp hl hch =>
    have hshp : shp wd n := by
      cases hshx with
      | mk h _ => exact h
    walk_at "r"
    refine s_ix_tup qb rfl ?_
    walk_at "r"
    refine s_len_tup qpp ?_
    walk_at "r"
    have hvl : vs.length ≤ 2000 := by
      have h1 := sizes_len ts
      have h2 := Tr.size_eq (.mk wd n ts)
      have h3 : (walk [] t).length = t.size := walk_len _ _
      have h4 : (Tr.mk wd n ts).size ≤ L2.load (st' ++ [(pl, Tr.mk wd n ts)]) := by
        unfold L2.load todo
        rw [List.reverse_append, List.reverse_singleton, List.flatMap_append, List.flatMap_singleton, List.length_append, walk_len]
        exact Nat.le_add_right _ _
      have h5 : (Tr.mk wd n ts).ps = ts := rfl
      rw [h5] at h2
      omega
    refine ⟨by omega, ?_⟩
    have al4 : Al (Row3 K t pt pw H4) wv' st' := al3.mono (Row3.same t2)
    have hkl : (kids pl 0 ts).length = vs.length := by rw [kids_len]; omega
    have hn' : ((vs.length : Int) - 1 - -1).toNat = vs.length := by omega
    rw [hn']
    refine for_down (n := vs.length) (fun j σ5 H5 => ∃ (v6 v7 : Option V) (wv5 : List V), σ5 = [some v, some (.ref pt), some (.ref pw), some (.ref p), some (.ref b), some (.ref ab), v6, v7] ∧ H5 pt = some (.lst (tv ++ [.ref pr])) ∧ H5 pw = some (.lst wv5) ∧ Al (Row3 K t pt pw H5) wv5 (st' ++ ((kids pl 0 ts).drop (vs.length - j)).reverse) ∧ K2 pt pw H4 H5 ∧ Same H H5)
      ⟨_, _, wv', rfl, et3, ew3, by rw [Nat.sub_zero, List.drop_of_length_le (by omega)]; simpa using al4, K2.refl _ _ _, sm3⟩ ?_ ?_
    · rintro i σ5 H5 hi ⟨v6', v7', wv5, rfl, e5t, e5w, al5, t5, sm5⟩
      have hk : (vs.length : Int) - 1 - (i : Int) = ((vs.length - 1 - i : Nat) : Int) := by omega
      rw [hk]
      have hj : vs.length - 1 - i < vs.length := by omega
      have hj' : vs.length - 1 - i < ts.length := by omega
      have eab5 := t5.k _ _ na1 na2 eab4
      walk_at "r"
      refine ⟨_, wd, n, ts, vs.length - 1 - i, rfl, hu4'.sameT t5.t, hshp, fun q6 H6 hq6 s6 e6 => ?_⟩
      refine .inl ⟨q6, rfl, ⟨_, SqL.of e6⟩, fun D hD => ?_⟩
      have nD : q6 ≠ D := ne_of_none e6 hD
      have nbl := nb_len wd n (vs.length - 1 - i)
      refine comp_list (K := K) (a := q6) (xs := (nb wd n (vs.length - 1 - i)).map V.str) (Pv := fun i' ys σ' H' => ∃ v0, σ' = [v0, some (.ref p)] ∧ H' q6 = some (.lst ((nb wd n (vs.length - 1 - i)).map V.str)) ∧ Al (fun v y => ∃ a, v = V.ref a ∧ SqT K H' a [.str y, .ref p]) ys ((nb wd n (vs.length - 1 - i)).take i') ∧ Same H6 H') ⟨none, rfl, by rw [upd_ne nD]; exact e6, Al.nil, Same.upd hD⟩ ?_ ?_ ?_
      · rintro i' ys σ' H' _ ⟨_, _, e, _⟩
        exact SqL.of e
      · rintro i' x ys σ' H' hx hys ⟨v0, rfl, e, aly, smy⟩
        rw [List.getElem?_map] at hx
        cases hyy : (nb wd n (vs.length - 1 - i))[i']? with
        | none => rw [hyy] at hx; cases hx
        | some yy =>
        rw [hyy] at hx
        have hx : V.str yy = x := by simpa using hx
        subst hx
        walk_at "r"
        refine ⟨by show 2 ≤ sizeLine; decide, fun p10 h10 => ?_⟩
        walk_at "r"
        have s10 := Same.upd (o := .tup [.str yy, .ref p]) h10
        refine ⟨_, s10 _ _ hys, by rw [aly.1, List.length_take]; omega, _, upd_same, ?_⟩
        have t11 := s10.t.trans (SameT.set (o := .lst (ys ++ [.ref p10])) (s10 _ _ hys))
        refine ⟨_, rfl, by rw [upd_ne nD]; exact s10 _ _ e, ?_, (smy.trans s10).over hD⟩
        rw [List.take_add_one, hyy]
        exact (aly.mono fun _ _ ⟨a, z1, z2⟩ => ⟨a, z1, t11.tup z2⟩).snoc ⟨p10, rfl, (SameT.set (s10 _ _ hys)).tup (SqT.of upd_same)⟩
      · rintro ys σ' H7 hys ⟨v0, rfl, e, aly, smy⟩
        rw [List.length_map, List.take_length] at aly
        have s57 := s6.trans smy
        walk_at "r"
        refine s_add_lst (s57 _ _ eab5) hys (by have hbs : bs.length = (bn t pl).length := alb.1; rw [hbs, aly.1]; omega) fun p8 hp8 => ?_
        have s58 := s57.put (o := .lst (bs ++ ys)) hp8
        have e8 : upd H7 p8 (.lst (bs ++ ys)) p8 = some (.lst (bs ++ ys)) := upd_same
        have n81 : p8 ≠ pt := fun z => by rw [z, s57 _ _ e5t] at hp8; cases hp8
        have n82 : p8 ≠ pw := fun z => by rw [z, s57 _ _ e5w] at hp8; cases hp8
        have aly8 := aly.mono fun v y (z : ∃ a, v = V.ref a ∧ SqT K H7 a [.str y, .ref p]) => (⟨z.choose, z.choose_spec.1, (Same.upd (o := .lst (bs ++ ys)) hp8).tup z.choose_spec.2⟩ : ∃ a, v = V.ref a ∧ SqT K (upd H7 p8 (.lst (bs ++ ys))) a [.str y, .ref p])
        revert s58 e8 aly8
        generalize upd H7 p8 (.lst (bs ++ ys)) = H8
        intro s58 e8 aly8
        walk_at "r"
        refine s_tyL (SqL.of (s58 _ _ e5w)) ?_
        walk_at "r"
        refine ⟨by show 1 ≤ sizeLine; decide, fun p9 h9 => ?_⟩
        refine s_add_tup ((t5.t.trans (s58.t.trans (SameT.new h9))).tup qp4) (SqT.of upd_same) (by show (plV pl).length + 1 ≤ sizeLine; unfold plV; rw [List.length_map]; omega) fun r H10 s10 q10 => ?_
        have s8 : Same H8 H10 := (Same.upd h9).trans s10
        have s510 := s58.trans s8
        walk_at "r"
        refine s_ix_tup ((t5.t.trans s510.t).tup qb) rfl ?_
        walk_at "r"
        refine s_ix_tup ((t5.t.trans s510.t).tup qpp) (atI_nat (List.getElem?_eq_getElem hj)) ?_
        walk_at "r"
        refine ⟨by show 3 ≤ sizeLine; decide, fun p11 h11 => ?_⟩
        walk_at "r"
        have s511 := s510.put (o := .tup [.ref r, vs[vs.length - 1 - i], .ref p8]) h11
        have s811 := s8.put (o := .tup [.ref r, vs[vs.length - 1 - i], .ref p8]) h11
        have hlw : wv5.length = st'.length + ((kids pl 0 ts).drop (vs.length - i)).length := by have := al5.1; simp at this ⊢; omega
        have hlk : (st' ++ (kids pl 0 ts).reverse).length = st'.length + vs.length := by rw [List.length_append, List.length_reverse, hkl]
        have hll' : (st' ++ (kids pl 0 ts).reverse).length ≤ 2000 := by
          have h1 : load (st' ++ (kids pl 0 (Tr.mk wd n ts).ps).reverse) < load (st' ++ [(pl, Tr.mk wd n ts)]) := hload
          have h2 : (st' ++ (kids pl 0 (Tr.mk wd n ts).ps).reverse).length ≤ load (st' ++ (kids pl 0 (Tr.mk wd n ts).ps).reverse) := hll
          have h3 : (Tr.mk wd n ts).ps = ts := rfl
          rw [h3] at h1 h2
          omega
        have hdr : ((kids pl 0 ts).drop (vs.length - i)).length ≤ vs.length := by rw [List.length_drop]; omega
        refine s_app (s511 _ _ e5w) (by omega) ?_
        have e11w := s511 _ _ e5w
        have t12 : K2 pt pw H5 (upd (upd H10 p11 (.tup [.ref r, vs[vs.length - 1 - i], .ref p8])) pw (.lst (wv5 ++ [.ref p11]))) := (K2.same s511).trans (K2.set2 e11w)
        have t812 : K2 pt pw H8 (upd (upd H10 p11 (.tup [.ref r, vs[vs.length - 1 - i], .ref p8])) pw (.lst (wv5 ++ [.ref p11]))) := (K2.same s811).trans (K2.set2 e11w)
        have hat := hch _ _ _ (List.getElem?_eq_getElem hj) (List.getElem?_eq_getElem hj')
        have hkid : (kids pl 0 ts)[vs.length - 1 - i]? = some (pl ++ [vs.length - 1 - i], ts[vs.length - 1 - i]) := by
          rw [kids_get, List.getElem?_eq_getElem hj']
          simp
        refine ⟨_, _, wv5 ++ [.ref p11], rfl, ?_, upd_same, ?_, t5.trans t12, (sm5.trans s511).over hpw0⟩
        · rw [upd_ne npw]; exact s511 _ _ e5t
        · rw [drop_step hkl hi hkid, ← List.append_assoc]
          refine (al5.mono (Row3.same t12)).snoc ⟨p11, r, _, p8, bs ++ ys, rfl, (SameT.set e11w).tup (SqT.of upd_same), ?_, hat.sameT (t5.trans t12).t, n81, n82, t812.k _ _ n81 n82 e8, ?_⟩
          · have q12 := ((SameT.new (o := .tup [.ref r, vs[vs.length - 1 - i], .ref p8]) h11).trans (SameT.set (o := .lst (wv5 ++ [.ref p11])) e11w)).tup q10
            have e : plV (pl ++ [vs.length - 1 - i]) = plV pl ++ [.int ((vs.length - 1 - i : Nat) : Int)] := by unfold plV; rw [List.map_append]; rfl
            show SqT K _ r (plV (pl ++ [vs.length - 1 - i]))
            rw [e]
            exact q12
          · show Al _ _ (bn t (pl ++ [vs.length - 1 - i]))
            rw [bn_snoc hsub hform (List.getElem?_eq_getElem hj')]
            refine (bd_longer hsub (alb4.mono (BdAt.same (t5.trans t12).t))).append ⟨by rw [aly8.1, List.length_map], fun m v y g1 g2 => ?_⟩
            rw [List.getElem?_map] at g2
            cases hz : (nb wd n (vs.length - 1 - i))[m]? with
            | none => rw [hz] at g2; cases g2
            | some zz =>
            rw [hz] at g2
            have g2 : (zz, pl.length) = y := by simpa using g2
            subst g2
            obtain ⟨a', f1, f2⟩ := aly8.2 m v zz g1 hz
            refine ⟨a', p, f1, t812.t.tup f2, ?_⟩
            rw [List.take_append_of_le_length (Nat.le_refl _), List.take_length]
            exact (t5.trans t12).t.tup qp4
    · rintro σ5 H5 ⟨v6', v7', wv5, rfl, e5t, e5w, al5, t5, sm5⟩
      rw [Nat.sub_self, List.drop_zero] at al5
      refine ⟨_, hload, _, _, _, _, _, tv ++ [.ref pr], wv5, dn ++ [(pl, .mk wd n ts)], _, rfl, e5t, e5w, ?_, al5, ?_, rfl, sm5⟩
      · exact (al1.mono (Row3.same (t2.trans t5))).snoc (Row3.same t5 _ _ hrow4)
      · rw [← hw, todo_pop, List.append_assoc]
        rfl
end
end K17

set_option Elab.async false
set_option linter.all false
set_option maxRecDepth 100000
set_option maxHeartbeats 4000000
namespace K17
open PySem L2 K19
section
variable {P : Program} {w : World} {K : PySem.W.Frag} {mg : Str → Option Value} {base : Heap}
def sp_last (K : PySem.W.Frag) : Sp := fun vs H Q _ => ∃ (ab : Addr) (bs : List V) (pl : List Nat) (ys : List (Str × Nat)) (x : Str), vs = [.ref ab, .str x] ∧ H ab = some (.lst bs) ∧ Al (BdAt K H pl) bs ys ∧ ∀ H', Same H H' → Q (optV (lix x 0 (ys.map (·.1)))) H'
theorem sc_law_last : FnScope ["_law_above", "_law_name", "_law_last_here", "_law_number_here", "_law_pair"] ["_law_above", "_law_name"] (defScope s_law_last) := ⟨rfl, rfl, rfl, by decide +kernel, rfl, by decide +kernel, by decide +kernel⟩
theorem ok_last {f : Addr} {fd : FuncData} (F : Fun K "_law_last" "_law_last" s_law_last f fd) (T : Txt K mg) : FnOk P w K mg base CX0 1 f fd ["_law_above", "_law_name"] (sp_last K) := by
  refine F.okq sc_law_last (fun vs H Q E h => ?_) (fun cdv A outer s H vs Q E hr h => ?_)
  · obtain ⟨ab, bs, pl, ys, x, rfl, _⟩ := h
    rfl
  · obtain ⟨ab, bs, pl, ys, x, rfl, e1, al, q⟩ := h
    refine ⟨_, qss_cons (qs_set (i := 2) sc_law_last.nd rfl (Or.inl rfl) (qe_non))
      (qss_cons (qs_for PassesOwn.never rfl (qi_enumK K rfl T.enumerate (qa_cons (qv 0) qa_nil)) (qg_tupK K (n := 2) rfl (qgs_cons (qg_name (i := 3) sc_law_last.nd rfl (Or.inl rfl)) (qgs_cons (qg_name (i := 4) sc_law_last.nd rfl (Or.inl rfl)) (qgs_nil)))) (qss_one (qs_if (qt_cmpR (k_eq K hr.u200) (qe_ix (k_ix K) (qv 4) (qe_int) (fun _ _ => rfl)) (qv 1) (nomark _)) (qss_one (qs_set (i := 2) sc_law_last.nd rfl (Or.inl rfl) (qv 3))) (qss_nil))))
      (qss_one (qs_ret (qv 2)))), ?_⟩
    walk_at "r"
    refine ⟨ab, _, rfl, SqL.of e1, ?_⟩
    refine for_enum (K := K) (a := ab) (xs := bs) (fun i σ' H' => ∃ w3 w4, σ' = [some (.ref ab), some (.str x), some (optV (lix x 0 ((ys.map (·.1)).take i))), w3, w4] ∧ Same H H') ⟨none, none, rfl, Same.refl _⟩ ?_ ?_ ?_
    · rintro i σ' H' _ ⟨_, _, _, sm⟩
      exact SqL.of (sm _ _ e1)
    · rintro i y tt σ' H' hy htt ⟨w3, w4, rfl, sm⟩
      obtain ⟨⟨yy, dd⟩, hyy, a, b, rfl, g1, g2⟩ := al.get hy
      have hym : (ys.map (·.1))[i]? = some yy := by rw [List.getElem?_map, hyy]; rfl
      have hi := (List.getElem?_eq_some_iff.mp hym).1
      have e2 : lix x 0 ((ys.map (·.1)).take (i + 1)) = if yy = x then some i else lix x 0 ((ys.map (·.1)).take i) := by
        rw [List.take_add_one, hym]
        show lix x 0 (_ ++ [yy]) = _
        rw [lix_snoc, List.length_take, Nat.zero_add, Nat.min_eq_left (by omega)]
      have s3 : Same H' (upd H' tt (.tup [.int i, .ref a])) := Same.upd htt
      have e3 : upd H' tt (.tup [.int i, .ref a]) tt = some (.tup [.int i, .ref a]) := upd_same
      revert s3 e3
      generalize upd H' tt (.tup [.int i, .ref a]) = H3
      intro s3 e3
      walk_at "r"
      refine s_gtup (SqT.of e3) rfl ?_
      walk_at "r"
      refine s_ix_tup ((sm.trans s3).tup g1) rfl ?_
      walk_at "r"
      rw [dec_str]
      refine ite2 (fun c => ?_) (fun c => ?_)
      · have c := of_decide_eq_true c
        walk_at "r"
        refine ⟨some (.int i), some (.ref a), ?_, sm.trans s3⟩
        rw [e2, if_pos c]
        rfl
      · have c : ¬ yy = x := fun e => c (decide_eq_true e)
        walk_at "r"
        refine ⟨some (.int i), some (.ref a), ?_, sm.trans s3⟩
        rw [e2, if_neg c]
        rfl
    · rintro σ' H' ⟨w3, w4, rfl, sm⟩
      have hl : bs.length = (ys.map (·.1)).length := by rw [List.length_map]; exact al.1
      rw [hl, List.take_length]
      walk_at "r"
      exact q H' sm
end
end K17

set_option Elab.async false
set_option linter.all false
set_option maxRecDepth 100000
set_option maxHeartbeats 4000000
namespace K17
open PySem L2 K19
section
variable {P : Program} {w : World} {K : PySem.W.Frag} {mg : Str → Option Value} {base : Heap}
theorem sc_law_whole : FnScope ["_law_found"] ["_law_found"] (defScope s_law_whole) := ⟨rfl, rfl, rfl, by decide +kernel, rfl, by decide +kernel, by decide +kernel⟩
theorem ok_lwhole {f : Addr} {fd : FuncData} (F : Fun K "_law_whole" "_law_whole" s_law_whole f fd) (T : Txt K mg) : FnOk P w K mg base CX0 1 f fd ["_law_found"] sp_whole := by
  refine F.okq sc_law_whole (fun vs H Q E h => ?_) (fun cdv A outer s H vs Q E hr h => ?_)
  · obtain ⟨k, rfl, _⟩ := h
    rfl
  · obtain ⟨k, rfl, q⟩ := h
    refine ⟨_, qss_one (qs_ret (qe_and (qe_callB (k_isi K "int") (by rfl) T.isinstance (by decide +kernel) (qa_cons (qv 0) (qa_cons (qe_bltn (v := .ty "int") (by rfl) T.int (by decide +kernel) rfl) qa_nil))) (qe_one (qe_not (qe_callB (k_isi K "bool") (by rfl) T.isinstance (by decide +kernel) (qa_cons (qv 0) (qa_cons (qe_bltn (v := .ty "bool") (by rfl) T.bool (by decide +kernel) rfl) qa_nil))))))), ?_⟩
    walk_at "r"
    refine s_isi (.int _) kit_same ?_
    walk_at "r"
    refine s_isi (.int _) kit_int_bool ?_
    walk_at "r"
    exact q
end
end K17

set_option Elab.async false
set_option linter.all false
set_option maxRecDepth 100000
set_option maxHeartbeats 4000000
namespace K17
open PySem L2 K19
section
variable {P : Program} {w : World} {K : PySem.W.Frag} {mg : Str → Option Value} {base : Heap}
theorem strs_isD {H : Hp} {a : Addr} {xs : List Str} (h : SqL K H a (xs.map V.str)) : IsD K H 1 (.ref a) (.lst (xs.map fun x => Dt.flat (.str x))) := by
  refine .lst h (by simp) fun j v d h1 h2 => ?_
  rw [List.getElem?_map] at h1 h2
  cases e : xs[j]? with
  | none => rw [e] at h1; cases h1
  | some x =>
    rw [e] at h1 h2
    cases h1
    cases h2
    exact .flat rfl
def plN (xs : List Nat) : Dt := .tup (xs.map fun i => Dt.flat (.int ((i : Nat) : Int)))
theorem plN_of {H : Hp} {a : Addr} {xs : List Nat} (q : SqT K H a (plV xs)) : IsD K H 1 (.ref a) (plN xs) := by
  refine .tup q (by unfold plV; simp) fun j v d hv hd => ?_
  obtain ⟨x, rfl, hx⟩ := plV_at hv
  rw [List.getElem?_map, hx] at hd
  cases hd
  exact .flat rfl
def sp_good (K : PySem.W.Frag) : Sp := fun vs H Q _ => ∃ (tv : V) (t : Tr) (p ab nl : Addr) (pl : List Nat) (bs : List V) (ns : List Str), vs = [tv, .ref p, .ref ab, .ref nl] ∧ TrAt K H tv t ∧ TrSh t ∧ SqT K H p (plV pl) ∧ Sub t pl ∧ pl.length ≤ 1000 ∧ H ab = some (.lst bs) ∧ Al (BdAt K H pl) bs (bn t pl) ∧ H nl = some (.lst (ns.map V.str)) ∧ ns ≠ [] ∧ ns.length ≤ 10 ∧ ∀ H', Same H H' → Q (.bl true) H'
theorem nd_law_good_1 : (["_law_pair"] : List Str).Nodup := by decide +kernel
theorem nd_law_good_2 : (["_law_number_here"] : List Str).Nodup := by decide +kernel
theorem sc_law_good : FnScope ["_law_tree_here", "_law_place", "_law_above", "_law_names_here", "_law_found", "_law_name", "_law_due", "_law_number_here", "_law_numbers", "_law_spot"] ["_law_tree_here", "_law_place", "_law_above", "_law_names_here"] (defScope s_law_good) := ⟨rfl, rfl, rfl, by decide +kernel, rfl, by decide +kernel, by decide +kernel⟩
theorem ok_good {f : Addr} {fd : FuncData} (F : Fun K "_law_good" "_law_good" s_law_good f fd) (T : Txt K mg) (C_names_at : Callee P w K mg base 5 "names_at" ["tree", "place"] (sp_nat K)) (C__law_last : Callee P w K mg base 1 "_law_last" ["_law_above", "_law_name"] (sp_last K)) (C_binding_at : Callee P w K mg base 6 "binding_at" ["tree", "place", "name"] (sp_bat K)) (C__law_whole : Callee P w K mg base 1 "_law_whole" ["_law_found"] sp_whole) (C_binder : Callee P w K mg base 5 "binder" ["tree", "place", "number"] (sp_bdr K)) : FnOk P w K mg base CX0 7 f fd ["_law_tree_here", "_law_place", "_law_above", "_law_names_here"] (sp_good K) := by
  refine F.okq sc_law_good (fun vs H Q E h => ?_) (fun cdv A outer s H vs Q E hr h => ?_)
  · obtain ⟨tv, t, p, ab, nl, pl, bs, ns, rfl, _⟩ := h
    rfl
  · obtain ⟨tv, t, p, ab, nl, pl, bs, ns, rfl, ht, hsh, hp, hs, hl, eab, alb, enl, hne, hnl, q⟩ := h
    refine ⟨_, qss_cons (qs_set (i := 4) sc_law_good.nd rfl (Or.inl rfl) (qe_fn C_names_at (hr.mono (by decide)) (qa_cons (qv 0) (qa_cons (qv 1) qa_nil))))
      (qss_cons (qs_if (QW.qt (qw_or (qt_not (qt_val (qe_callB (k_isi K "list") (by rfl) T.isinstance (by decide +kernel) (qa_cons (qv 4) (qa_cons (qe_bltn (v := .ty "list") (by rfl) T.list (by decide +kernel) rfl) qa_nil))))) (qw_or1 (qt_cmpR (k_neB K hr.u200) (qv 4) (qe_comp (N := ["_law_pair"]) (σ0 := capSt 1 []) rfl (cscope_fn rfl (by decide +kernel) (by decide +kernel) (by decide +kernel)) (qi_anyK K (qv 2)) (takes_in rfl (by rfl)) (fun _ _ _ _ => qg_name (i := 0) nd_law_good_1 rfl (Or.inl rfl)) (fun _ _ _ _ => qts_nil) (fun _ _ _ _ => qe_ix (k_ix K) (qv 0) (qe_int) (fun _ _ => rfl))) (nomark _))))) (qss_one (qs_ret (qe_bl))) (qss_nil))
      (qss_cons (qs_expr (qe_bmK K PySem.F.plainAttrs_list PySem.F.slot_list_append PySem.F.type_list_append mt_append (qv 4) (qa_cons (qe_ix (k_ix K) (qv 3) (qe_int) (fun _ _ => rfl)) qa_nil)))
      (qss_cons (qs_for PassesOwn.never rfl (qi_anyK K (qv 3)) (qg_name (i := 5) sc_law_good.nd rfl (Or.inl rfl)) (qss_cons (qs_set (i := 6) sc_law_good.nd rfl (Or.inl rfl) (qe_fn C__law_last (hr.mono (by decide)) (qa_cons (qv 2) (qa_cons (qv 5) qa_nil))))
      (qss_cons (qs_set (i := 7) sc_law_good.nd rfl (Or.inl rfl) (qe_fn C_binding_at (hr.mono (by decide)) (qa_cons (qv 0) (qa_cons (qv 1) (qa_cons (qv 5) qa_nil)))))
      (qss_one (qs_if (QW.qt (qw_or (qt_cmpR (k_neB K hr.u200) (qv 7) (qv 6) (nomark _)) (qw_or1 (QW.qt (qw_and (qt_cmp (qc_notN (qv 6))) (qw_and1 (qt_not (qt_val (qe_fn C__law_whole (hr.mono (by decide)) (qa_cons (qv 7) qa_nil)))))))))) (qss_one (qs_ret (qe_bl))) (qss_nil))))))
      (qss_cons (qs_setC (i := 8) (N := ["_law_number_here"]) (σ0 := capSt 1 []) rfl (cscope_fn rfl (by decide +kernel) (by decide +kernel) (by decide +kernel)) (qi_range1 rfl T.range (qa_cons (qe_callB (k_len K) (by rfl) T.len (by decide +kernel) (qa_cons (qv 2) qa_nil)) qa_nil)) (takes_in rfl (by rfl)) (fun _ _ _ _ => qg_name (i := 0) nd_law_good_2 rfl (Or.inl rfl)) (fun _ _ _ _ => qts_nil) (fun _ _ _ _ => qv 0) sc_law_good.nd rfl (Or.inl rfl))
      (qss_cons (qs_if (qt_cmpR (k_eq K hr.u200) (qe_op op_mod (qe_callB (k_len K) (by rfl) T.len (by decide +kernel) (qa_cons (qv 1) qa_nil)) (qe_int)) (qe_int) (nomark _)) (qss_one (qs_expr (qe_bm0K K PySem.F.plainAttrs_list PySem.F.slot_list_reverse PySem.F.type_list_reverse mt_reverse (qv 8)))) (qss_nil))
      (qss_cons (qs_for PassesOwn.never rfl (qi_anyK K (qv 8)) (qg_name (i := 7) sc_law_good.nd rfl (Or.inl rfl)) (qss_cons (qs_set (i := 9) sc_law_good.nd rfl (Or.inl rfl) (qe_fn C_binder (hr.mono (by decide)) (qa_cons (qv 0) (qa_cons (qv 1) (qa_cons (qv 7) qa_nil)))))
      (qss_one (qs_if (QW.qt (qw_or (qt_not (qt_val (qe_callB (k_isi K "tuple") (by rfl) T.isinstance (by decide +kernel) (qa_cons (qv 9) (qa_cons (qe_bltn (v := .ty "tuple") (by rfl) T.tuple (by decide +kernel) rfl) qa_nil))))) (qw_or1 (qt_cmpR (k_neB K hr.u200) (qv 9) (qe_ix (k_ix K) (qe_ix (k_ix K) (qv 2) (qv 7) (fun _ _ => rfl)) (qe_int) (fun _ _ => rfl)) (nomark _))))) (qss_one (qs_ret (qe_bl))) (qss_nil)))))
      (qss_one (qs_ret (qe_bl))))))))), ?_⟩
    have bg := big
    have hbl := bn_len hs
    have hbs : bs.length = (bn t pl).length := alb.1
    walk_at "r"
    refine ⟨tv, t, p, pl, rfl, ht, hsh, hp, hs, hl, fun q1 H1 hq1 s1 e1 => ?_⟩
    walk_at "r"
    refine s_isiL (SqL.of e1) kit_same ?_
    walk_at "r"
    refine .inl ⟨ab, rfl, ⟨_, SqL.of (s1 _ _ eab)⟩, fun D hD => ?_⟩
    have nD : ab ≠ D := ne_of_none (s1 _ _ eab) hD
    refine comp_list (K := K) (a := ab) (xs := bs) (Pv := fun i ys σ' H' => ∃ v0, σ' = [v0] ∧ H' ab = some (.lst bs) ∧ ys = (((bn t pl).take i).map fun x => V.str x.1) ∧ SameT H1 H' ∧ Same H1 H') ⟨none, rfl, by rw [upd_ne nD]; exact s1 _ _ eab, rfl, SameT.new hD, Same.upd hD⟩ ?_ ?_ ?_
    · rintro i ys σ' H' _ ⟨_, _, e, _⟩
      exact SqL.of e
    · rintro i x ys σ' H' hx hys ⟨v0, rfl, e, rfl, t2, sm⟩
      obtain ⟨y, hy, a, b, rfl, g1, g2⟩ := alb.get hx
      walk_at "r"
      refine s_ix_tup ((s1.t.trans t2).tup g1) rfl ?_
      walk_at "r"
      refine ⟨_, hys, by rw [List.length_map, List.length_take]; omega, _, upd_same, ?_⟩
      refine ⟨_, rfl, by rw [upd_ne nD]; exact e, ?_, t2.trans (SameT.set hys), sm.over hD⟩
      rw [List.take_add_one, hy, List.map_append]
      rfl
    rintro ys σ' H2 hys ⟨v0, rfl, e, rfl, t2, s2⟩
    rw [hbs, List.take_length] at hys
    have hys : H2 D = some (.lst ((nms t pl).map V.str)) := by rw [hys, ← bn_nms, List.map_map]; rfl
    have s12 := s1.trans s2
    walk_at "r"
    refine s_nebD (n := 1) (by decide) (strs_isD (SqL.of (s2 _ _ e1))) (strs_isD (SqL.of hys)) ?_
    walk_at "r"
    refine s_tyL (SqL.of (s2 _ _ e1)) ?_
    walk_at "r"
    obtain ⟨n0, nr, rfl⟩ : ∃ n0 nr, ns = n0 :: nr := by
      cases ns with
      | nil => exact absurd rfl hne
      | cons a r => exact ⟨a, r, rfl⟩
    refine s_ix_lst (v := .str n0) (SqL.of (s12 _ _ enl)) (atI_ok 0 rfl rfl) ?_
    walk_at "r"
    refine s_app (s2 _ _ e1) (by rw [List.length_map, nms_len]; omega) ?_
    have s3 : Same H (upd H2 q1 (.lst ((nms t pl).map V.str ++ [.str n0]))) := s12.over hq1
    revert s3
    generalize upd H2 q1 (.lst ((nms t pl).map V.str ++ [.str n0])) = H3
    intro s3
    walk_at "r"
    refine .inl ⟨nl, rfl, ⟨_, SqL.of (s3 _ _ enl)⟩, ?_⟩
    refine for_list (K := K) (a := nl) (xs := (n0 :: nr).map V.str) (fun i σ' H' => ∃ w5 w6 w7, σ' = [some tv, some (.ref p), some (.ref ab), some (.ref nl), some (.ref q1), w5, w6, w7, none, none] ∧ Same H H') ⟨none, none, none, rfl, s3⟩ ?_ ?_ ?_
    · rintro i σ' H' _ ⟨_, _, _, _, sm⟩
      exact SqL.of (sm _ _ enl)
    · rintro i x σ' H' hx ⟨w5, w6, w7, rfl, sm⟩
      rw [List.getElem?_map] at hx
      cases hxx : (n0 :: nr)[i]? with
      | none => rw [hxx] at hx; cases hx
      | some xx =>
      rw [hxx] at hx
      have hx : V.str xx = x := by simpa using hx
      subst hx
      walk_at "r"
      refine ⟨ab, bs, pl, bn t pl, xx, rfl, sm _ _ eab, alb.mono (BdAt.same sm.t), fun H4 s4 => ?_⟩
      rw [bn_nms]
      cases hlx : lix xx 0 (nms t pl) with
      | none =>
        dsimp only [optV]
        walk_at "r"
        have s04 := sm.trans s4
        refine ⟨tv, t, p, pl, xx, rfl, ht.same s04, hsh, s04.tup hp, hs, hl, fun H5 s5 => ?_⟩
        have s05 := s04.trans s5
        rw [hlx]
        dsimp only [optV]
        walk_at "r"
        rw [decide_eq_true (Eq.refl V.non)]
        walk_at "r"
        rw [decide_eq_true (Eq.refl V.non)]
        walk_at "r"
        exact ⟨_, _, _, rfl, s05⟩
      | some k =>
        dsimp only [optV]
        walk_at "r"
        have s04 := sm.trans s4
        refine ⟨tv, t, p, pl, xx, rfl, ht.same s04, hsh, s04.tup hp, hs, hl, fun H5 s5 => ?_⟩
        have s05 := s04.trans s5
        rw [hlx]
        dsimp only [optV]
        walk_at "r"
        rw [decide_eq_true (Eq.refl (V.int (k : Nat)))]
        walk_at "r"
        rw [decide_eq_false (show ¬ V.int (k : Nat) = V.non from fun z => by cases z)]
        walk_at "r"
        refine ⟨_, rfl, ?_⟩
        walk_at "r"
        exact ⟨_, _, _, rfl, s05⟩
    rintro σ' H4 ⟨w5, w6, w7, rfl, s4⟩
    walk_at "r"
    refine s_len_lst (SqL.of (s4 _ _ eab)) ?_
    walk_at "r"
    refine ⟨by omega, by omega, fun D2 hD2 => ?_⟩
    have hD20 : H D2 = none := s4.free hD2
    rw [show ((bs.length : Nat) : Int).toNat = bs.length from by omega]
    refine comp_range (Pv := fun i ys σ' H' => ∃ kv, σ' = [kv] ∧ ys = (List.range i).map (fun (j : Nat) => V.int (j : Int)) ∧ Same H H') ⟨none, rfl, rfl, s4.put hD2⟩ ?_ ?_
    · rintro i ys σ' H' hi hys ⟨kv, rfl, rfl, sm⟩
      walk_at "r"
      refine ⟨_, hys, by rw [List.length_map, List.length_range]; omega, _, upd_same, _, rfl, ?_, sm.over hD20⟩
      rw [List.range_succ, List.map_append, Int.zero_add]
      rfl
    rintro ys σ' H5 hD5 ⟨kv, rfl, rfl, s5⟩
    have mem : ∀ x ∈ (List.range bs.length).map (fun (j : Nat) => V.int (j : Int)), ∃ j, j < bs.length ∧ x = V.int (j : Nat) := fun x hx => by
      obtain ⟨j, hj, rfl⟩ := List.mem_map.mp hx
      exact ⟨j, List.mem_range.mp hj, rfl⟩
    walk_at "r"
    refine s_len_tup (s5.tup hp) ?_
    walk_at "r"
    refine ite2 (fun c => ?_) (fun c => ?_)
    · walk_at "r"
      refine s_tyL (SqL.of hD5) ?_
      refine ⟨D2, _, rfl, rfl, hD5, ?_⟩
      have s6 : Same H (upd H5 D2 (.lst ((List.range bs.length).map (fun (j : Nat) => V.int (j : Int))).reverse)) := s5.over hD20
      have e6 : upd H5 D2 (.lst ((List.range bs.length).map (fun (j : Nat) => V.int (j : Int))).reverse) D2 = some (.lst ((List.range bs.length).map (fun (j : Nat) => V.int (j : Int))).reverse) := upd_same
      revert s6 e6
      generalize upd H5 D2 (.lst ((List.range bs.length).map (fun (j : Nat) => V.int (j : Int))).reverse) = H6
      intro s6 e6
      have mem2 : ∀ x ∈ ((List.range bs.length).map (fun (j : Nat) => V.int (j : Int))).reverse, ∃ j, j < bs.length ∧ x = V.int (j : Nat) := fun x hx => mem x (List.mem_reverse.mp hx)
      walk_at "r"
      refine .inl ⟨D2, rfl, ⟨_, SqL.of e6⟩, ?_⟩
      refine for_list (K := K) (a := D2) (xs := ((List.range bs.length).map (fun (j : Nat) => V.int (j : Int))).reverse) (fun i σ' H' => ∃ w7 w9, σ' = [some tv, some (.ref p), some (.ref ab), some (.ref nl), some (.ref q1), w5, w6, w7, some (.ref D2), w9] ∧ Same H H' ∧ H' D2 = some (.lst (((List.range bs.length).map (fun (j : Nat) => V.int (j : Int))).reverse))) ⟨_, _, rfl, s6, e6⟩ ?_ ?_ ?_
      · rintro i σ' H' _ ⟨_, _, _, _, e⟩
        exact SqL.of e
      · rintro i x σ' H' hx ⟨w7, w9, rfl, sm, eD⟩
        obtain ⟨j, hj, rfl⟩ := mem2 x (List.mem_of_getElem? hx)
        have hjb : (bn t pl)[j]? = some (bn t pl)[j] := List.getElem?_eq_getElem (by omega)
        walk_at "r"
        refine ⟨tv, t, p, pl, j, (bn t pl)[j].1, (bn t pl)[j].2, rfl, ht.same sm, hsh, sm.tup hp, hs, hl, hjb, fun b H5 s5 q5 => ?_⟩
        walk_at "r"
        refine s_isiT q5 kit_same ?_
        walk_at "r"
        obtain ⟨vj, hvj, a', b', rfl, g1, g2⟩ := alb.get' hjb
        have s05 := sm.trans s5
        refine s_ix_lst (SqL.of (s05 _ _ eab)) (atI_ok j rfl hvj) ?_
        walk_at "r"
        refine s_ix_tup (s05.tup g1) rfl ?_
        walk_at "r"
        refine s_nebD (n := 1) (by decide) (plN_of q5) (plN_of (s05.tup g2)) ?_
        walk_at "r"
        exact ⟨_, _, rfl, s05, s5 _ _ eD⟩
      · rintro σ' H' ⟨w7, w9, rfl, sm, eD⟩
        walk_at "r"
        exact q H' sm
    · walk_at "r"
      refine .inl ⟨D2, rfl, ⟨_, SqL.of hD5⟩, ?_⟩
      refine for_list (K := K) (a := D2) (xs := (List.range bs.length).map (fun (j : Nat) => V.int (j : Int))) (fun i σ' H' => ∃ w7 w9, σ' = [some tv, some (.ref p), some (.ref ab), some (.ref nl), some (.ref q1), w5, w6, w7, some (.ref D2), w9] ∧ Same H H' ∧ H' D2 = some (.lst ((List.range bs.length).map (fun (j : Nat) => V.int (j : Int))))) ⟨_, _, rfl, s5, hD5⟩ ?_ ?_ ?_
      · rintro i σ' H' _ ⟨_, _, _, _, e⟩
        exact SqL.of e
      · rintro i x σ' H' hx ⟨w7, w9, rfl, sm, eD⟩
        obtain ⟨j, hj, rfl⟩ := mem x (List.mem_of_getElem? hx)
        have hjb : (bn t pl)[j]? = some (bn t pl)[j] := List.getElem?_eq_getElem (by omega)
        walk_at "r"
        refine ⟨tv, t, p, pl, j, (bn t pl)[j].1, (bn t pl)[j].2, rfl, ht.same sm, hsh, sm.tup hp, hs, hl, hjb, fun b H5 s5 q5 => ?_⟩
        walk_at "r"
        refine s_isiT q5 kit_same ?_
        walk_at "r"
        obtain ⟨vj, hvj, a', b', rfl, g1, g2⟩ := alb.get' hjb
        have s05 := sm.trans s5
        refine s_ix_lst (SqL.of (s05 _ _ eab)) (atI_ok j rfl hvj) ?_
        walk_at "r"
        refine s_ix_tup (s05.tup g1) rfl ?_
        walk_at "r"
        refine s_nebD (n := 1) (by decide) (plN_of q5) (plN_of (s05.tup g2)) ?_
        walk_at "r"
        exact ⟨_, _, rfl, s05, s5 _ _ eD⟩
      · rintro σ' H' ⟨w7, w9, rfl, sm, eD⟩
        walk_at "r"
        exact q H' sm
end
end K17

set_option Elab.async false
set_option linter.all false
set_option maxRecDepth 100000
set_option maxHeartbeats 4000000
namespace K17
open PySem L2 K19
section
variable {P : Program} {w : World} {K : PySem.W.Frag} {mg : Str → Option Value} {base : Heap}
theorem bad_flat {pl : List Nat} {far : Int} {rest : List V} (hr : ∀ v ∈ rest, ∃ k, v = V.int k) : ∀ v ∈ badV pl far rest, flatV v = true := by
  intro v hv
  unfold badV plV at hv
  rcases List.mem_append.mp hv with h | h
  · obtain ⟨k, _, rfl⟩ := List.mem_map.mp h
    rfl
  · rcases List.mem_cons.mp h with rfl | h
    · rfl
    · obtain ⟨k, rfl⟩ := hr v h
      rfl
theorem bad_isD {H : Hp} {p : Addr} {xs : List V} (q : SqT K H p xs) (h : ∀ v ∈ xs, flatV v = true) : IsD K H 1 (.ref p) (.tup (xs.map Dt.flat)) := by
  refine .tup q (by simp) fun j v d h1 h2 => ?_
  rw [List.getElem?_map, h1] at h2
  cases h2
  exact .flat (h v (List.mem_of_getElem? h1))
theorem yes_isD {H : Hp} {a p : Addr} {d : Dt} (q : SqT K H a [.bl true, .ref p]) (h : IsD K H 1 (.ref p) d) : IsD K H 2 (.ref a) (.tup [.flat (.bl true), d]) := by
  refine .tup q rfl fun j v d h1 h2 => ?_
  match j, h1, h2 with
  | 0, h1, h2 => cases h1; cases h2; exact .flat rfl
  | 1, h1, h2 => cases h1; cases h2; exact h
theorem two_isD {H : Hp} {l : Addr} {vs : List V} {d : Dt} {n : Nat} (hn : vs.length = n) (q : SqL K H l vs) (h : ∀ v ∈ vs, IsD K H 2 v d) : IsD K H 3 (.ref l) (.lst (List.replicate n d)) := by
  refine .lst q (by simp [hn]) fun j v e h1 h2 => ?_
  rw [List.getElem?_replicate] at h2
  split at h2
  · cases h2
    exact h v (List.mem_of_getElem? h1)
  · cases h2
def sp_refused (K : PySem.W.Frag) : Sp := fun vs H Q _ => ∃ (tv : V) (t : Tr) (p : Addr) (pl : List Nat) (far : Int) (rest : List V) (x : Str) (nv : V), vs = [tv, .ref p, .str x, nv] ∧ TrAt K H tv t ∧ SqT K H p (badV pl far rest) ∧ Bad t pl far ∧ pl.length ≤ 1000 ∧ (∀ v ∈ rest, ∃ k, v = V.int k) ∧ (nv = .non ∨ ∃ i : Int, nv = .int i) ∧ ∀ H', Same H H' → Q (.bl true) H'
theorem sc_law_refused : FnScope ["_law_tree_here", "_law_place", "_law_name", "_law_number_here", "_law_one", "_law_two", "_law_three", "e"] ["_law_tree_here", "_law_place", "_law_name", "_law_number_here"] (defScope s_law_refused) := ⟨rfl, rfl, rfl, by decide +kernel, rfl, by decide +kernel, by decide +kernel⟩
theorem ok_refused {C GE : Addr} {f : Addr} {fd : FuncData} (F : Fun K "_law_refused" "_law_refused" s_law_refused f fd) (T : Txt K mg) (C_names_at : CalleeX P w K mg base 5 "names_at" ["tree", "place"] (sp_downX K C)) (C_binding_at : CalleeX P w K mg base 6 "binding_at" ["tree", "place", "name"] (sp_batX K C)) (C_binder : CalleeX P w K mg base 5 "binder" ["tree", "place", "number"] (sp_batX K C))
    (X_GapError : ExcC K GE) (G_GapError : mg "GapError" = some (.ref GE)) (G_NoPlace : mg "NoPlace" = some (.ref C)) (hsub : PySem.W.subIn K (.ref C) (.ref GE) = some true) (xC : ExC K C) (nA : NoAttr K C "place") : FnOk P w K mg base CX0 7 f fd ["_law_tree_here", "_law_place", "_law_name", "_law_number_here"] (sp_refused K) := by
  refine F.okq sc_law_refused (fun vs H Q E h => ?_) (fun cdv A outer s H vs Q E hr h => ?_)
  · obtain ⟨tv, t, p, pl, far, rest, x, nv, rfl, _⟩ := h
    rfl
  · obtain ⟨tv, t, p, pl, far, rest, x, nv, rfl, ht, hp, hb, hl, hrest, hnv, q⟩ := h
    let N_NoPlace := C
    refine ⟨_, qss_cons (qs_set (i := 4) sc_law_refused.nd rfl (Or.inl rfl) (qe_non))
      (qss_cons (qs_set (i := 5) sc_law_refused.nd rfl (Or.inl rfl) (qe_non))
      (qss_cons (qs_set (i := 6) sc_law_refused.nd rfl (Or.inl rfl) (qe_non))
      (qss_cons (qs_try (i := 7) sc_law_refused.nd rfl rfl X_GapError G_GapError rfl rfl (qxs_expr (qx_fn C_names_at (hr.mono (by decide)) (fun _ => qa_cons (qv 0) (qa_cons (qv 1) qa_nil)))) (fun _ _ => qss_one (qs_set (i := 4) sc_law_refused.nd rfl (Or.inl rfl) (qe_tup (qa_cons (qe_callB (k_isX (K := K)) (by rfl) T.isinstance (by decide +kernel) (qa_cons (qv 7) (qa_cons (qe_glob (v := .ref N_NoPlace) (by rfl) G_NoPlace rfl) qa_nil))) (qa_cons (qe_xgetK K (qv 7)) qa_nil))))))
      (qss_cons (qs_try (i := 7) sc_law_refused.nd rfl rfl X_GapError G_GapError rfl rfl (qxs_expr (qx_fn C_binding_at (hr.mono (by decide)) (fun _ => qa_cons (qv 0) (qa_cons (qv 1) (qa_cons (qv 2) qa_nil))))) (fun _ _ => qss_one (qs_set (i := 5) sc_law_refused.nd rfl (Or.inl rfl) (qe_tup (qa_cons (qe_callB (k_isX (K := K)) (by rfl) T.isinstance (by decide +kernel) (qa_cons (qv 7) (qa_cons (qe_glob (v := .ref N_NoPlace) (by rfl) G_NoPlace rfl) qa_nil))) (qa_cons (qe_xgetK K (qv 7)) qa_nil))))))
      (qss_cons (qs_if (qt_cmp (qc_isN (qv 3))) (qss_one (qs_ret (qe_cmpR (k_eq K hr.u200) (qe_lst (qa_cons (qv 4) (qa_cons (qv 5) qa_nil))) (qe_lst (qa_cons (qe_tup (qa_cons (qe_bl) (qa_cons (qv 1) qa_nil))) (qa_cons (qe_tup (qa_cons (qe_bl) (qa_cons (qv 1) qa_nil))) qa_nil))) (nomark _)))) (qss_nil))
      (qss_cons (qs_try (i := 7) sc_law_refused.nd rfl rfl X_GapError G_GapError rfl rfl (qxs_expr (qx_fn C_binder (hr.mono (by decide)) (fun _ => qa_cons (qv 0) (qa_cons (qv 1) (qa_cons (qv 3) qa_nil))))) (fun _ _ => qss_one (qs_set (i := 6) sc_law_refused.nd rfl (Or.inl rfl) (qe_tup (qa_cons (qe_callB (k_isX (K := K)) (by rfl) T.isinstance (by decide +kernel) (qa_cons (qv 7) (qa_cons (qe_glob (v := .ref N_NoPlace) (by rfl) G_NoPlace rfl) qa_nil))) (qa_cons (qe_xgetK K (qv 7)) qa_nil))))))
      (qss_one (qs_ret (qe_cmpR (k_eq K hr.u200) (qe_lst (qa_cons (qv 4) (qa_cons (qv 5) (qa_cons (qv 6) qa_nil)))) (qe_lst (qa_cons (qe_tup (qa_cons (qe_bl) (qa_cons (qv 1) qa_nil))) (qa_cons (qe_tup (qa_cons (qe_bl) (qa_cons (qv 1) qa_nil))) (qa_cons (qe_tup (qa_cons (qe_bl) (qa_cons (qv 1) qa_nil))) qa_nil)))) (nomark _)))))))))), ?_⟩
    have kit : PySem.W.kitOne K (.ref C) (.ref C) = some true := by unfold PySem.W.kitOne; rw [if_pos (by simp)]
    walk_at "r"
    refine ⟨tv, rfl, .ref p, rfl, ?_⟩
    refine ⟨tv, t, p, pl, far, rest, rfl, ht, hp, hb, hl, fun d1 G1 g1 e1 => ⟨⟨C, rfl, hsub⟩, fun a1 ha1 => ?_⟩⟩
    have nd1 : d1 ≠ a1 := ne_of_none e1 ha1
    walk_at "r"
    refine ⟨a1, C, C, some d1, rfl, upd_same, kit, ?_⟩
    walk_at "r"
    refine ⟨_, rfl, a1, C, d1, _, _, rfl, upd_same, by rw [upd_ne nd1]; exact e1, xC, nA, rfl, ?_⟩
    walk_at "r"
    refine ⟨by show 2 ≤ sizeLine; decide, fun p1 hp1 => ?_⟩
    walk_at "r"
    dsimp only [Ends.gone]
    have s1 : Same H (upd (upd G1 a1 (exk a1 (.ref C) (some d1))) p1 (.tup [.bl true, .ref p])) := ((g1.trans ((Same.upd ha1).put hp1)))
    have t1 : SqT K (upd (upd G1 a1 (exk a1 (.ref C) (some d1))) p1 (.tup [.bl true, .ref p])) p1 [.bl true, .ref p] := SqT.of upd_same
    have u1 : Same H (upd (upd G1 a1 (exk a1 (.ref C) (some d1))) p1 (.tup [.bl true, .ref p])) := g1.trans ((Same.upd ha1).put hp1)
    revert s1 t1 u1
    generalize upd (upd G1 a1 (exk a1 (.ref C) (some d1))) p1 (.tup [.bl true, .ref p]) = X1
    intro s1 t1 u1
    walk_at "r"
    refine ⟨tv, rfl, .ref p, rfl, .str x, rfl, ?_⟩
    refine ⟨tv, t, p, pl, far, rest, _, rfl, ht.same s1, s1.tup hp, hb, hl, fun d2 G2 g2 e2 => ⟨⟨C, rfl, hsub⟩, fun a2 ha2 => ?_⟩⟩
    have nd2 : d2 ≠ a2 := ne_of_none e2 ha2
    walk_at "r"
    refine ⟨a2, C, C, some d2, rfl, upd_same, kit, ?_⟩
    walk_at "r"
    refine ⟨_, rfl, a2, C, d2, _, _, rfl, upd_same, by rw [upd_ne nd2]; exact e2, xC, nA, rfl, ?_⟩
    walk_at "r"
    refine ⟨by show 2 ≤ sizeLine; decide, fun p2 hp2 => ?_⟩
    walk_at "r"
    dsimp only [Ends.gone]
    have s2 : Same H (upd (upd G2 a2 (exk a2 (.ref C) (some d2))) p2 (.tup [.bl true, .ref p])) := (s1.trans (g2.trans ((Same.upd ha2).put hp2)))
    have t2 : SqT K (upd (upd G2 a2 (exk a2 (.ref C) (some d2))) p2 (.tup [.bl true, .ref p])) p2 [.bl true, .ref p] := SqT.of upd_same
    have u2 : Same X1 (upd (upd G2 a2 (exk a2 (.ref C) (some d2))) p2 (.tup [.bl true, .ref p])) := g2.trans ((Same.upd ha2).put hp2)
    revert s2 t2 u2
    generalize upd (upd G2 a2 (exk a2 (.ref C) (some d2))) p2 (.tup [.bl true, .ref p]) = X2
    intro s2 t2 u2
    walk_at "r"
    rcases hnv with rfl | ⟨i, rfl⟩
    · rw [decide_eq_true (Eq.refl V.non)]
      walk_at "r"
      refine ⟨by show 2 ≤ sizeLine; decide, fun l1 hl1 => ?_⟩
      walk_at "r"
      refine ⟨by show 2 ≤ sizeLine; decide, fun y0 hy0 => ?_⟩
      walk_at "r"
      refine ⟨by show 2 ≤ sizeLine; decide, fun y1 hy1 => ?_⟩
      walk_at "r"
      refine ⟨by show 2 ≤ sizeLine; decide, fun l2 hl2 => ?_⟩
      have z4 := Same.refl (upd (upd (upd (upd X2 l1 (.lst [.ref p1, .ref p2])) y0 (.tup [.bl true, .ref p])) y1 (.tup [.bl true, .ref p])) l2 (.lst [.ref y0, .ref y1]))
      have z3 := (Same.upd (o := (.lst [.ref y0, .ref y1])) hl2).trans z4
      have z2 := (Same.upd (o := (.tup [.bl true, .ref p])) hy1).trans z3
      have z1 := (Same.upd (o := (.tup [.bl true, .ref p])) hy0).trans z2
      have z0 := (Same.upd (o := (.lst [.ref p1, .ref p2])) hl1).trans z1
      have fl1 := z1 l1 _ (upd_same (H := X2) (o := (.lst [.ref p1, .ref p2])))
      have fy0 := z2 y0 _ (upd_same (H := (upd X2 l1 (.lst [.ref p1, .ref p2]))) (o := (.tup [.bl true, .ref p])))
      have fy1 := z3 y1 _ (upd_same (H := (upd (upd X2 l1 (.lst [.ref p1, .ref p2])) y0 (.tup [.bl true, .ref p]))) (o := (.tup [.bl true, .ref p])))
      have fl2 := z4 l2 _ (upd_same (H := (upd (upd (upd X2 l1 (.lst [.ref p1, .ref p2])) y0 (.tup [.bl true, .ref p])) y1 (.tup [.bl true, .ref p]))) (o := (.lst [.ref y0, .ref y1])))
      have zz := s2.trans z0
      have pD := bad_isD (zz.tup hp) (bad_flat hrest)
      refine s_eqD (n := 3) (by decide) (two_isD (n := 2) (d := .tup [.flat (.bl true), .tup ((badV pl far rest).map Dt.flat)]) rfl (SqL.of fl1) ?_) (two_isD (n := 2) (d := .tup [.flat (.bl true), .tup ((badV pl far rest).map Dt.flat)]) rfl (SqL.of fl2) ?_) (q _ zz)
      · intro v hv
        simp only [List.mem_cons, List.not_mem_nil, or_false] at hv
        rcases hv with rfl | rfl
        · exact yes_isD ((u2.trans z0).tup t1) pD
        · exact yes_isD (z0.tup t2) pD
      · intro v hv
        simp only [List.mem_cons, List.not_mem_nil, or_false] at hv
        rcases hv with rfl | rfl
        · exact yes_isD (SqT.of fy0) pD
        · exact yes_isD (SqT.of fy1) pD
    · rw [decide_eq_false (show ¬ V.int i = V.non from fun z => by cases z)]
      walk_at "r"
      refine ⟨tv, rfl, .ref p, rfl, .int i, rfl, ?_⟩
      refine ⟨tv, t, p, pl, far, rest, _, rfl, ht.same s2, s2.tup hp, hb, hl, fun d3 G3 g3 e3 => ⟨⟨C, rfl, hsub⟩, fun a3 ha3 => ?_⟩⟩
      have nd3 : d3 ≠ a3 := ne_of_none e3 ha3
      walk_at "r"
      refine ⟨a3, C, C, some d3, rfl, upd_same, kit, ?_⟩
      walk_at "r"
      refine ⟨_, rfl, a3, C, d3, _, _, rfl, upd_same, by rw [upd_ne nd3]; exact e3, xC, nA, rfl, ?_⟩
      walk_at "r"
      refine ⟨by show 2 ≤ sizeLine; decide, fun p3 hp3 => ?_⟩
      walk_at "r"
      dsimp only [Ends.gone]
      have s3 : Same H (upd (upd G3 a3 (exk a3 (.ref C) (some d3))) p3 (.tup [.bl true, .ref p])) := s2.trans (g3.trans ((Same.upd ha3).put hp3))
      have t3 : SqT K (upd (upd G3 a3 (exk a3 (.ref C) (some d3))) p3 (.tup [.bl true, .ref p])) p3 [.bl true, .ref p] := SqT.of upd_same
      have u3 : Same X2 (upd (upd G3 a3 (exk a3 (.ref C) (some d3))) p3 (.tup [.bl true, .ref p])) := g3.trans ((Same.upd ha3).put hp3)
      revert s3 t3 u3
      generalize upd (upd G3 a3 (exk a3 (.ref C) (some d3))) p3 (.tup [.bl true, .ref p]) = X3
      intro s3 t3 u3
      walk_at "r"
      refine ⟨by show 3 ≤ sizeLine; decide, fun l1 hl1 => ?_⟩
      walk_at "r"
      refine ⟨by show 2 ≤ sizeLine; decide, fun y0 hy0 => ?_⟩
      walk_at "r"
      refine ⟨by show 2 ≤ sizeLine; decide, fun y1 hy1 => ?_⟩
      walk_at "r"
      refine ⟨by show 2 ≤ sizeLine; decide, fun y2 hy2 => ?_⟩
      walk_at "r"
      refine ⟨by show 3 ≤ sizeLine; decide, fun l2 hl2 => ?_⟩
      have z5 := Same.refl (upd (upd (upd (upd (upd X3 l1 (.lst [.ref p1, .ref p2, .ref p3])) y0 (.tup [.bl true, .ref p])) y1 (.tup [.bl true, .ref p])) y2 (.tup [.bl true, .ref p])) l2 (.lst [.ref y0, .ref y1, .ref y2]))
      have z4 := (Same.upd (o := (.lst [.ref y0, .ref y1, .ref y2])) hl2).trans z5
      have z3 := (Same.upd (o := (.tup [.bl true, .ref p])) hy2).trans z4
      have z2 := (Same.upd (o := (.tup [.bl true, .ref p])) hy1).trans z3
      have z1 := (Same.upd (o := (.tup [.bl true, .ref p])) hy0).trans z2
      have z0 := (Same.upd (o := (.lst [.ref p1, .ref p2, .ref p3])) hl1).trans z1
      have fl1 := z1 l1 _ (upd_same (H := X3) (o := (.lst [.ref p1, .ref p2, .ref p3])))
      have fy0 := z2 y0 _ (upd_same (H := (upd X3 l1 (.lst [.ref p1, .ref p2, .ref p3]))) (o := (.tup [.bl true, .ref p])))
      have fy1 := z3 y1 _ (upd_same (H := (upd (upd X3 l1 (.lst [.ref p1, .ref p2, .ref p3])) y0 (.tup [.bl true, .ref p]))) (o := (.tup [.bl true, .ref p])))
      have fy2 := z4 y2 _ (upd_same (H := (upd (upd (upd X3 l1 (.lst [.ref p1, .ref p2, .ref p3])) y0 (.tup [.bl true, .ref p])) y1 (.tup [.bl true, .ref p]))) (o := (.tup [.bl true, .ref p])))
      have fl2 := z5 l2 _ (upd_same (H := (upd (upd (upd (upd X3 l1 (.lst [.ref p1, .ref p2, .ref p3])) y0 (.tup [.bl true, .ref p])) y1 (.tup [.bl true, .ref p])) y2 (.tup [.bl true, .ref p]))) (o := (.lst [.ref y0, .ref y1, .ref y2])))
      have zz := s3.trans z0
      have pD := bad_isD (zz.tup hp) (bad_flat hrest)
      refine s_eqD (n := 3) (by decide) (two_isD (n := 3) (d := .tup [.flat (.bl true), .tup ((badV pl far rest).map Dt.flat)]) rfl (SqL.of fl1) ?_) (two_isD (n := 3) (d := .tup [.flat (.bl true), .tup ((badV pl far rest).map Dt.flat)]) rfl (SqL.of fl2) ?_) (q _ zz)
      · intro v hv
        simp only [List.mem_cons, List.not_mem_nil, or_false] at hv
        rcases hv with rfl | rfl | rfl
        · exact yes_isD ((u2.trans (u3.trans z0)).tup t1) pD
        · exact yes_isD ((u3.trans z0).tup t2) pD
        · exact yes_isD (z0.tup t3) pD
      · intro v hv
        simp only [List.mem_cons, List.not_mem_nil, or_false] at hv
        rcases hv with rfl | rfl | rfl
        · exact yes_isD (SqT.of fy0) pD
        · exact yes_isD (SqT.of fy1) pD
        · exact yes_isD (SqT.of fy2) pD
end
end K17

set_option Elab.async false
set_option linter.all false
set_option maxRecDepth 100000
set_option maxHeartbeats 4000000
namespace K17
open PySem L2 K19
section
variable {P : Program} {w : World} {K : PySem.W.Frag} {mg : Str → Option Value} {base : Heap}
theorem cut_ints (ns : List Int) (lo hi : Option Int) : ∃ ms : List Int, cutV (ns.map V.int) lo hi = ms.map V.int ∧ ms.length ≤ ns.length := by
  unfold cutV
  rw [List.length_map, ← List.map_drop, ← List.map_take]
  exact ⟨_, rfl, by rw [List.length_take, List.length_drop]; omega⟩
/-- a row of the scopes, taken apart -/
theorem sc_row {t : Tr} {H : Hp} {rows : List V} (al : Al (ScAt K t H) rows (walk [] t)) (hz : t.size ≤ 600) {i : Nat} {x : V} (hx : rows[i]? = some x) :
    ∃ (ra rp ab : Addr) (u : V) (bs : List V) (pl : List Nat) (tx : Tr), x = .ref ra ∧ SqT K H ra [.ref rp, u, .ref ab] ∧ SqT K H rp (plV pl) ∧ TrAt K H u tx ∧ H ab = some (.lst bs) ∧ Al (BdAt K H pl) bs (bn t pl) ∧ Sub t pl ∧ pl.length ≤ 600 ∧ (path t pl)[pl.length]? = some tx := by
  obtain ⟨⟨pl, tx⟩, hy, ra, rp, u, ab, bs, rfl, g1, g2, g3, g4, g5⟩ := al.get hx
  have my := List.mem_of_getElem? hy
  have w3 : pl.length + 1 ≤ 0 + t.size := walk_depth [] t _ my
  exact ⟨ra, rp, ab, u, bs, pl, tx, rfl, g1, g2, g3, g4, g5, walk_sub t _ my, by omega, walk_form t _ my⟩
def sp_law (K : PySem.W.Frag) : Sp := fun vs H Q _ => ∃ (a : Addr) (ns : List Int), vs = [.ref a] ∧ SqL K H a (ns.map V.int) ∧ ns.length ≤ 63 ∧ ∀ H', Q (.bl true) H'
theorem sc_law : FnScope ["_law_script", "_law_names_here", "_law_tree_here", "_law_cell_here", "_law_place", "_law_form", "_law_above", "_law_k", "_law_rows", "_law_far", "_law_bad", "_law_number_here"] ["_law_script"] (defScope s_law) := ⟨rfl, rfl, rfl, by decide +kernel, rfl, by decide +kernel, by decide +kernel⟩
theorem ok_law {f : Addr} {fd : FuncData} (F : Fun K "law" "law" s_law f fd) (T : Txt K mg) (C__law_names : Callee P w K mg base 1 "_law_names" ["_law_one", "_law_other"] sp_names) (C__law_cell : Callee P w K mg base 1 "_law_cell" ["_law_script", "_law_k"] (sp_cell K)) (C__law_tree : Callee P w K mg base 3 "_law_tree" ["_law_cells", "_law_names_here"] (sp_tree K))
    (C__law_scopes : Callee P w K mg base 2 "_law_scopes" ["_law_tree_here"] (sp_scopes K)) (C__law_good : Callee P w K mg base 7 "_law_good" ["_law_tree_here", "_law_place", "_law_above", "_law_names_here"] (sp_good K)) (C__law_refused : Callee P w K mg base 7 "_law_refused" ["_law_tree_here", "_law_place", "_law_name", "_law_number_here"] (sp_refused K)) : FnOk P w K mg base CX0 8 f fd ["_law_script"] (sp_law K) := by
  refine F.okq sc_law (fun vs H Q E h => ?_) (fun cdv A outer s H vs Q E hr h => ?_)
  · obtain ⟨a, ns, rfl, _⟩ := h
    rfl
  · obtain ⟨a, ns, rfl, hS, hn, q⟩ := h
    have S : Script K H a := ⟨ns, hS, hn⟩
    refine ⟨_, qss_cons (qs_set (i := 1) sc_law.nd rfl (Or.inl rfl) (qe_fn C__law_names (hr.mono (by decide)) (qa_cons (qe_fn C__law_cell (hr.mono (by decide)) (qa_cons (qv 0) (qa_cons (qe_int) qa_nil))) (qa_cons (qe_fn C__law_cell (hr.mono (by decide)) (qa_cons (qv 0) (qa_cons (qe_int) qa_nil))) qa_nil))))
      (qss_cons (qs_set (i := 2) sc_law.nd rfl (Or.inl rfl) (qe_fn C__law_tree (hr.mono (by decide)) (qa_cons (qe_slice (k_slB K) (qv 0) (qo_some (qe_int)) (qo_some (qe_int))) (qa_cons (qv 1) qa_nil))))
      (qss_cons (qs_set (i := 3) sc_law.nd rfl (Or.inl rfl) (qe_fn C__law_cell (hr.mono (by decide)) (qa_cons (qv 0) (qa_cons (qe_int) qa_nil))))
      (qss_cons (qs_for PassesOwn.never rfl (qi_anyK K (qe_fn C__law_scopes (hr.mono (by decide)) (qa_cons (qv 2) qa_nil))) (qg_tupK K (n := 3) rfl (qgs_cons (qg_name (i := 4) sc_law.nd rfl (Or.inl rfl)) (qgs_cons (qg_name (i := 5) sc_law.nd rfl (Or.inl rfl)) (qgs_cons (qg_name (i := 6) sc_law.nd rfl (Or.inl rfl)) (qgs_nil))))) (qss_one (qs_if (qt_not (qt_val (qe_fn C__law_good (hr.mono (by decide)) (qa_cons (qv 2) (qa_cons (qv 4) (qa_cons (qv 6) (qa_cons (qe_op (k_add K) (qv 1) (qe_lst (qa_cons (qe_str) qa_nil))) qa_nil))))))) (qss_one (qs_ret (qe_bl))) (qss_nil))))
      (qss_cons (qs_for PassesOwn.never rfl (qi_range1 rfl T.range (qa_cons (qe_op op_mulA (qe_callTy k_int (by rfl) T.int (by decide +kernel) (qa_cons (qe_cmpR (k_eq K hr.u200) (qe_op op_mod (qe_op op_fdiv (qv 3) (qe_int)) (qe_int)) (qe_int) (nomark _)) qa_nil)) (qe_op op_mod (qe_op op_fdiv (qv 3) (qe_int)) (qe_int))) qa_nil)) (qg_name (i := 7) sc_law.nd rfl (Or.inl rfl)) (qss_one (qs_set (i := 2) sc_law.nd rfl (Or.inl rfl) (qe_ix (k_ix K) (qe_lst (qa_cons (qe_tup (qa_cons (qe_str) (qa_cons (qe_ix (k_ix K) (qv 1) (qe_op op_mod (qv 7) (qe_int)) (fun _ _ => rfl)) (qa_cons (qe_tup (qa_cons (qv 2) qa_nil)) qa_nil)))) (qa_cons (qe_tup (qa_cons (qe_str) (qa_cons (qe_tup (qa_cons (qe_ix (k_ix K) (qv 1) (qe_op op_mod (qv 7) (qe_int)) (fun _ _ => rfl)) (qa_cons (qe_ix (k_ix K) (qv 1) (qe_int) (fun _ _ => rfl)) qa_nil))) (qa_cons (qe_tup (qa_cons (qv 2) qa_nil)) qa_nil)))) qa_nil))) (qe_op op_mod (qv 7) (qe_int)) (fun _ _ => rfl)))))
      (qss_cons (qs_set (i := 8) sc_law.nd rfl (Or.inl rfl) (qe_fn C__law_scopes (hr.mono (by decide)) (qa_cons (qv 2) qa_nil)))
      (qss_cons (qs_asg (qe_ix (k_ix K) (qv 8) (qe_op op_mod (qe_op op_mod (qe_op op_mulA (qv 3) (qe_int)) (qe_int)) (qe_callB (k_len K) (by rfl) T.len (by decide +kernel) (qa_cons (qv 8) qa_nil))) (fun _ _ => rfl)) (qg_tupK K (n := 3) rfl (qgs_cons (qg_name (i := 4) sc_law.nd rfl (Or.inl rfl)) (qgs_cons (qg_name (i := 5) sc_law.nd rfl (Or.inl rfl)) (qgs_cons (qg_name (i := 6) sc_law.nd rfl (Or.inl rfl)) (qgs_nil))))))
      (qss_cons (qs_set (i := 9) sc_law.nd rfl (Or.inl rfl) (qe_ix (k_ix K) (qe_lst (qa_cons (qe_op (k_add K) (qe_callB (k_len K) (by rfl) T.len (by decide +kernel) (qa_cons (qe_ix (k_ix K) (qv 5) (qe_int) (fun _ _ => rfl)) qa_nil)) (qe_op op_mod (qe_op op_fdiv (qv 3) (qe_int)) (qe_op op_pow (qe_int) (qe_int)))) (qa_cons (qe_op op_sub (qe_un un_neg (qe_int)) (qe_op op_mod (qe_op op_fdiv (qv 3) (qe_int)) (qe_int))) qa_nil))) (qe_op op_mod (qe_op op_fdiv (qv 3) (qe_int)) (qe_int)) (fun _ _ => rfl)))
      (qss_cons (qs_set (i := 10) sc_law.nd rfl (Or.inl rfl) (qe_op (k_add K) (qv 4) (qe_tup (qa_cons (qv 9) qa_nil))))
      (qss_cons (qs_set (i := 11) sc_law.nd rfl (Or.inl rfl) (qe_non))
      (qss_cons (qs_if (qt_cmpR op_gt (qe_callB (k_len K) (by rfl) T.len (by decide +kernel) (qa_cons (qv 6) qa_nil)) (qe_int) (nomark _)) (qss_one (qs_set (i := 11) sc_law.nd rfl (Or.inl rfl) (qe_op op_mod (qe_op op_fdiv (qv 3) (qe_int)) (qe_callB (k_len K) (by rfl) T.len (by decide +kernel) (qa_cons (qv 6) qa_nil))))) (qss_nil))
      (qss_cons (qs_if (QW.qt (qw_or (qt_not (qt_val (qe_fn C__law_refused (hr.mono (by decide)) (qa_cons (qv 2) (qa_cons (qv 10) (qa_cons (qe_ix (k_ix K) (qv 1) (qe_int) (fun _ _ => rfl)) (qa_cons (qv 11) qa_nil))))))) (qw_or1 (qt_not (qt_val (qe_fn C__law_refused (hr.mono (by decide)) (qa_cons (qv 2) (qa_cons (qe_op (k_add K) (qv 10) (qe_tup (qa_cons (qe_int) qa_nil))) (qa_cons (qe_ix (k_ix K) (qv 1) (qe_int) (fun _ _ => rfl)) (qa_cons (qv 11) qa_nil)))))))))) (qss_one (qs_ret (qe_bl))) (qss_nil))
      (qss_one (qs_ret (qe_fn C__law_good (hr.mono (by decide)) (qa_cons (qv 2) (qa_cons (qv 4) (qa_cons (qv 6) (qa_cons (qv 1) qa_nil)))))))))))))))))), ?_⟩
    have bg := big
    walk_at "r"
    refine ⟨a, 0, rfl, S, by decide, fun z0 => ?_⟩
    walk_at "r"
    refine ⟨a, 1, rfl, S, by decide, fun z1 => ?_⟩
    walk_at "r"
    refine ⟨z0, z1, rfl, fun p t0 t1 t2 H1 s1 hp0 hp => ?_⟩
    walk_at "r"
    refine s_slb_lst (s1.seq hS) fun pc hpc => ?_
    obtain ⟨ms, hm, hml⟩ := cut_ints ns (some 3) (some 15)
    rw [hm]
    have s2 : Same H1 (upd H1 pc (.lst (ms.map V.int))) := Same.upd hpc
    have e2 : upd H1 pc (.lst (ms.map V.int)) pc = some (.lst (ms.map V.int)) := upd_same
    revert s2 e2
    generalize upd H1 pc (.lst (ms.map V.int)) = H2
    intro s2 e2
    walk_at "r"
    refine ⟨pc, p, ms, t0, t1, t2, rfl, SqL.of e2, by omega, SqL.of (s2 _ _ hp), fun tv t H3 s3 htv hts htz => ?_⟩
    have sm3 := s1.trans (s2.trans s3)
    have hp3 := (s2.trans s3) _ _ hp
    walk_at "r"
    refine ⟨a, 2, rfl, S.same sm3, by decide, fun c => ?_⟩
    walk_at "r"
    refine ⟨tv, t, rfl, htv, hts, by omega, fun pr rows H4 s4 hpr er al => ?_⟩
    refine .inl ⟨pr, rfl, ⟨_, SqL.of er⟩, ?_⟩
    have hp4 := s4 _ _ hp3
    refine for_list (K := K) (a := pr) (xs := rows) (fun i σ' H' => ∃ w4 w5 w6, σ' = [some (.ref a), some (.ref p), some tv, some (.int c), w4, w5, w6, none, none, none, none, none] ∧ Same H4 H') ⟨none, none, none, rfl, Same.refl _⟩ ?_ ?_ ?_
    · rintro i σ' H' _ ⟨_, _, _, _, sm⟩
      exact SqL.of (sm _ _ er)
    · rintro i x σ' H' hx ⟨w4, w5, w6, rfl, sm⟩
      obtain ⟨ra, rp, ab, u, bs, pl, tx, rfl, g1, g2, g3, g4, g5, g6, g7, g8⟩ := sc_row al (by omega) hx
      walk_at "r"
      refine s_gtup (sm.tup g1) rfl ?_
      walk_at "r"
      refine ⟨by show 1 ≤ sizeLine; decide, fun lz hlz => ?_⟩
      refine s_add_lst ((sm.put hlz) _ _ hp4) upd_same (by simp; omega) fun nl hnl => ?_
      have s5 := (Same.upd (o := .lst [.str "zz"]) hlz).put (o := .lst ([.str t0, .str t1, .str t2] ++ [.str "zz"])) hnl
      have e5 : upd (upd H' lz (.lst [.str "zz"])) nl (.lst ([.str t0, .str t1, .str t2] ++ [.str "zz"])) nl = some (.lst ([t0, t1, t2, "zz"].map V.str)) := upd_same
      revert s5 e5
      generalize upd (upd H' lz (.lst [.str "zz"])) nl (.lst ([.str t0, .str t1, .str t2] ++ [.str "zz"])) = H5
      intro s5 e5
      have s45 := sm.trans s5
      walk_at "r"
      refine ⟨tv, t, rp, ab, nl, pl, bs, _, rfl, htv.same (s4.trans s45), hts, s45.tup g2, g6, by omega, s45 _ _ g4, g5.mono (BdAt.same s45.t), e5, by simp, by simp, fun H6 s6 => ?_⟩
      walk_at "r"
      exact ⟨_, _, _, rfl, s45.trans s6⟩
    rintro σ' H4' ⟨w4, w5, w6, rfl, sm4⟩
    walk_at "r"
    have hc20 : (0 : Int) ≤ c / 20 % 21 := Int.emod_nonneg _ (by decide)
    have hc21 : c / 20 % 21 < 21 := Int.emod_lt_of_pos _ (by decide)
    refine s_mul_r (by omega) (by omega) ?_
    obtain ⟨mm, hmm, hm0, hm1⟩ : ∃ mm : Int, (if decide (V.int (c / 5 % 4) = V.int 0) = true then (1 : Int) else 0) * (c / 20 % 21) = mm ∧ 0 ≤ mm ∧ mm < 21 := by
      refine ⟨_, rfl, ?_, ?_⟩ <;> split <;> omega
    rw [hmm]
    walk_at "r"
    refine ⟨by omega, by omega, ?_⟩
    have s44 := s4.trans sm4
    have hp4' := sm4 _ _ hp4
    have htv4 := htv.same s44
    refine for_range (n := mm.toNat) (fun i σ' H' => ∃ (w7 : Option V) (tv' : V) (t' : Tr), σ' = [some (.ref a), some (.ref p), some tv', some (.int c), w4, w5, w6, w7, none, none, none, none] ∧ TrAt K H' tv' t' ∧ TrSh t' ∧ t'.size ≤ 320 + i ∧ Same H4' H') ⟨none, tv, t, rfl, htv4, hts, by omega, Same.refl _⟩ ?_ ?_
    · rintro i σ' H' hi ⟨w7, tv', t', rfl, htv', hts', hz', sm⟩
      have hp5 := sm _ _ hp4'
      have i3 : (0 : Int) ≤ (0 + (i : Int)) % 3 := Int.emod_nonneg _ (by decide)
      have i3' : (0 + (i : Int)) % 3 < 3 := Int.emod_lt_of_pos _ (by decide)
      obtain ⟨v3, hv3, hm3⟩ := atI_in (xs := [V.str t0, V.str t1, V.str t2]) (i := (0 + (i : Int)) % 3) i3 i3'
      obtain ⟨tt, rfl⟩ : ∃ tt : Str, v3 = .str tt := by
        simp only [List.mem_cons, List.not_mem_nil, or_false] at hm3
        rcases hm3 with rfl | rfl | rfl <;> exact ⟨_, rfl⟩
      walk_at "r"
      refine s_ix_lst (SqL.of hp5) hv3 ?_
      walk_at "r"
      refine ⟨by show 1 ≤ sizeLine; decide, fun p5 h5 => ?_⟩
      walk_at "r"
      refine ⟨by show 3 ≤ sizeLine; decide, fun p6 h6 => ?_⟩
      have x6 := (Same.upd (o := .tup [tv']) h5).put (o := .tup [.str "fn", .str tt, .ref p5]) h6
      have f5 := Same.upd (o := .tup [.str "fn", .str tt, .ref p5]) h6 p5 _ (upd_same (H := H') (o := .tup [tv']))
      have f6 : upd (upd H' p5 (.tup [tv'])) p6 (.tup [.str "fn", .str tt, .ref p5]) p6 = some (.tup [.str "fn", .str tt, .ref p5]) := upd_same
      revert x6 f5 f6
      generalize upd (upd H' p5 (.tup [tv'])) p6 (.tup [.str "fn", .str tt, .ref p5]) = G6
      intro x6 f5 f6
      walk_at "r"
      refine s_ix_lst (SqL.of (x6 _ _ hp5)) hv3 ?_
      walk_at "r"
      refine s_ix_lst (v := .str t1) (SqL.of (x6 _ _ hp5)) (atI_ok 1 rfl rfl) ?_
      walk_at "r"
      refine ⟨by show 2 ≤ sizeLine; decide, fun p7 h7 => ?_⟩
      walk_at "r"
      refine ⟨by show 1 ≤ sizeLine; decide, fun p8 h8 => ?_⟩
      walk_at "r"
      refine ⟨by show 3 ≤ sizeLine; decide, fun p9 h9 => ?_⟩
      walk_at "r"
      refine ⟨by show 2 ≤ sizeLine; decide, fun p10 h10 => ?_⟩
      have x10 := Same.upd (o := .lst [.ref p6, .ref p9]) h10
      have x9 := (Same.upd (o := .tup [.str "rec", .ref p7, .ref p8]) h9).trans x10
      have x8 := (Same.upd (o := .tup [tv']) h8).trans x9
      have x7 := (Same.upd (o := .tup [.str tt, .str t1]) h7).trans x8
      have f7 := x8 p7 _ upd_same
      have f8 := x9 p8 _ upd_same
      have f9 := x10 p9 _ upd_same
      have f10 : upd (upd (upd (upd G6 p7 (.tup [.str tt, .str t1])) p8 (.tup [tv'])) p9 (.tup [.str "rec", .ref p7, .ref p8])) p10 (.lst [.ref p6, .ref p9]) p10 = some (.lst [.ref p6, .ref p9]) := upd_same
      have x := x6.trans x7
      have g5 := x7 _ _ f5
      have g6 := x7 _ _ f6
      clear x10 x9 x8 x7
      revert f7 f8 f9 f10 x g5 g6
      generalize upd (upd (upd (upd G6 p7 (.tup [.str tt, .str t1])) p8 (.tup [tv'])) p9 (.tup [.str "rec", .ref p7, .ref p8])) p10 (.lst [.ref p6, .ref p9]) = G10
      intro f7 f8 f9 f10 x g5 g6
      walk_at "r"
      have i2 : (0 : Int) ≤ (0 + (i : Int)) % 2 := Int.emod_nonneg _ (by decide)
      have i2' : (0 + (i : Int)) % 2 < 2 := Int.emod_lt_of_pos _ (by decide)
      obtain ⟨v2, hv2, hm2⟩ := atI_in (xs := [V.ref p6, V.ref p9]) (i := (0 + (i : Int)) % 2) i2 i2'
      refine s_ix_lst (SqL.of f10) hv2 ?_
      walk_at "r"
      have one : ∀ (b : Addr), SqT K G10 b [tv'] → ∀ (j : Nat) (v : V) (y : Tr), [tv'][j]? = some v → [t'][j]? = some y → TrAt K G10 v y := fun b _ j v y h1 h2 => by
        match j, h1, h2 with
        | 0, h1, h2 => cases h1; cases h2; exact htv'.same x
      have hsz : ∀ w n, (Tr.mk w n [t']).size ≤ 320 + (i + 1) := fun w n => by
        rw [Tr.size_eq]
        show 1 + sizes [t'] ≤ _
        rw [sizes, sizes]
        omega
      simp only [List.mem_cons, List.not_mem_nil, or_false] at hm2
      rcases hm2 with rfl | rfl
      · refine ⟨_, _, .mk "fn" (.flat (.str tt)) [t'], rfl, .mk (SqT.of g6) (.inl ⟨rfl, rfl⟩) (SqT.of g5) rfl (one p5 (SqT.of g5)), .mk ⟨fun _ => ⟨tt, rfl⟩, fun h => absurd h (by decide +kernel)⟩ (fun y hy => by rw [List.mem_singleton.mp hy]; exact hts'), hsz _ _, sm.trans x⟩
      · refine ⟨_, _, .mk "rec" (.tup [.flat (.str tt), .flat (.str t1)]) [t'], rfl, .mk (SqT.of f9) (.inr ⟨p7, [.str tt, .str t1], rfl, SqT.of f7, rfl, rfl⟩) (SqT.of f8) rfl (one p8 (SqT.of f8)), .mk ⟨fun h => by rcases h with h | h | h <;> exact absurd h (by decide +kernel), fun _ => ⟨tt, t1, rfl⟩⟩ (fun y hy => by rw [List.mem_singleton.mp hy]; exact hts'), hsz _ _, sm.trans x⟩
    rintro σ' H5 ⟨w7, tv', t', rfl, htv', hts', hz', sm5⟩
    walk_at "r"
    refine ⟨tv', t', rfl, htv', hts', by omega, fun pr6 rows6 H6 m6 hpr6 er6 al6 => ?_⟩
    have hp6 := m6 _ _ (sm5 _ _ hp4')
    have wl := walk_len [] t'
    have hpos : 1 ≤ t'.size := by rw [t'.size_eq]; omega
    have hrl : (rows6.length : Int) = (t'.size : Int) := by rw [al6.1, wl]
    walk_at "r"
    refine s_len_lst (SqL.of er6) ?_
    refine s_rI (by show (0 : Int) < (rows6.length : Int); omega) ?_
    obtain ⟨v0, hv0, m0⟩ := atI_in (xs := rows6) (i := c * 7919 % 10007 % (rows6.length : Int)) (Int.emod_nonneg _ (by omega)) (Int.emod_lt_of_pos _ (by omega))
    obtain ⟨j0, hj0⟩ := List.mem_iff_getElem?.mp m0
    obtain ⟨ra, rp, ab, u, bs, pl, tx, rfl, g1, g2, g3, g4, g5, g6, g7, g8⟩ := sc_row al6 (by omega) hj0
    refine s_ix_lst (SqL.of er6) hv0 ?_
    walk_at "r"
    refine s_gtup g1 rfl ?_
    have hbl := bn_len g6
    have hbs : bs.length = (bn t' pl).length := g5.1
    cases g3 with
    | @mk b pp wd nv n us ts qb hnn qp l hch =>
    walk_at "r"
    refine s_ix_tup qb rfl ?_
    walk_at "r"
    refine s_len_tup qp ?_
    walk_at "r"
    refine ⟨by show 2 ≤ sizeLine; decide, fun p7 h7 => ?_⟩
    have hA : (0 : Int) ≤ c / 7 % 10 ^ Int.toNat 18 := Int.emod_nonneg _ (by decide)
    have hB : (0 : Int) ≤ c / 7 % 1000 := Int.emod_nonneg _ (by decide)
    generalize c / 7 % 10 ^ Int.toNat 18 = zA at hA ⊢
    generalize c / 7 % 1000 = zB at hB ⊢
    have s7 := Same.upd (o := .lst [V.int (↑us.length + zA), V.int (-1 - zB)]) h7
    have e7 : upd H6 p7 (.lst [V.int (↑us.length + zA), V.int (-1 - zB)]) p7 = some (.lst [V.int (↑us.length + zA), V.int (-1 - zB)]) := upd_same
    revert s7 e7
    generalize upd H6 p7 (.lst [V.int (↑us.length + zA), V.int (-1 - zB)]) = H7
    intro s7 e7
    walk_at "r"
    obtain ⟨vf, hvf, hmf⟩ := atI_in (xs := [V.int ((us.length : Int) + zA), V.int (-1 - zB)]) (i := c / 3 % 2) (Int.emod_nonneg _ (by decide)) (Int.emod_lt_of_pos _ (by decide))
    obtain ⟨far, rfl, hbad⟩ : ∃ far : Int, vf = .int far ∧ Bad t' pl far := by
      simp only [List.mem_cons, List.not_mem_nil, or_false] at hmf
      rcases hmf with rfl | rfl
      · exact ⟨_, rfl, g6, wd, n, ts, g8, fun h => by omega⟩
      · exact ⟨_, rfl, g6, wd, n, ts, g8, fun h => by omega⟩
    refine s_ix_lst (SqL.of e7) hvf ?_
    walk_at "r"
    refine ⟨by show 1 ≤ sizeLine; decide, fun p8 h8 => ?_⟩
    refine s_add_tup ((s7.put (o := .tup [.int far]) h8).tup g2) (SqT.of upd_same) (by rw [plV_len]; simp; omega) fun r9 H9 s9 q9 => ?_
    have q9 : SqT K H9 r9 (badV pl far []) := q9
    have m9 : Same H6 H9 := s7.trans ((Same.upd (o := .tup [.int far]) h8).trans s9)
    walk_at "r"
    refine s_len_lst (SqL.of (m9 _ _ g4)) ?_
    walk_at "r"
    refine ite2 (fun c1 => ?_) (fun c1 => ?_)
    · have c1 : (0 : Int) < (bs.length : Int) := by simpa using c1
      walk_at "r"
      refine s_len_lst (SqL.of (m9 _ _ g4)) ?_
      refine s_rI c1 ?_
      walk_at "r"
      refine s_ix_lst (v := .str t0) (SqL.of (m9 _ _ hp6)) (atI_ok 0 rfl rfl) ?_
      walk_at "r"
      refine ⟨tv', t', r9, pl, far, [], t0, _, rfl, htv'.same (m6.trans m9), q9, hbad, by omega, (fun v h => nomatch h), .inr ⟨_, rfl⟩, fun H10 s10 => ?_⟩
      walk_at "r"
      refine ⟨by show 1 ≤ sizeLine; decide, fun p11 h11 => ?_⟩
      refine s_add_tup ((s10.put (o := .tup [.int 0]) h11).tup q9) (SqT.of upd_same) (by unfold badV; rw [List.length_append, plV_len]; simp; omega) fun r12 H12 s12 q12 => ?_
      have q12' : SqT K H12 r12 (badV pl far [.int 0]) := by
        have e : badV pl far [] ++ [V.int 0] = badV pl far [.int 0] := by unfold badV; simp
        rw [← e]; exact q12
      have m12 := m9.trans (s10.trans ((Same.upd (o := .tup [.int 0]) h11).trans s12))
      walk_at "r"
      refine s_ix_lst (v := .str t1) (SqL.of (m12 _ _ hp6)) (atI_ok 1 rfl rfl) ?_
      walk_at "r"
      refine ⟨tv', t', r12, pl, far, [.int 0], t1, _, rfl, htv'.same (m6.trans m12), q12', hbad, by omega, (fun v h => ⟨0, by simpa using h⟩), .inr ⟨_, rfl⟩, fun H13 s13 => ?_⟩
      walk_at "r"
      have m13 := m12.trans s13
      exact ⟨tv', t', rp, ab, p, pl, bs, [t0, t1, t2], rfl, htv'.same (m6.trans m13), hts', m13.tup g2, g6, by omega, m13 _ _ g4, g5.mono (BdAt.same m13.t), m13 _ _ hp6, by simp, by simp, fun H14 _ => q H14⟩
    · walk_at "r"
      refine s_ix_lst (v := .str t0) (SqL.of (m9 _ _ hp6)) (atI_ok 0 rfl rfl) ?_
      walk_at "r"
      refine ⟨tv', t', r9, pl, far, [], t0, _, rfl, htv'.same (m6.trans m9), q9, hbad, by omega, (fun v h => nomatch h), .inl rfl, fun H10 s10 => ?_⟩
      walk_at "r"
      refine ⟨by show 1 ≤ sizeLine; decide, fun p11 h11 => ?_⟩
      refine s_add_tup ((s10.put (o := .tup [.int 0]) h11).tup q9) (SqT.of upd_same) (by unfold badV; rw [List.length_append, plV_len]; simp; omega) fun r12 H12 s12 q12 => ?_
      have q12' : SqT K H12 r12 (badV pl far [.int 0]) := by
        have e : badV pl far [] ++ [V.int 0] = badV pl far [.int 0] := by unfold badV; simp
        rw [← e]; exact q12
      have m12 := m9.trans (s10.trans ((Same.upd (o := .tup [.int 0]) h11).trans s12))
      walk_at "r"
      refine s_ix_lst (v := .str t1) (SqL.of (m12 _ _ hp6)) (atI_ok 1 rfl rfl) ?_
      walk_at "r"
      refine ⟨tv', t', r12, pl, far, [.int 0], t1, _, rfl, htv'.same (m6.trans m12), q12', hbad, by omega, (fun v h => ⟨0, by simpa using h⟩), .inl rfl, fun H13 s13 => ?_⟩
      walk_at "r"
      have m13 := m12.trans s13
      exact ⟨tv', t', rp, ab, p, pl, bs, [t0, t1, t2], rfl, htv'.same (m6.trans m13), hts', m13.tup g2, g6, by omega, m13 _ _ g4, g5.mono (BdAt.same m13.t), m13 _ _ hp6, by simp, by simp, fun H14 _ => q H14⟩
end
end K17

set_option Elab.async false
set_option linter.all false
set_option maxRecDepth 100000
set_option maxHeartbeats 8000000
namespace K17
open PySem L2 K19
abbrev spLaw := sp_law
theorem tail_GE {K : PySem.W.Frag} {GE : Addr} {ddG : Option Addr} {cdG : ClassData} {slG : Array (Option Value)} {cG : Value} (ho : K.lookup GE = some ⟨cG, ddG, .cls cdG, slG⟩) (hok : PySem.W.nsOkIn K cdG.ns = true) (hni : PySem.W.nsIn K cdG.ns "__init__" = some none) : PySem.W.tailIn K VE (.ref GE :: VE) = true ∧ (PySem.W.clsIn K GE).isSome = true := by
  have e : PySem.W.tailIn K VE VE = true := by unfold PySem.W.tailIn; rfl
  refine ⟨?_, by unfold PySem.W.clsIn; rw [ho]; rfl⟩
  unfold PySem.W.tailIn
  dsimp only
  rw [ho]
  dsimp only
  rw [hok, hni, e]
  simp
theorem excI_mk {K : PySem.W.Frag} {C GE : Addr} {ddC : Option Addr} {cdC : ClassData} {slC : Array (Option Value)} {k0 k1 k2 k3 k5 : Option Value} (hC : K.lookup C = some ⟨.type "type", ddC, .cls cdC, slC⟩) (hm : cdC.mro = .ref C :: .ref GE :: VE) (hs : slC.toList = [k0, k1, k2, k3, some (.builtin "ValueError.__new__"), k5]) (hd : cdC.hasDel = false) (h : PySem.W.tailIn K VE (.ref GE :: VE) = true) : excI K C = true ∧ ((PySem.W.clsIn K C).any fun cd => overVE cd.mro) = true := by
  refine ⟨?_, ?_⟩
  · unfold excI
    rw [hC]
    simp only [hm, hs]
    rw [hd, h]
    simp
  · unfold PySem.W.clsIn
    rw [hC]
    dsimp only
    show overVE cdC.mro = true
    rw [hm]
    show overVE VE = true
    decide
theorem all_mk {l : PySem.W.OpenLaw} {w : World} {K : PySem.W.Frag} {h : Heap} {mg : Str → Option Value} {fa f1 f2 f3 f4 f5 f6 f7 f8 f9 f10 f11 f12 f13 f14 f15 f16 f17 f18 f19 f20 f21 f22 : Addr} (X : K.In h) (G : h.Ns mainGlobals mg) (hfa : mg "law" = some (.ref fa))
    {od1 an1 od2 an2 od3 an3 od4 an4 od5 an5 od6 an6 od7 an7 od8 an8 od9 an9 od10 an10 od11 an11 od12 an12 od13 an13 od14 an14 od15 an15 od16 an16 od17 an17 od18 an18 od19 an19 od20 an20 od21 an21 od22 an22 : Option Addr}
    {sl1 sl2 sl3 sl4 sl5 sl6 sl7 sl8 sl9 sl10 sl11 sl12 sl13 sl14 sl15 sl16 sl17 sl18 sl19 sl20 sl21 sl22 : Array (Option Value)}
    {oc1 kV1 dc1 pm1 cd1 ct1 oc2 kV2 dc2 pm2 cd2 ct2 oc3 kV3 dc3 pm3 cd3 ct3 oc4 kV4 dc4 pm4 cd4 ct4 oc5 kV5 dc5 pm5 cd5 ct5 oc6 kV6 dc6 pm6 cd6 ct6 oc7 kV7 dc7 pm7 cd7 ct7 oc8 kV8 dc8 pm8 cd8 ct8 oc9 kV9 dc9 pm9 cd9 ct9 oc10 kV10 dc10 pm10 cd10 ct10 oc11 kV11 dc11 pm11 cd11 ct11 oc12 kV12 dc12 pm12 cd12 ct12 oc13 kV13 dc13 pm13 cd13 ct13 oc14 kV14 dc14 pm14 cd14 ct14 oc15 kV15 dc15 pm15 cd15 ct15 oc16 kV16 dc16 pm16 cd16 ct16 oc17 kV17 dc17 pm17 cd17 ct17 oc18 kV18 dc18 pm18 cd18 ct18 oc19 kV19 dc19 pm19 cd19 ct19 oc20 kV20 dc20 pm20 cd20 ct20 oc21 kV21 dc21 pm21 cd21 ct21 oc22 kV22 dc22 pm22 cd22 ct22 : Value}
    (a1 : PySem.W.nsIn K mainGlobals "is_whole" = some (some (.ref f1))) (l1 : K.lookup f1 = some ⟨oc1, od1, .func (PySem.W.fnOf "is_whole" "is_whole" (defArgs s_is_whole) (defBody s_is_whole) (defScope s_is_whole) .none kV1 dc1 pm1 an1 cd1 ct1), sl1⟩) (c1 : PySem.W.codeIn K cd1 "is_whole" = true) (k1 : PySem.W.keepIn K (.ref f1) = true)
    (a2 : PySem.W.nsIn K mainGlobals "has_part" = some (some (.ref f2))) (l2 : K.lookup f2 = some ⟨oc2, od2, .func (PySem.W.fnOf "has_part" "has_part" (defArgs s_has_part) (defBody s_has_part) (defScope s_has_part) .none kV2 dc2 pm2 an2 cd2 ct2), sl2⟩) (c2 : PySem.W.codeIn K cd2 "has_part" = true) (k2 : PySem.W.keepIn K (.ref f2) = true)
    (a3 : PySem.W.nsIn K mainGlobals "forms_down_to" = some (some (.ref f3))) (l3 : K.lookup f3 = some ⟨oc3, od3, .func (PySem.W.fnOf "forms_down_to" "forms_down_to" (defArgs s_forms_down_to) (defBody s_forms_down_to) (defScope s_forms_down_to) .none kV3 dc3 pm3 an3 cd3 ct3), sl3⟩) (c3 : PySem.W.codeIn K cd3 "forms_down_to" = true) (k3 : PySem.W.keepIn K (.ref f3) = true)
    (a4 : PySem.W.nsIn K mainGlobals "names_bound" = some (some (.ref f4))) (l4 : K.lookup f4 = some ⟨oc4, od4, .func (PySem.W.fnOf "names_bound" "names_bound" (defArgs s_names_bound) (defBody s_names_bound) (defScope s_names_bound) .none kV4 dc4 pm4 an4 cd4 ct4), sl4⟩) (c4 : PySem.W.codeIn K cd4 "names_bound" = true) (k4 : PySem.W.keepIn K (.ref f4) = true)
    (a5 : PySem.W.nsIn K mainGlobals "bindings_at" = some (some (.ref f5))) (l5 : K.lookup f5 = some ⟨oc5, od5, .func (PySem.W.fnOf "bindings_at" "bindings_at" (defArgs s_bindings_at) (defBody s_bindings_at) (defScope s_bindings_at) .none kV5 dc5 pm5 an5 cd5 ct5), sl5⟩) (c5 : PySem.W.codeIn K cd5 "bindings_at" = true) (k5 : PySem.W.keepIn K (.ref f5) = true)
    (a6 : PySem.W.nsIn K mainGlobals "names_at" = some (some (.ref f6))) (l6 : K.lookup f6 = some ⟨oc6, od6, .func (PySem.W.fnOf "names_at" "names_at" (defArgs s_names_at) (defBody s_names_at) (defScope s_names_at) .none kV6 dc6 pm6 an6 cd6 ct6), sl6⟩) (c6 : PySem.W.codeIn K cd6 "names_at" = true) (k6 : PySem.W.keepIn K (.ref f6) = true)
    (a7 : PySem.W.nsIn K mainGlobals "binding_at" = some (some (.ref f7))) (l7 : K.lookup f7 = some ⟨oc7, od7, .func (PySem.W.fnOf "binding_at" "binding_at" (defArgs s_binding_at) (defBody s_binding_at) (defScope s_binding_at) .none kV7 dc7 pm7 an7 cd7 ct7), sl7⟩) (c7 : PySem.W.codeIn K cd7 "binding_at" = true) (k7 : PySem.W.keepIn K (.ref f7) = true)
    (a8 : PySem.W.nsIn K mainGlobals "binder" = some (some (.ref f8))) (l8 : K.lookup f8 = some ⟨oc8, od8, .func (PySem.W.fnOf "binder" "binder" (defArgs s_binder) (defBody s_binder) (defScope s_binder) .none kV8 dc8 pm8 an8 cd8 ct8), sl8⟩) (c8 : PySem.W.codeIn K cd8 "binder" = true) (k8 : PySem.W.keepIn K (.ref f8) = true)
    (a9 : PySem.W.nsIn K mainGlobals "_law_cell" = some (some (.ref f9))) (l9 : K.lookup f9 = some ⟨oc9, od9, .func (PySem.W.fnOf "_law_cell" "_law_cell" (defArgs s_law_cell) (defBody s_law_cell) (defScope s_law_cell) .none kV9 dc9 pm9 an9 cd9 ct9), sl9⟩) (c9 : PySem.W.codeIn K cd9 "_law_cell" = true) (k9 : PySem.W.keepIn K (.ref f9) = true)
    (a10 : PySem.W.nsIn K mainGlobals "_law_names" = some (some (.ref f10))) (l10 : K.lookup f10 = some ⟨oc10, od10, .func (PySem.W.fnOf "_law_names" "_law_names" (defArgs s_law_names) (defBody s_law_names) (defScope s_law_names) .none kV10 dc10 pm10 an10 cd10 ct10), sl10⟩) (c10 : PySem.W.codeIn K cd10 "_law_names" = true) (k10 : PySem.W.keepIn K (.ref f10) = true)
    (a11 : PySem.W.nsIn K mainGlobals "_law_odd" = some (some (.ref f11))) (l11 : K.lookup f11 = some ⟨oc11, od11, .func (PySem.W.fnOf "_law_odd" "_law_odd" (defArgs s_law_odd) (defBody s_law_odd) (defScope s_law_odd) .none kV11 dc11 pm11 an11 cd11 ct11), sl11⟩) (c11 : PySem.W.codeIn K cd11 "_law_odd" = true) (k11 : PySem.W.keepIn K (.ref f11) = true)
    (a12 : PySem.W.nsIn K mainGlobals "_law_number" = some (some (.ref f12))) (l12 : K.lookup f12 = some ⟨oc12, od12, .func (PySem.W.fnOf "_law_number" "_law_number" (defArgs s_law_number) (defBody s_law_number) (defScope s_law_number) .none kV12 dc12 pm12 an12 cd12 ct12), sl12⟩) (c12 : PySem.W.codeIn K cd12 "_law_number" = true) (k12 : PySem.W.keepIn K (.ref f12) = true)
    (a13 : PySem.W.nsIn K mainGlobals "_law_head" = some (some (.ref f13))) (l13 : K.lookup f13 = some ⟨oc13, od13, .func (PySem.W.fnOf "_law_head" "_law_head" (defArgs s_law_head) (defBody s_law_head) (defScope s_law_head) .none kV13 dc13 pm13 an13 cd13 ct13), sl13⟩) (c13 : PySem.W.codeIn K cd13 "_law_head" = true) (k13 : PySem.W.keepIn K (.ref f13) = true)
    (a14 : PySem.W.nsIn K mainGlobals "_law_many" = some (some (.ref f14))) (l14 : K.lookup f14 = some ⟨oc14, od14, .func (PySem.W.fnOf "_law_many" "_law_many" (defArgs s_law_many) (defBody s_law_many) (defScope s_law_many) .none kV14 dc14 pm14 an14 cd14 ct14), sl14⟩) (c14 : PySem.W.codeIn K cd14 "_law_many" = true) (k14 : PySem.W.keepIn K (.ref f14) = true)
    (a15 : PySem.W.nsIn K mainGlobals "_law_tree" = some (some (.ref f15))) (l15 : K.lookup f15 = some ⟨oc15, od15, .func (PySem.W.fnOf "_law_tree" "_law_tree" (defArgs s_law_tree) (defBody s_law_tree) (defScope s_law_tree) .none kV15 dc15 pm15 an15 cd15 ct15), sl15⟩) (c15 : PySem.W.codeIn K cd15 "_law_tree" = true) (k15 : PySem.W.keepIn K (.ref f15) = true)
    (a16 : PySem.W.nsIn K mainGlobals "_law_bound" = some (some (.ref f16))) (l16 : K.lookup f16 = some ⟨oc16, od16, .func (PySem.W.fnOf "_law_bound" "_law_bound" (defArgs s_law_bound) (defBody s_law_bound) (defScope s_law_bound) .none kV16 dc16 pm16 an16 cd16 ct16), sl16⟩) (c16 : PySem.W.codeIn K cd16 "_law_bound" = true) (k16 : PySem.W.keepIn K (.ref f16) = true)
    (a17 : PySem.W.nsIn K mainGlobals "_law_scopes" = some (some (.ref f17))) (l17 : K.lookup f17 = some ⟨oc17, od17, .func (PySem.W.fnOf "_law_scopes" "_law_scopes" (defArgs s_law_scopes) (defBody s_law_scopes) (defScope s_law_scopes) .none kV17 dc17 pm17 an17 cd17 ct17), sl17⟩) (c17 : PySem.W.codeIn K cd17 "_law_scopes" = true) (k17 : PySem.W.keepIn K (.ref f17) = true)
    (a18 : PySem.W.nsIn K mainGlobals "_law_last" = some (some (.ref f18))) (l18 : K.lookup f18 = some ⟨oc18, od18, .func (PySem.W.fnOf "_law_last" "_law_last" (defArgs s_law_last) (defBody s_law_last) (defScope s_law_last) .none kV18 dc18 pm18 an18 cd18 ct18), sl18⟩) (c18 : PySem.W.codeIn K cd18 "_law_last" = true) (k18 : PySem.W.keepIn K (.ref f18) = true)
    (a19 : PySem.W.nsIn K mainGlobals "_law_whole" = some (some (.ref f19))) (l19 : K.lookup f19 = some ⟨oc19, od19, .func (PySem.W.fnOf "_law_whole" "_law_whole" (defArgs s_law_whole) (defBody s_law_whole) (defScope s_law_whole) .none kV19 dc19 pm19 an19 cd19 ct19), sl19⟩) (c19 : PySem.W.codeIn K cd19 "_law_whole" = true) (k19 : PySem.W.keepIn K (.ref f19) = true)
    (a20 : PySem.W.nsIn K mainGlobals "_law_good" = some (some (.ref f20))) (l20 : K.lookup f20 = some ⟨oc20, od20, .func (PySem.W.fnOf "_law_good" "_law_good" (defArgs s_law_good) (defBody s_law_good) (defScope s_law_good) .none kV20 dc20 pm20 an20 cd20 ct20), sl20⟩) (c20 : PySem.W.codeIn K cd20 "_law_good" = true) (k20 : PySem.W.keepIn K (.ref f20) = true)
    (a21 : PySem.W.nsIn K mainGlobals "_law_refused" = some (some (.ref f21))) (l21 : K.lookup f21 = some ⟨oc21, od21, .func (PySem.W.fnOf "_law_refused" "_law_refused" (defArgs s_law_refused) (defBody s_law_refused) (defScope s_law_refused) .none kV21 dc21 pm21 an21 cd21 ct21), sl21⟩) (c21 : PySem.W.codeIn K cd21 "_law_refused" = true) (k21 : PySem.W.keepIn K (.ref f21) = true)
    (a22 : PySem.W.nsIn K mainGlobals "law" = some (some (.ref f22))) (l22 : K.lookup f22 = some ⟨oc22, od22, .func (PySem.W.fnOf "law" "law" (defArgs s_law) (defBody s_law) (defScope s_law) .none kV22 dc22 pm22 an22 cd22 ct22), sl22⟩) (c22 : PySem.W.codeIn K cd22 "law" = true) (k22 : PySem.W.keepIn K (.ref f22) = true)
    (z1 : PySem.W.nsIn K mainGlobals "isinstance" = some none)
    (z2 : PySem.W.nsIn K mainGlobals "int" = some none)
    (z3 : PySem.W.nsIn K mainGlobals "bool" = some none)
    (z4 : PySem.W.nsIn K mainGlobals "len" = some none)
    (z5 : PySem.W.nsIn K mainGlobals "list" = some none)
    (z6 : PySem.W.nsIn K mainGlobals "enumerate" = some none)
    (z7 : PySem.W.nsIn K mainGlobals "range" = some none)
    (z8 : PySem.W.nsIn K mainGlobals "tuple" = some none)
    {C GE fi : Addr} {odi ani ddC : Option Addr} {sli slC : Array (Option Value)} {oci kVi dci pmi cdi cti : Value} {cdC : ClassData} {j0 j1 j2 j3 j5 : Option Value}
    (x1 : PySem.W.nsIn K mainGlobals "NoPlace" = some (some (.ref C))) (x2 : PySem.W.nsIn K mainGlobals "GapError" = some (some (.ref GE)))
    (x3 : PySem.W.findIn K (.ref C) "__init__" = some (some (.ref fi))) (x4 : K.lookup fi = some ⟨oci, odi, .func (PySem.W.fnOf "__init__" "NoPlace.__init__" (defArgs s_init) (defBody s_init) (defScope s_init) .none kVi dci pmi ani cdi cti), sli⟩) (x5 : PySem.W.codeIn K cdi "NoPlace.__init__" = true) (x6 : PySem.W.keepIn K (.ref fi) = true)
    (x7 : K.lookup C = some ⟨.type "type", ddC, .cls cdC, slC⟩) (x8 : cdC.mro = .ref C :: .ref GE :: VE) (x9 : slC.toList = [j0, j1, j2, j3, some (.builtin "ValueError.__new__"), j5]) (x10 : cdC.hasDel = false)
    {cG : Value} {ddG : Option Addr} {cdG : ClassData} {slG : Array (Option Value)} (x11 : K.lookup GE = some ⟨cG, ddG, .cls cdG, slG⟩) {cN : Value} {ddN : Option Addr} {esN : Array DictEntry} {nN : Nat} {slN : Array (Option Value)} (x24 : K.lookup cdG.ns = some ⟨cN, ddN, .dict esN nN, slN⟩) (x26 : (esN.toList.all fun e => match e.key with | .str _ _ => true | _ => false) = true) (x25 : PySem.W.nsIn K cdG.ns "__init__" = some none) (x12 : PySem.W.isFn K (.ref fi) = true) (x13 : PySem.W.keepIn K (.ref C) = true) (x14 : PySem.W.subIn K (.ref C) (.type "BaseException") = some true) (x15 : PySem.W.typeIn K (.ref C) = some (.type "type"))
    (x16 : PySem.W.hasDictIn K C = true) (x17 : PySem.W.findIn K (.ref C) "__getattribute__" = some (some (.builtin "BaseException.__getattribute__"))) (x18 : PySem.W.findIn K (.ref C) "__getattr__" = some none) (x19 : PySem.W.findIn K (.ref C) "__setattr__" = some (some (.builtin "object.__setattr__")))
    (x20 : PySem.W.findIn K (.ref C) "place" = some none) (x21 : PySem.W.typeIn K (.ref GE) = some (.type "type")) (x22 : PySem.W.subIn K (.ref GE) (.type "BaseException") = some true) (x23 : PySem.W.subIn K (.ref C) (.ref GE) = some true) :
    ∃ fd : FuncData, (∀ (s : Shared) (v : Value), BindsTo s fd ⟨[v], []⟩ [("_law_script", v)]) ∧ ∀ base : Heap, K.In base → base.Ns mainGlobals mg → FnOk l.prog w K mg base CX0 8 fa fd ["_law_script"] (spLaw K) := by
  have e := hfa.symm.trans (PySem.W.mg_of X G a22)
  cases e
  have T : Txt K mg := { isinstance := PySem.W.mg_none_of X G z1, int := PySem.W.mg_none_of X G z2, bool := PySem.W.mg_none_of X G z3, len := PySem.W.mg_none_of X G z4, list := PySem.W.mg_none_of X G z5, enumerate := PySem.W.mg_none_of X G z6, range := PySem.W.mg_none_of X G z7, tuple := PySem.W.mg_none_of X G z8 }
  have F1 := fun_mk (st := s_is_whole) l1 c1 k1
  have b1 := F1.binds (ps := ["thing"]) fun _ _ _ _ _ _ us hl => match us, hl with | [_], _ => rfl
  have F2 := fun_mk (st := s_has_part) l2 c2 k2
  have b2 := F2.binds (ps := ["form", "number"]) fun _ _ _ _ _ _ us hl => match us, hl with | [_, _], _ => rfl
  have F3 := fun_mk (st := s_forms_down_to) l3 c3 k3
  have b3 := F3.binds (ps := ["tree", "place"]) fun _ _ _ _ _ _ us hl => match us, hl with | [_, _], _ => rfl
  have F4 := fun_mk (st := s_names_bound) l4 c4 k4
  have b4 := F4.binds (ps := ["form", "number"]) fun _ _ _ _ _ _ us hl => match us, hl with | [_, _], _ => rfl
  have F5 := fun_mk (st := s_bindings_at) l5 c5 k5
  have b5 := F5.binds (ps := ["tree", "place"]) fun _ _ _ _ _ _ us hl => match us, hl with | [_, _], _ => rfl
  have F6 := fun_mk (st := s_names_at) l6 c6 k6
  have b6 := F6.binds (ps := ["tree", "place"]) fun _ _ _ _ _ _ us hl => match us, hl with | [_, _], _ => rfl
  have F7 := fun_mk (st := s_binding_at) l7 c7 k7
  have b7 := F7.binds (ps := ["tree", "place", "name"]) fun _ _ _ _ _ _ us hl => match us, hl with | [_, _, _], _ => rfl
  have F8 := fun_mk (st := s_binder) l8 c8 k8
  have b8 := F8.binds (ps := ["tree", "place", "number"]) fun _ _ _ _ _ _ us hl => match us, hl with | [_, _, _], _ => rfl
  have F9 := fun_mk (st := s_law_cell) l9 c9 k9
  have b9 := F9.binds (ps := ["_law_script", "_law_k"]) fun _ _ _ _ _ _ us hl => match us, hl with | [_, _], _ => rfl
  have F10 := fun_mk (st := s_law_names) l10 c10 k10
  have b10 := F10.binds (ps := ["_law_one", "_law_other"]) fun _ _ _ _ _ _ us hl => match us, hl with | [_, _], _ => rfl
  have F11 := fun_mk (st := s_law_odd) l11 c11 k11
  have b11 := F11.binds (ps := ["_law_cell_here"]) fun _ _ _ _ _ _ us hl => match us, hl with | [_], _ => rfl
  have F12 := fun_mk (st := s_law_number) l12 c12 k12
  have b12 := F12.binds (ps := ["_law_cell_here"]) fun _ _ _ _ _ _ us hl => match us, hl with | [_], _ => rfl
  have F13 := fun_mk (st := s_law_head) l13 c13 k13
  have b13 := F13.binds (ps := ["_law_cell_here", "_law_names_here"]) fun _ _ _ _ _ _ us hl => match us, hl with | [_, _], _ => rfl
  have F14 := fun_mk (st := s_law_many) l14 c14 k14
  have b14 := F14.binds (ps := ["_law_word"]) fun _ _ _ _ _ _ us hl => match us, hl with | [_], _ => rfl
  have F15 := fun_mk (st := s_law_tree) l15 c15 k15
  have b15 := F15.binds (ps := ["_law_cells", "_law_names_here"]) fun _ _ _ _ _ _ us hl => match us, hl with | [_, _], _ => rfl
  have F16 := fun_mk (st := s_law_bound) l16 c16 k16
  have b16 := F16.binds (ps := ["_law_form", "_law_k"]) fun _ _ _ _ _ _ us hl => match us, hl with | [_, _], _ => rfl
  have F17 := fun_mk (st := s_law_scopes) l17 c17 k17
  have b17 := F17.binds (ps := ["_law_tree_here"]) fun _ _ _ _ _ _ us hl => match us, hl with | [_], _ => rfl
  have F18 := fun_mk (st := s_law_last) l18 c18 k18
  have b18 := F18.binds (ps := ["_law_above", "_law_name"]) fun _ _ _ _ _ _ us hl => match us, hl with | [_, _], _ => rfl
  have F19 := fun_mk (st := s_law_whole) l19 c19 k19
  have b19 := F19.binds (ps := ["_law_found"]) fun _ _ _ _ _ _ us hl => match us, hl with | [_], _ => rfl
  have F20 := fun_mk (st := s_law_good) l20 c20 k20
  have b20 := F20.binds (ps := ["_law_tree_here", "_law_place", "_law_above", "_law_names_here"]) fun _ _ _ _ _ _ us hl => match us, hl with | [_, _, _, _], _ => rfl
  have F21 := fun_mk (st := s_law_refused) l21 c21 k21
  have b21 := F21.binds (ps := ["_law_tree_here", "_law_place", "_law_name", "_law_number_here"]) fun _ _ _ _ _ _ us hl => match us, hl with | [_, _, _, _], _ => rfl
  have F22 := fun_mk (st := s_law) l22 c22 k22
  have b22 := F22.binds (ps := ["_law_script"]) fun _ _ _ _ _ _ us hl => match us, hl with | [_], _ => rfl
  refine ⟨PySem.W.fnOf "law" "law" (defArgs s_law) (defBody s_law) (defScope s_law) .none kV22 dc22 pm22 an22 cd22 ct22, fun s v => .of_eq rfl, fun base _ _ => ?_⟩
  have C_is_whole := callee_of (P := l.prog) (w := w) (base := base) (ok_whole F1 T) (PySem.W.mg_of X G a1) k1 b1
  have C_has_part := callee_of (P := l.prog) (w := w) (base := base) (ok_has F2 T C_is_whole) (PySem.W.mg_of X G a2) k2 b2
  have C_forms_down_to := callee_of (P := l.prog) (w := w) (base := base) (ok_down F3 T C_has_part) (PySem.W.mg_of X G a3) k3 b3
  have C_names_bound := callee_of (P := l.prog) (w := w) (base := base) (ok_nb F4 T) (PySem.W.mg_of X G a4) k4 b4
  have C_bindings_at := callee_of (P := l.prog) (w := w) (base := base) (ok_bnd F5 T C_forms_down_to C_names_bound) (PySem.W.mg_of X G a5) k5 b5
  have C_names_at := callee_of (P := l.prog) (w := w) (base := base) (ok_nat F6 T C_bindings_at) (PySem.W.mg_of X G a6) k6 b6
  have C_binding_at := callee_of (P := l.prog) (w := w) (base := base) (ok_bat F7 T C_names_at) (PySem.W.mg_of X G a7) k7 b7
  have C_binder := callee_of (P := l.prog) (w := w) (base := base) (ok_bdr F8 T C_bindings_at) (PySem.W.mg_of X G a8) k8 b8
  have C__law_cell := callee_of (P := l.prog) (w := w) (base := base) (ok_cell F9 T) (PySem.W.mg_of X G a9) k9 b9
  have C__law_names := callee_of (P := l.prog) (w := w) (base := base) (ok_names F10 T) (PySem.W.mg_of X G a10) k10 b10
  have C__law_odd := callee_of (P := l.prog) (w := w) (base := base) (ok_odd F11 T) (PySem.W.mg_of X G a11) k11 b11
  have C__law_number := callee_of (P := l.prog) (w := w) (base := base) (ok_num F12 T) (PySem.W.mg_of X G a12) k12 b12
  have C__law_head := callee_of (P := l.prog) (w := w) (base := base) (ok_head F13 T C__law_odd C__law_number) (PySem.W.mg_of X G a13) k13 b13
  have C__law_many := callee_of (P := l.prog) (w := w) (base := base) (ok_many F14 T) (PySem.W.mg_of X G a14) k14 b14
  have C__law_tree := callee_of (P := l.prog) (w := w) (base := base) (ok_tree F15 T C__law_head C__law_many) (PySem.W.mg_of X G a15) k15 b15
  have C__law_bound := callee_of (P := l.prog) (w := w) (base := base) (ok_bound F16 T) (PySem.W.mg_of X G a16) k16 b16
  have C__law_scopes := callee_of (P := l.prog) (w := w) (base := base) (ok_scopes F17 T C__law_bound) (PySem.W.mg_of X G a17) k17 b17
  have C__law_last := callee_of (P := l.prog) (w := w) (base := base) (ok_last F18 T) (PySem.W.mg_of X G a18) k18 b18
  have C__law_whole := callee_of (P := l.prog) (w := w) (base := base) (ok_lwhole F19 T) (PySem.W.mg_of X G a19) k19 b19
  have C__law_good := callee_of (P := l.prog) (w := w) (base := base) (ok_good F20 T C_names_at C__law_last C_binding_at C__law_whole C_binder) (PySem.W.mg_of X G a20) k20 b20
  have x27 : PySem.W.nsOkIn K cdG.ns = true := by unfold PySem.W.nsOkIn; rw [x24]; show (esN.all fun e => match e.key with | .str _ _ => true | _ => false) = true; rw [← Array.all_toList]; exact x26
  obtain ⟨tG, iG⟩ := tail_GE x11 x27 x25
  obtain ⟨xI, xO⟩ := excI_mk x7 x8 x9 x10 tG
  have gC := PySem.W.mg_of X G x1
  have gG := PySem.W.mg_of X G x2
  have R : Rz K C fi := ⟨xI, x3, x12, x13, x14, x15⟩
  have xC : ExC K C := ⟨xO, x16, x17, x18, x19, x15⟩
  have nA : NoAttr K C "place" := x20
  have XG : ExcC K GE := ⟨x21, iG, x22⟩
  have sGC := x23
  have Fi := fun_mk (st := s_init) x4 x5 x6
  have bi := Fi.binds (ps := ["self", "place"]) fun _ _ _ _ _ _ us hl => match us, hl with | [_, _], _ => rfl
  have CZ_has_part := callee_of (P := l.prog) (w := w) (base := base) (ok_hasZ F2 T C_is_whole) (PySem.W.mg_of X G a2) k2 b2
  have CX_forms_down_to := calleex_of (P := l.prog) (w := w) (base := base) (ok_downX F3 T CZ_has_part R (ok_init Fi) bi gC xC nA) (PySem.W.mg_of X G a3) k3 b3
  have CX_bindings_at := calleex_of (P := l.prog) (w := w) (base := base) (ok_bndX F5 T CX_forms_down_to C_names_bound) (PySem.W.mg_of X G a5) k5 b5
  have CX_names_at := calleex_of (P := l.prog) (w := w) (base := base) (ok_natX F6 T CX_bindings_at) (PySem.W.mg_of X G a6) k6 b6
  have CX_binding_at := calleex_of (P := l.prog) (w := w) (base := base) (ok_batX F7 T CX_names_at) (PySem.W.mg_of X G a7) k7 b7
  have CX_binder := calleex_of (P := l.prog) (w := w) (base := base) (ok_bdrX F8 T CX_bindings_at) (PySem.W.mg_of X G a8) k8 b8
  have C__law_refused := callee_of (P := l.prog) (w := w) (base := base) (ok_refused F21 T CX_names_at CX_binding_at CX_binder XG gG gC sGC xC nA) (PySem.W.mg_of X G a21) k21 b21
  exact ok_law F22 T C__law_names C__law_cell C__law_tree C__law_scopes C__law_good C__law_refused
theorem walk {l : PySem.W.OpenLaw} {q : Program} {loose : List Str} {XP : (Str → Option Value) → Heap → Prop} {YP : World → Heap → Prop} {d : DefRec} {K : Params → PySem.W.Frag} (hn : l.most = some 63) (hdf : d.params.defaults = [])
    (hY : ∀ (w : World) (h : Heap), YP w h → (K w.params).In h)
    (F : ∀ (w : World) (mg : Str → Option Value) (fa : Addr) (h : Heap), (K w.params).In h → h.Ns mainGlobals mg → mg d.name = some (.ref fa) →
      ∃ fd : FuncData, (∀ (s : Shared) (u : Value), BindsTo s fd ⟨[u], []⟩ [("_law_script", u)]) ∧ ∀ base : Heap, (K w.params).In base → base.Ns mainGlobals mg → FnOk l.prog w (K w.params) mg base CX0 8 fa fd ["_law_script"] (spLaw (K w.params))) :
    PySem.W.WalkO q loose XP YP l.row.toRowW d [] (fun f vs => PySem.call f vs) :=
  L2.walk_of (n := 63) (k := 8) (x := "_law_script") (CX := fun _ => CX0) (sp := fun w => spLaw (K w.params)) hn (by decide) hdf ⟨rfl, by decide, by decide⟩ hY F (fun _ _ a ns hl _ hS => ⟨a, ns, rfl, hS, hl, fun _ => rfl⟩) fun _ _ _ _ _ z => z
end K17
open PySem PySem.W PyProof.Rows
set_option maxRecDepth 100000 in
set_option maxHeartbeats 0 in
theorem PySem.Challenge.cw_gapscribe_k17_names_and_bindings_holds : PySem.Challenge.rw_gapscribe_k17_names_and_bindings.Holds := by
  w_on; o_law; k_head; (case hw => w_witness2)
  k_fill
  refine K17.walk (l := PySem.Challenge.rw_gapscribe_k17_names_and_bindings) rfl rfl (fun w h Y => PySem.W.kIn_of Y) ?F
  case F =>
    intro w mg fa h KX G hmg
    refine' K17.all_mk KX G hmg ?a1 ?l1 ?c1 ?k1 ?a2 ?l2 ?c2 ?k2 ?a3 ?l3 ?c3 ?k3 ?a4 ?l4 ?c4 ?k4 ?a5 ?l5 ?c5 ?k5 ?a6 ?l6 ?c6 ?k6 ?a7 ?l7 ?c7 ?k7 ?a8 ?l8 ?c8 ?k8 ?a9 ?l9 ?c9 ?k9 ?a10 ?l10 ?c10 ?k10 ?a11 ?l11 ?c11 ?k11 ?a12 ?l12 ?c12 ?k12 ?a13 ?l13 ?c13 ?k13 ?a14 ?l14 ?c14 ?k14 ?a15 ?l15 ?c15 ?k15 ?a16 ?l16 ?c16 ?k16 ?a17 ?l17 ?c17 ?k17 ?a18 ?l18 ?c18 ?k18 ?a19 ?l19 ?c19 ?k19 ?a20 ?l20 ?c20 ?k20 ?a21 ?l21 ?c21 ?k21 ?a22 ?l22 ?c22 ?k22 ?z1 ?z2 ?z3 ?z4 ?z5 ?z6 ?z7 ?z8 ?x1 ?x2 ?x3 ?x4 ?x5 ?x6 ?x7 ?x8 ?x9 ?x10 ?x11 ?x24 ?x26 ?x25 ?x12 ?x13 ?x14 ?x15 ?x16 ?x17 ?x18 ?x19 ?x20 ?x21 ?x22 ?x23
    (case a1 => k_is)
    (case l1 => k_is)
    (case c1 => k_is)
    (case k1 => k_is)
    (case a2 => k_is)
    (case l2 => k_is)
    (case c2 => k_is)
    (case k2 => k_is)
    (case a3 => k_is)
    (case l3 => k_is)
    (case c3 => k_is)
    (case k3 => k_is)
    (case a4 => k_is)
    (case l4 => k_is)
    (case c4 => k_is)
    (case k4 => k_is)
    (case a5 => k_is)
    (case l5 => k_is)
    (case c5 => k_is)
    (case k5 => k_is)
    (case a6 => k_is)
    (case l6 => k_is)
    (case c6 => k_is)
    (case k6 => k_is)
    (case a7 => k_is)
    (case l7 => k_is)
    (case c7 => k_is)
    (case k7 => k_is)
    (case a8 => k_is)
    (case l8 => k_is)
    (case c8 => k_is)
    (case k8 => k_is)
    (case a9 => k_is)
    (case l9 => k_is)
    (case c9 => k_is)
    (case k9 => k_is)
    (case a10 => k_is)
    (case l10 => k_is)
    (case c10 => k_is)
    (case k10 => k_is)
    (case a11 => k_is)
    (case l11 => k_is)
    (case c11 => k_is)
    (case k11 => k_is)
    (case a12 => k_is)
    (case l12 => k_is)
    (case c12 => k_is)
    (case k12 => k_is)
    (case a13 => k_is)
    (case l13 => k_is)
    (case c13 => k_is)
    (case k13 => k_is)
    (case a14 => k_is)
    (case l14 => k_is)
    (case c14 => k_is)
    (case k14 => k_is)
    (case a15 => k_is)
    (case l15 => k_is)
    (case c15 => k_is)
    (case k15 => k_is)
    (case a16 => k_is)
    (case l16 => k_is)
    (case c16 => k_is)
    (case k16 => k_is)
    (case a17 => k_is)
    (case l17 => k_is)
    (case c17 => k_is)
    (case k17 => k_is)
    (case a18 => k_is)
    (case l18 => k_is)
    (case c18 => k_is)
    (case k18 => k_is)
    (case a19 => k_is)
    (case l19 => k_is)
    (case c19 => k_is)
    (case k19 => k_is)
    (case a20 => k_is)
    (case l20 => k_is)
    (case c20 => k_is)
    (case k20 => k_is)
    (case a21 => k_is)
    (case l21 => k_is)
    (case c21 => k_is)
    (case k21 => k_is)
    (case a22 => k_is)
    (case l22 => k_is)
    (case c22 => k_is)
    (case k22 => k_is)
    (case z1 => k_is)
    (case z2 => k_is)
    (case z3 => k_is)
    (case z4 => k_is)
    (case z5 => k_is)
    (case z6 => k_is)
    (case z7 => k_is)
    (case z8 => k_is)
    (case x1 => k_is)
    (case x2 => k_is)
    (case x3 => k_is)
    (case x4 => k_is)
    (case x5 => k_is)
    (case x6 => k_is)
    (case x7 => k_is)
    (case x8 => rfl)
    (case x9 => rfl)
    (case x10 => rfl)
    (case x11 => k_is)
    (case x24 => k_is)
    (case x26 => rfl)
    (case x25 => k_is)
    (case x12 => k_is)
    (case x13 => k_is)
    (case x14 => k_is)
    (case x15 => k_is)
    (case x16 => k_is)
    (case x17 => k_is)
    (case x18 => k_is)
    (case x19 => k_is)
    (case x20 => k_is)
    (case x21 => k_is)
    (case x22 => k_is)
    (case x23 => k_is)
#print axioms PySem.Challenge.cw_gapscribe_k17_names_and_bindings_holds
