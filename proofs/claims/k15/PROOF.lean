import PyProof.Rows.All
import Wide.All
import OpenK.AllK
import Wide.FinOn
import Lean
import PyProof.EqAt
import PyProof.EqKinds
import PyProof.TupleCall
import PyProof.StrBlock2
import PySem.Challenge.RW_gapscribe_k15_forms_at_places
set_option Elab.async false
set_option linter.all false
set_option maxRecDepth 100000
namespace L2
open PySem PySem.Spec PyProof.Rows

abbrev Key := Sum Int Str
def keyIs : Key → Value → Bool
  | .inl k, v => Value.isInt k v
  | .inr x, v => Value.isStrOf x v
def keyH (w : World) : Key → Int
  | .inl k => hashInt k
  | .inr x => hashStr w x
theorem keyIs_shape : ∀ {k : Key} {v : Value}, keyIs k v = true → (∃ i t, k = Sum.inl i ∧ v = Value.int i t) ∨ (∃ x t, k = Sum.inr x ∧ v = Value.str x t)
  | .inl i, v, h => by
    obtain ⟨t, e⟩ := Value.isInt_shape (k := i) (v := v) h
    exact .inl ⟨i, t, rfl, e⟩
  | .inr x, v, h => by
    obtain ⟨t, e⟩ := Value.isStrOf_shape (x := x) (v := v) h
    exact .inr ⟨x, t, rfl, e⟩
theorem key_ll (a b : Int) : decide ((Sum.inl a : Key) = Sum.inl b) = (a == b) := by
  by_cases e : a = b
  · subst e; simp
  · have h : ¬ (Sum.inl a : Key) = Sum.inl b := fun q => e (Sum.inl.inj q)
    rw [decide_eq_false h]
    exact (beq_eq_false_iff_ne.mpr e).symm
theorem key_rr (a b : Str) : decide ((Sum.inr a : Key) = Sum.inr b) = decide (a = b) := by
  by_cases e : a = b
  · subst e; simp
  · have h : ¬ (Sum.inr a : Key) = Sum.inr b := fun q => e (Sum.inr.inj q)
    rw [decide_eq_false h, decide_eq_false e]
theorem key_lr (a : Int) (b : Str) : decide ((Sum.inl a : Key) = Sum.inr b) = false := decide_eq_false (fun q => nomatch q)
theorem key_rl (a : Str) (b : Int) : decide ((Sum.inr a : Key) = Sum.inl b) = false := decide_eq_false (fun q => nomatch q)

def mixKind (prog : Program) (w : World) : PySem.KeyKind prog w Key where
  is := keyIs
  hash := keyH w
  inj := fun v a b ha hb => by
    rcases keyIs_shape ha with ⟨i, t, rfl, rfl⟩ | ⟨x, t, rfl, rfl⟩
    · rcases keyIs_shape hb with ⟨j, u, rfl, e⟩ | ⟨y, u, rfl, e⟩
      · injection e with e1 _; rw [e1]
      · exact nomatch e
    · rcases keyIs_shape hb with ⟨j, u, rfl, e⟩ | ⟨y, u, rfl, e⟩
      · exact nomatch e
      · injection e with e1 _; rw [e1]
  byValue := fun k v h => by
    rcases keyIs_shape h with ⟨i, t, rfl, rfl⟩ | ⟨x, t, rfl, rfl⟩ <;> rfl
  pyHash := fun hv h => by
    rcases keyIs_shape hv with ⟨i, t, rfl, rfl⟩ | ⟨x, t, rfl, rfl⟩
    · exact wpAny_pyHash_int h
    · exact wpAny_pyHash_str h
  eqBool := fun hu hv h => by
    rcases keyIs_shape hu with ⟨i, t, rfl, rfl⟩ | ⟨x, t, rfl, rfl⟩
    · rcases keyIs_shape hv with ⟨j, u, rfl, rfl⟩ | ⟨y, u, rfl, rfl⟩
      · rw [key_ll] at h; exact wpAny_eqBool_int h
      · rw [key_lr] at h; exact SeqAt.EqAt.int_str i t y u _ _ _ _ h
    · rcases keyIs_shape hv with ⟨j, u, rfl, rfl⟩ | ⟨y, u, rfl, rfl⟩
      · rw [key_rl] at h; exact SeqAt.EqAt.str_int x t j u _ _ _ _ h
      · rw [key_rr] at h; exact wpAny_eqBool_str h
  «strs» := fun k x t v h => by
    rcases keyIs_shape h with ⟨i, u, rfl, e⟩ | ⟨y, u, rfl, e⟩
    · exact nomatch e
    · injection e with e1 _
      subst e1
      cases v <;> rfl

end L2

namespace L2
open PySem PySem.Spec PyProof.Rows

inductive V where
  | non | bl (b : Bool) | int (i : Int) | str (x : Str) | byt (b : Array UInt8) | flt (b : UInt64) | ref (a : Addr) | ty (n : String)
  deriving DecidableEq

def RelV : V → Value → Prop
  | .non, u => u = Value.none
  | .bl b, u => u = Value.bool b
  | .int i, u => ∃ t, u = Value.int i t
  | .str x, u => ∃ t, u = Value.str x t
  | .byt b, u => ∃ t, u = Value.bytes b t
  | .flt b, u => ∃ t, u = Value.float b t
  | .ref a, u => u = Value.ref a
  | .ty n, u => u = Value.type n

abbrev Vals : List V → List Value → Prop := Paired RelV
theorem Vals.length {xs : List V} {us : List Value} (r : Vals xs us) : xs.length = us.length := Paired.length r
theorem Vals.get : ∀ {xs : List V} {us : List Value} {i : Nat} {x : V}, Vals xs us → xs[i]? = some x → ∃ u, us[i]? = some u ∧ RelV x u
  | _, _, _, _, .nil, e => by simp at e
  | _, _, 0, _, .cons r _, e => by simp at e; subst e; exact ⟨_, rfl, r⟩
  | _, _, i + 1, x, .cons _ t, e => by
    obtain ⟨u, h1, h2⟩ := Vals.get (i := i) (x := x) t (by simpa using e)
    exact ⟨u, by simpa using h1, h2⟩
theorem Vals.set {x : V} {u : Value} (r : RelV x u) : ∀ {xs : List V} {us : List Value} (i : Nat), Vals xs us → Vals (xs.set i x) (us.set i u)
  | _, _, _, .nil => .nil
  | _, _, 0, .cons _ t => .cons r t
  | _, _, i + 1, .cons q t => .cons q (Vals.set r i t)
theorem Vals.append : ∀ {xs ys : List V} {us ws : List Value}, Vals xs us → Vals ys ws → Vals (xs ++ ys) (us ++ ws)
  | _, _, _, _, .nil, s => s
  | _, _, _, _, .cons r t, s => .cons r (Vals.append t s)
theorem Vals.take : ∀ {xs : List V} {us : List Value} (n : Nat), Vals xs us → Vals (xs.take n) (us.take n)
  | _, _, 0, _ => .nil
  | _, _, _ + 1, .nil => .nil
  | _, _, n + 1, .cons r t => .cons r (Vals.take n t)
theorem Vals.drop : ∀ {xs : List V} {us : List Value} (n : Nat), Vals xs us → Vals (xs.drop n) (us.drop n)
  | _, _, 0, r => r
  | _, _, _ + 1, .nil => .nil
  | _, _, n + 1, .cons _ t => Vals.drop n t
def RelO : Option V → Option Value → Prop
  | some v, some u => RelV v u
  | none, none => True
  | _, _ => False
def KV {κ : Type} : List (κ × V) → List (κ × Value) → Prop := Paired fun (p : κ × V) (q : κ × Value) => p.1 = q.1 ∧ RelV p.2 q.2

def kV : Key → V
  | .inl i => .int i
  | .inr x => .str x

inductive HO where
  /-- a list -/
  | lst (xs : List V)
  /-- a tuple (never changes) -/
  | tup (xs : List V)
  /-- a dict whose keys are ints and texts; one whose keys are tuples of ints and texts (the empty one is both) -/
  | dK (kvs : List (Key × V)) | dT (kvs : List (List Key × V))
  /-- a set of ints: its members, its size -/
  | set (S : Int → Bool) (n : Nat)
  /-- an instance of the class at C, its dict at dx, its attributes -/
  | ins (C dx : Addr) (fs : List (Str × V))
  /-- the dict of the instance at x -/
  | own (x : Addr)
  /-- the dict of an exception -/
  | xd (fs : List (Str × V))
  /-- a bound method, f of x -/
  | met (f x : Addr)
  /-- a range object lo, lo + 1, .. below hi -/
  | rng (lo hi : Int)
  /-- a thing that is known to the object (the script; a dict while a loop walks it): read, never written while it is so -/
  | frz (o : Obj) (u : HO)
  /-- a code object's table -/
  | tbl (ps : Array Value)
  /-- any other thing, by what is true of its one object (a def of one's own: SetO a S n := HO.ext fun h => ..) -/
  | ext (φ : Heap → Prop)

abbrev Hp := Addr → Option HO
def upd (H : Hp) (a : Addr) (o : HO) : Hp := fun b => if b = a then some o else H b
theorem upd_same {H : Hp} {a : Addr} {o : HO} : upd H a o a = some o := by unfold upd; rw [if_pos rfl]
theorem upd_ne {H : Hp} {a b : Addr} {o : HO} (h : b ≠ a) : upd H a o b = H b := by unfold upd; rw [if_neg h]
theorem upd_upd {H : Hp} {a : Addr} {o u : HO} : upd (upd H a o) a u = upd H a u := by
  funext b; unfold upd; split <;> rfl
theorem ne_of {H : Hp} {a b : Addr} {o u : HO} (h : H a = some o) (h' : H b = some u) (d : o ≠ u) : a ≠ b := by
  intro e; subst e; rw [h] at h'; exact d (Option.some.inj h')
theorem ne_of_none {H : Hp} {a b : Addr} {o : HO} (h : H a = some o) (h' : H b = none) : a ≠ b := by
  intro e; subst e; rw [h] at h'; cases h'

section
variable (P : Program) (w : World)
def ObjOk (H : Hp) (h : Heap) (a : Addr) : HO → Prop
  | .lst xs => xs.length ≤ sizeLine ∧ ∃ (its : List Value) (n : Nat), Vals xs its ∧ h.get? a = some { cls := .type "list", data := .seq its.toArray n }
  | .tup xs => xs.length ≤ sizeLine ∧ ∃ its : List Value, Vals xs its ∧ IsTup h a its.toArray
  | .dK kvs => kvs.length ≤ sizeLine ∧ (a == sysModules) = false ∧ ∃ vs, KV kvs vs ∧ h.DictOf (mixKind P w) a vs
  | .dT kvs => kvs.length ≤ sizeLine ∧ (a == sysModules) = false ∧ ∃ xs : List (List Key × Addr × Value),
      Paired (fun (p : List Key × V) (q : List Key × Addr × Value) => p.1 = q.1 ∧ H q.2.1 = some (.tup (p.1.map kV)) ∧ RelV p.2 q.2.2) kvs xs ∧
      ∃ o es ep, h.get? a = some o ∧ o.ExactDict ∧ o.data = .dict es ep ∧ es.toList = xs.map (entryOfKey (tupleKind (mixKind P w))) ∧ (xs.map (·.1)).Nodup
  | .set S n => h.SetOf (intKind P w) a S n
  | .ins C dx fs => H dx = some (.own a) ∧ fs.length ≤ 1000 ∧ dx ≠ a ∧ h.get? a = some (PySem.W.instObj C dx) ∧
      ∃ mA, h.Ns1 dx mA ∧ (∀ f, RelO (fs.lookup f) (mA f)) ∧ PySem.Within mA (fs.map (·.1))
  | .own _ => ∃ o, h.get? a = some o
  | .xd fs => ∃ mA, h.Ns1 a mA ∧ ∀ f, RelO (fs.lookup f) (mA f)
  | .rng lo hi => ∃ t u v, h.get? a = some { cls := .type "range", data := .fields #[.int lo t, .int hi u, .int 1 v] }
  | .frz o u => h.get? a = some o ∧ ObjOk H h a u
  | .tbl ps => h.get? a = some { cls := .none, data := .fields ps }
  | .met f x => h.get? a = some (PySem.W.methodObj (.ref f) (.ref x))
  | .ext φ => φ h ∧ (∃ o, h.get? a = some o) ∧ ∀ h1 h2 : Heap, φ h1 → (∀ o, h1.get? a = some o → h2.get? a = some o) → φ h2
def HOk (H : Hp) (h : Heap) : Prop := ∀ a o, H a = some o → ObjOk P w H h a o
end

section
variable {P : Program} {w : World} {H H' : Hp} {h h' : Heap} {a : Addr} {o : HO}
theorem ObjOk.lt (x : ObjOk P w H h a o) : a < h.objs.size := by
  cases o with
  | lst xs => obtain ⟨_, _, _, _, e⟩ := x; exact Heap.lt_size e
  | tup xs => obtain ⟨_, _, _, p⟩ := x; exact p.lt
  | dK kvs => obtain ⟨_, _, _, _, o, _, _, e, _⟩ := x; exact Heap.lt_size e
  | dT kvs => obtain ⟨_, _, _, _, o, _, _, e, _⟩ := x; exact Heap.lt_size e
  | set S n => obtain ⟨o, _, _, _, e, _⟩ := x; exact Heap.lt_size e
  | ins C dx fs => obtain ⟨_, _, _, e, _⟩ := x; exact Heap.lt_size e
  | own y => obtain ⟨_, e⟩ := x; exact Heap.lt_size e
  | xd fs => obtain ⟨_, ⟨_, _, _, e, _⟩, _⟩ := x; exact Heap.lt_size e
  | rng lo hi => obtain ⟨_, _, _, e⟩ := x; exact Heap.lt_size e
  | frz ob u => obtain ⟨e, _⟩ := x; exact Heap.lt_size e
  | tbl ps => exact Heap.lt_size (show h.get? a = some _ from x)
  | met f y => exact Heap.lt_size (show h.get? a = some _ from x)
  | ext φ => obtain ⟨_, ⟨_, e⟩, _⟩ := x; exact Heap.lt_size e
theorem Paired.mapP {α β : Type} {F G : α → β → Prop} : ∀ {l₁ : List α} {l₂ : List β}, Paired F l₁ l₂ → (∀ a b, F a b → G a b) → Paired G l₁ l₂
  | _, _, .nil, _ => .nil
  | _, _, .cons r t, f => .cons (f _ _ r) (Paired.mapP t f)
theorem ObjOk.stay (x : ObjOk P w H h a o) (k : ∀ b u, (b = a ∨ H b = some (.own a)) → h.get? b = some u → h'.get? b = some u)
    (ho : ∀ b, H b = some (.own a) → H' b = some (.own a)) (ht : ∀ b xs, H b = some (.tup xs) → H' b = some (.tup xs)) : ObjOk P w H' h' a o := by
  induction o with
  | lst xs => obtain ⟨z, its, n, r, e⟩ := x; exact ⟨z, its, n, r, k _ _ (.inl rfl) e⟩
  | tup xs => obtain ⟨z, its, r, ob, e, c⟩ := x; exact ⟨z, its, r, ob, k _ _ (.inl rfl) e, c⟩
  | dK kvs => obtain ⟨z, y, vs, r, ob, es, ep, e, c⟩ := x; exact ⟨z, y, vs, r, ob, es, ep, k _ _ (.inl rfl) e, c⟩
  | dT kvs =>
    obtain ⟨z, y, xs, r, ob, es, ep, e, c⟩ := x
    exact ⟨z, y, xs, Paired.mapP r fun p q z => ⟨z.1, ht _ _ z.2.1, z.2.2⟩, ob, es, ep, k _ _ (.inl rfl) e, c⟩
  | set S n => obtain ⟨ob, es, ep, t, e, c⟩ := x; exact ⟨ob, es, ep, t, k _ _ (.inl rfl) e, c⟩
  | ins C dx fs =>
    obtain ⟨d, z, ne, e, mA, ⟨od, es, ep, e2, c⟩, r⟩ := x
    exact ⟨ho _ d, z, ne, k _ _ (.inl rfl) e, mA, ⟨od, es, ep, k _ _ (.inr d) e2, c⟩, r⟩
  | own y => obtain ⟨ob, e⟩ := x; exact ⟨ob, k _ _ (.inl rfl) e⟩
  | xd fs => obtain ⟨mA, ⟨od, es, ep, e, c⟩, r⟩ := x; exact ⟨mA, ⟨od, es, ep, k _ _ (.inl rfl) e, c⟩, r⟩
  | rng lo hi => obtain ⟨t, u, v, e⟩ := x; exact ⟨t, u, v, k _ _ (.inl rfl) e⟩
  | frz ob u ih => obtain ⟨e, q⟩ := x; exact ⟨k _ _ (.inl rfl) e, ih q⟩
  | tbl ps =>
    have e : h.get? a = some { cls := .none, data := .fields ps } := x
    show h'.get? a = some { cls := .none, data := .fields ps }
    exact k a _ (.inl rfl) e
  | met f y =>
    have e : h.get? a = some (PySem.W.methodObj (.ref f) (.ref y)) := x
    show h'.get? a = some (PySem.W.methodObj (.ref f) (.ref y))
    exact k a _ (.inl rfl) e
  | ext φ => obtain ⟨p, ⟨o, e⟩, st⟩ := x; exact ⟨st _ _ p fun o q => k _ _ (.inl rfl) q, ⟨o, k _ _ (.inl rfl) e⟩, st⟩
theorem HOk.lt (x : HOk P w H h) (e : H a = some o) : a < h.objs.size := (x a o e).lt
theorem HOk.fresh (x : HOk P w H h) (e : h.objs.size ≤ a) : H a = none := by
  cases q : H a with
  | none => rfl
  | some u => exact absurd (Nat.lt_of_lt_of_le (x.lt q) e) (Nat.lt_irrefl _)
theorem HOk.kept (x : HOk P w H h) (k : ∀ b u, h.get? b = some u → h'.get? b = some u) : HOk P w H h' := fun a o e =>
  (x a o e).stay (fun b u _ q => k b u q) (fun _ q => q) fun _ _ q => q
theorem HOk.laid (x : HOk P w H h) (k : ∀ b u, h.get? b = some u → h'.get? b = some u) (hp : h.objs.size ≤ a) (new : ObjOk P w (upd H a o) h' a o) : HOk P w (upd H a o) h' := fun b u e => by
  have hn := x.fresh hp
  by_cases hb : b = a
  · subst hb; rw [upd_same] at e; cases e; exact new
  · rw [upd_ne hb] at e
    exact (x b u e).stay (fun c v _ q => k c v q) (fun c q => by rw [upd_ne (ne_of_none q hn)]; exact q) fun c xs q => by rw [upd_ne (ne_of_none q hn)]; exact q
end

def Rd (H : Hp) (a : Addr) (u : HO) : Prop := H a = some u ∨ ∃ o, H a = some (.frz o u)
theorem Rd.of {H : Hp} {a : Addr} {u : HO} (h : H a = some u) : Rd H a u := .inl h
theorem Rd.ok {P : Program} {w : World} {H : Hp} {h : Heap} {a : Addr} {u : HO} (r : Rd H a u) (x : HOk P w H h) : ObjOk P w H h a u := by
  rcases r with r | ⟨o, r⟩
  · exact x a u r
  · obtain ⟨_, q⟩ := x a _ r
    exact q
def Mut : Option HO → Prop
  | some (.lst _) => True
  | some (.dK _) => True
  | some (.dT _) => True
  | some (.set _ _) => True
  | some (.ins _ _ _) => True
  | some (.ext _) => True
  | _ => False
section
variable {P : Program} {w : World} {H : Hp} {h h' : Heap} {x e : Addr} {o' : HO}
theorem HOk.write (ok : HOk P w H h) (mu : Mut (H x)) (he : e = x ∨ H e = some (.own x)) (k : ∀ b u, b ≠ e → h.get? b = some u → h'.get? b = some u) (heo : ∃ u, h'.get? e = some u)
    (new : ObjOk P w (upd H x o') h' x o') : HOk P w (upd H x o') h' := fun b u q => by
  have nown : ∀ c y, H c = some (.own y) → c ≠ x := fun c y r z => by subst z; rw [r] at mu; exact mu
  have ntup : ∀ c xs, H c = some (.tup xs) → c ≠ x := fun c xs r z => by subst z; rw [r] at mu; exact mu
  by_cases hb : b = x
  · subst hb; rw [upd_same] at q; cases q; exact new
  · rw [upd_ne hb] at q
    by_cases hbe : b = e
    · have q' : H b = some (.own x) := by
        rcases he with z | z
        · exact absurd (hbe.trans z) hb
        · rw [hbe]; exact z
      rw [q] at q'; cases q'
      obtain ⟨v, hv⟩ := heo
      exact ⟨v, by rw [hbe]; exact hv⟩
    · refine (ok b u q).stay (fun c v hc r => k c v ?_ r) (fun c r => by rw [upd_ne (nown c b r)]; exact r) fun c xs r => by rw [upd_ne (ntup c xs r)]; exact r
      rcases hc with rfl | hc
      · exact hbe
      · rintro rfl
        rcases he with z | z
        · exact nown c b hc z
        · rw [hc] at z; cases z; exact hb rfl
end

structure Un (fs ex : List Addr) (H H' : Hp) (h h' : Heap) : Prop where
  keep : ∀ b o, h.get? b = some o → H b = none → b ∉ fs → b ∉ ex → h'.get? b = some o
  slot : ∀ b o, h.get? b = some o → H b = none → b ∈ fs → b ∉ ex → ∃ sl, h'.get? b = some { o with slots := sl }
  free : ∀ b o, h.get? b = some o → H b = none → b ∉ ex → H' b = none
  there : ∀ b o, h.get? b = some o → b ∉ ex → ∃ o', h'.get? b = some o'
  tups : ∀ b xs, H b = some (.tup xs) → H' b = some (.tup xs)
  frzs : ∀ b o u, H b = some (.frz o u) → H' b = some (.frz o u)
  tbls : ∀ b ps, H b = some (.tbl ps) → ∃ more, H' b = some (.tbl (ps ++ more))
section
variable {fs fs' ex ex' : List Addr} {H H1 H2 : Hp} {h h1 h2 h' : Heap} {a x e : Addr} {o : HO}
theorem Un.any (u : Un fs ex H H1 h h1) {b : Addr} {ob : Obj} (q : h.get? b = some ob) (n : H b = none) (hx : b ∉ ex) : ∃ sl, h1.get? b = some { ob with slots := sl } := by
  by_cases hb : b ∈ fs
  · exact u.slot b ob q n hb hx
  · exact ⟨ob.slots, u.keep b ob q n hb hx⟩
theorem Un.trans (a : Un fs ex H H1 h h1) (b : Un fs ex H1 H2 h1 h2) : Un fs ex H H2 h h2 where
  keep := fun c ob q n hc hx => b.keep c ob (a.keep c ob q n hc hx) (a.free c ob q n hx) hc hx
  slot := fun c ob q n hc hx => by
    obtain ⟨sl, e1⟩ := a.slot c ob q n hc hx
    obtain ⟨sl', e2⟩ := b.slot c _ e1 (a.free c ob q n hx) hc hx
    exact ⟨sl', e2⟩
  free := fun c ob q n hx => by
    obtain ⟨o', e1⟩ := a.there c ob q hx
    exact b.free c o' e1 (a.free c ob q n hx) hx
  there := fun c ob q hx => by
    obtain ⟨o', e1⟩ := a.there c ob q hx
    exact b.there c o' e1 hx
  tups := fun c xs q => b.tups c xs (a.tups c xs q)
  frzs := fun c ob xs q => b.frzs c ob xs (a.frzs c ob xs q)
  tbls := fun c ps q => by
    obtain ⟨m1, e1⟩ := a.tbls c ps q
    obtain ⟨m2, e2⟩ := b.tbls c _ e1
    exact ⟨m1 ++ m2, by rw [e2, Array.append_assoc]⟩
theorem Un.kept (k : ∀ b u, h.get? b = some u → h'.get? b = some u) : Un fs ex H H h h' :=
  ⟨fun b ob q _ _ _ => k b ob q, fun b ob q _ _ _ => ⟨ob.slots, k b ob q⟩, fun _ _ _ n _ => n, fun b ob q _ => ⟨ob, k b ob q⟩, fun _ _ q => q, fun _ _ _ q => q, fun _ ps q => ⟨#[], by rw [q]; simp⟩⟩
theorem Un.refl : Un fs ex H H h h := Un.kept fun _ _ q => q
theorem Un.laid (k : ∀ b u, h.get? b = some u → h'.get? b = some u) (hp : h.objs.size ≤ a) (hn : H a = none) : Un fs ex H (upd H a o) h h' where
  keep := fun b u q _ _ _ => k b u q
  slot := fun b u q _ _ _ => ⟨u.slots, k b u q⟩
  free := fun b u q n _ => by rw [upd_ne (Nat.ne_of_lt (Nat.lt_of_lt_of_le (Heap.lt_size q) hp))]; exact n
  there := fun b u q _ => ⟨u, k b u q⟩
  tups := fun b xs q => by rw [upd_ne (ne_of_none q hn)]; exact q
  frzs := fun b u xs q => by rw [upd_ne (ne_of_none q hn)]; exact q
  tbls := fun b ps q => ⟨#[], by rw [upd_ne (ne_of_none q hn), q]; simp⟩
theorem Un.write (mu : Mut (H x)) (he : e = x ∨ H e = some (.own x)) (k : ∀ b u, b ≠ e → h.get? b = some u → h'.get? b = some u) (heo : ∃ u, h'.get? e = some u) : Un fs ex H (upd H x o) h h' := by
  have hx : ∀ b, H b = none → b ≠ x := fun b n z => by subst z; rw [n] at mu; exact mu
  have hb : ∀ b, H b = none → b ≠ e := fun b n z => by
    subst z
    rcases he with r | r
    · exact hx b n r
    · rw [n] at r; cases r
  have hm : ∀ b u, H b = some u → ¬ Mut (some u) → b ≠ x := fun b u q nm z => by subst z; rw [q] at mu; exact nm mu
  refine ⟨fun b u q n _ _ => k b u (hb b n) q, fun b u q n _ _ => ⟨u.slots, k b u (hb b n) q⟩, fun b u q n _ => by rw [upd_ne (hx b n)]; exact n, fun b u q _ => ?_,
    fun b xs q => by rw [upd_ne (hm b _ q fun z => z)]; exact q, fun b u xs q => by rw [upd_ne (hm b _ q fun z => z)]; exact q, fun b ps q => ⟨#[], by rw [upd_ne (hm b _ q fun z => z), q]; simp⟩⟩
  by_cases hbe : b = e
  · subst hbe; exact heo
  · exact ⟨u, k b u hbe q⟩
theorem Un.mono (u : Un fs ex H H1 h h1) (hs : ∀ b ∈ fs, b ∈ fs') (hx : ∀ b ∈ ex, b ∈ ex') : Un fs' ex' H H1 h h1 :=
  ⟨fun b ob q n hb he => u.keep b ob q n (fun z => hb (hs b z)) fun z => he (hx b z), fun _ _ q n _ he => u.any q n fun z => he (hx _ z), fun b ob q n he => u.free b ob q n fun z => he (hx b z), fun b ob q he => u.there b ob q fun z => he (hx b z), u.tups, u.frzs, u.tbls⟩
end

def trk (h : Heap) (H : Hp) : List Addr := (List.range h.objs.size).filter fun a => (H a).isSome
def hidT (h : Heap) (H : Hp) : Heap := PySem.W.hideAll h (trk h H)
theorem hidT_size (h : Heap) (H : Hp) : (hidT h H).objs.size = h.objs.size := PySem.W.hideAll_size _ _
theorem hidT_get {h : Heap} {H : Hp} {b : Addr} {o : Obj} (e : h.get? b = some o) (n : H b = none) : (hidT h H).get? b = some o :=
  PySem.W.hideAll_get _ e fun hm => by
    have q : (H b).isSome = true := (List.mem_filter.mp hm).2
    rw [n] at q; simp at q
theorem of_hidT {h : Heap} {H : Hp} {b : Addr} {o : Obj} (e : (hidT h H).get? b = some o) : h.get? b = some o ∧ H b = none := by
  have e' : h.get? b = some o := PySem.W.of_hideAll (trk h H) e
  refine ⟨e', ?_⟩
  cases q : H b with
  | none => rfl
  | some x =>
    have hm : b ∈ trk h H := List.mem_filter.mpr ⟨List.mem_range.mpr (Heap.lt_size e'), by simp [q]⟩
    have z : (hidT h H).get? b = none := PySem.W.hideAll_none (trk h H) hm
    rw [z] at e; cases e

def allNews (g h : Heap) (L : Addr) : List (Addr × Obj) := (List.range h.objs.size).filterMap fun a => if a = L ∨ (g.get? a).isSome = true then none else (h.get? a).map fun o => (a, o)
def rest (g h : Heap) (L d : Addr) : List (Addr × Obj) := (allNews g h L).filter fun p => decide (p.1 ≠ d)
end L2

namespace L2
open PySem PySem.Spec PyProof.Rows

structure Mod (K : PySem.W.Frag) (mg : Str → Option Value) (base : Heap) : Prop where
  kin : K.In base
  glob : base.Ns mainGlobals mg
  blt : ∃ mb, base.Ns builtinsNs mb ∧ ∀ x : Str, x ≠ "__name__" → mb x = bootBuiltins x
  nolimit : base.NoLimit

structure Cx where
  prog : Program
  w : World
  K : PySem.W.Frag
  mg : Str → Option Value
  base : Heap
  A : Around
  N : List Str
  s₀ : Shared
  H₀ : Hp
  env : Env
  outer : List Env
  stack : List Env
  ex : List Addr
  fn : Str → Bool
  calm : Bool
  pn : List (Addr × Obj)
  xe : Value → Shared → Prop
def frs (l : List Env) : List Addr := l.filterMap (·.frame)
abbrev Cx.fs (X : Cx) : List Addr := frs X.outer

def Vis (sc : Scope) (x : Str) : Prop := sc.names.lookup x = some .local ∨ sc.names.lookup x = some .cell ∨ sc.names.lookup x = some .free
def Loc (sc : Scope) (x : Str) : Prop := sc.names.lookup x = some .local ∨ sc.names.lookup x = some .cell
def Look (env : Env) (h : Heap) (m : Str → Option Value) (x : Str) (u : Value) : Prop :=
  (env.kindOf x = some .local ∧ m x = some u) ∨ ((env.kindOf x = some .cell ∨ env.kindOf x = some .free) ∧ ∃ c, env.cells.lookup x = some c ∧ h.IsCell c (some u))

structure Cx.Ok (X : Cx) : Prop where
  mod : Mod X.K X.mg X.base
  kind : X.env.scope.kind = .function
  glob : X.env.globals = mainGlobals
  blt : X.env.builtins = builtinsNs
  above : X.s₀.heap.objs.size ≤ X.env.locals
  inj : ∀ x y c, X.env.cells.lookup x = some c → X.env.cells.lookup y = some c → x = y
  has : ∀ x, (X.env.kindOf x = some .cell ∨ X.env.kindOf x = some .free) → ∃ c, X.env.cells.lookup x = some c
  cab : ∀ x c, X.fn x = true → X.env.cells.lookup x = some c → X.s₀.heap.objs.size ≤ c
  hd : X.calm = true → X.A.handled = none
  frames : X.A.frames = some X.stack
  stk : X.stack = X.outer ∨ (X.stack = X.env :: X.outer ∧ X.env.frame = some X.env.locals)
  exf : ∀ b ∈ X.ex, b ≠ X.env.locals ∧ ∀ x c, X.env.cells.lookup x = some c → c ≠ b
  bs : ∀ b o, X.base.get? b = some o → X.s₀.heap.get? b = some o ∧ X.H₀ b = none
  bsz : X.base.objs.size ≤ X.s₀.heap.objs.size
  noex : ∀ b o, X.base.get? b = some o → b ∉ X.ex
  exfs : ∀ b ∈ X.ex, b ∉ X.fs
  funs : X.s₀.heap.FunFrames X.base X.outer
  frf : ∀ b ∈ X.fs, X.H₀ b = none

structure Inv (X : Cx) (pins : List (Addr × Obj)) (σ : List (Option V)) (H : Hp) (s : Shared) : Prop where
  ok : X.Ok
  os : s.os = X.s₀.os
  bare : AllBare s.gens
  base : Un X.fs X.ex X.H₀ H X.s₀.heap s.heap
  loc : ∃ m, s.heap.Ns X.env.locals m ∧ ∀ (i : Nat) (x : Str) (v : V), X.N[i]? = some x → σ[i]? = some (some v) → Vis X.env.scope x → ∃ u, RelV v u ∧ Look X.env s.heap m x u
  cell : ∀ x c, X.env.cells.lookup x = some c → ∃ v, s.heap.IsCell c v
  free : H X.env.locals = none
  freeC : ∀ x c, X.env.cells.lookup x = some c → H c = none
  pin : ∀ p ∈ X.pn ++ pins, s.heap.get? p.1 = some p.2 ∧ H p.1 = none ∧ p.1 ≠ X.env.locals ∧ p.1 ∉ X.fs ∧ ∀ v, p.2.data ≠ .cell v
  hok : HOk X.prog X.w H s.heap
  len : σ.length = X.N.length

section
variable {X : Cx} {pins : List (Addr × Obj)} {σ : List (Option V)} {H H' : Hp} {s : Shared} {h' : Heap}

theorem Cx.Ok.nofr (ok : X.Ok) {b : Addr} {o : Obj} (e : X.base.get? b = some o) : b ∉ X.fs := fun hb => by
  have := (ok.funs.mem hb).1
  rw [e] at this; cases this
theorem Inv.bs (I : Inv X pins σ H s) : ∀ b o, X.base.get? b = some o → s.heap.get? b = some o ∧ H b = none := fun b o e =>
  ⟨I.base.keep b o (I.ok.bs b o e).1 (I.ok.bs b o e).2 (I.ok.nofr e) (I.ok.noex b o e), I.base.free b o (I.ok.bs b o e).1 (I.ok.bs b o e).2 (I.ok.noex b o e)⟩
theorem Inv.bk (I : Inv X pins σ H s) : ∀ b o, X.base.get? b = some o → s.heap.get? b = some o := fun b o e => (I.bs b o e).1
theorem Inv.mod (I : Inv X pins σ H s) : Mod X.K X.mg X.base := I.ok.mod
theorem Inv.kIn (I : Inv X pins σ H s) : X.K.In s.heap := I.ok.mod.kin.keeps I.bk
theorem Inv.nolimit (I : Inv X pins σ H s) : s.heap.NoLimit := I.ok.mod.nolimit.keeps I.bk
theorem Inv.fr (I : Inv X pins σ H s) : ∃ m, Fr X.base X.env.locals s.heap m :=
  let ⟨m, hn, _⟩ := I.loc
  ⟨m, hn, I.bk, Nat.le_trans I.ok.bsz I.ok.above⟩
theorem Inv.lt (I : Inv X pins σ H s) : X.env.locals < s.heap.objs.size := let ⟨_, hn, _⟩ := I.loc; hn.lt
theorem Inv.sz (I : Inv X pins σ H s) : X.s₀.heap.objs.size ≤ s.heap.objs.size := Nat.le_trans I.ok.above (Nat.le_of_lt I.lt)
theorem Inv.nofs (I : Inv X pins σ H s) {a : Addr} (h : s.heap.objs.size ≤ a) : a ∉ X.fs := fun hb => by
  obtain ⟨_, o, ho, _⟩ := I.ok.funs.mem hb
  exact absurd (Nat.lt_of_lt_of_le (Heap.lt_size ho) (Nat.le_trans I.sz h)) (Nat.lt_irrefl _)
theorem Inv.cne (I : Inv X pins σ H s) : ∀ x c, X.env.cells.lookup x = some c → c ≠ X.env.locals := fun x c e z => by
  obtain ⟨v, o, ho, hd⟩ := I.cell x c e
  obtain ⟨m, ⟨o', es, ep, ho', hd', _⟩, _⟩ := I.loc
  rw [z, ho'] at ho; cases ho; rw [hd'] at hd; cases hd
theorem Inv.funs (I : Inv X pins σ H s) : s.heap.FunFrames X.base X.outer := by
  have all : ∀ (l : List Env), (∀ b ∈ frs l, b ∈ X.fs) → X.s₀.heap.FunFrames X.base l → s.heap.FunFrames X.base l := by
    intro l
    induction l with
    | nil => intro _ _; trivial
    | cons env r ih =>
      intro hs hl
      obtain ⟨hk, ⟨L, o, hf, hn, ho, hd⟩, hr⟩ := hl
      have hL : L ∈ X.fs := hs L (by unfold frs; rw [List.filterMap_cons, hf]; exact List.mem_cons_self)
      obtain ⟨sl, e⟩ := I.base.slot L o ho (I.ok.frf L hL) hL fun z => I.ok.exfs L z hL
      exact ⟨hk, ⟨L, _, hf, hn, e, hd⟩, ih (fun b hb => hs b (by unfold frs; rw [List.filterMap_cons, hf]; exact List.mem_cons_of_mem _ hb)) hr⟩
  exact all X.outer (fun _ hb => hb) I.ok.funs

theorem Inv.stack (I : Inv X pins σ H s) : s.heap.FunFrames X.base X.stack := by
  rcases I.ok.stk with e | ⟨e, hf⟩
  · rw [e]; exact I.funs
  · rw [e]
    obtain ⟨m, hn, _⟩ := I.loc
    refine .cons (by rw [I.ok.kind]; decide) hf hn ?_ I.funs
    exact Heap.get?_none_of_le (Nat.le_trans I.ok.bsz I.ok.above)
theorem Inv.stkSub (I : Inv X pins σ H s) : ∀ b ∈ frs X.stack, b ∈ X.env.locals :: X.fs := fun b hb => by
  rcases I.ok.stk with e | ⟨e, hf⟩
  · rw [e] at hb; exact List.mem_cons_of_mem _ hb
  · rw [e] at hb
    unfold frs at hb
    rw [List.filterMap_cons, hf] at hb
    exact hb
theorem Inv.stkFree (I : Inv X pins σ H s) : ∀ b ∈ frs X.stack, H b = none := fun b hb => by
  rcases List.mem_cons.mp (I.stkSub b hb) with e | hb
  · rw [e]; exact I.free
  · obtain ⟨_, o, ho, _⟩ := I.ok.funs.mem hb
    exact I.base.free b o ho (I.ok.frf b hb) fun z => I.ok.exfs b z hb

theorem Inv.step {g' : Array GenState} {t' : Nat} {d' : Drawn} {ch : List Addr} (I : Inv X pins σ H s)
    (hch : ∀ b ∈ ch, (b ∈ X.ex ∨ X.s₀.heap.objs.size ≤ b) ∧ b ≠ X.env.locals ∧ (∀ x c, X.env.cells.lookup x = some c → c ≠ b) ∧ ∀ p ∈ X.pn ++ pins, p.1 ≠ b)
    (keep : ∀ b o, b ≠ X.env.locals → b ∉ X.fs → b ∉ ch → s.heap.get? b = some o → H b = none → h'.get? b = some o)
    (slot : ∀ b o, b ≠ X.env.locals → b ∈ X.fs → b ∉ ch → s.heap.get? b = some o → H b = none → ∃ sl, h'.get? b = some { o with slots := sl }) (free : ∀ b o, b ∉ ch → s.heap.get? b = some o → H b = none → H' b = none)
    (there : ∀ b o, b ∉ ch → s.heap.get? b = some o → ∃ o', h'.get? b = some o')
    (tups : ∀ b xs, H b = some (.tup xs) → H' b = some (.tup xs)) (frzs : ∀ b o u, H b = some (.frz o u) → H' b = some (.frz o u)) (tbls : ∀ b ps, H b = some (.tbl ps) → ∃ more, H' b = some (.tbl (ps ++ more)))
    (ns : ∀ m, s.heap.Ns X.env.locals m → h'.Ns X.env.locals m) (hok : HOk X.prog X.w H' h') (hg : AllBare g') :
    Inv X pins σ H' { s with heap := h', gens := g', drawn := d', toks := t' } := by
  have neL : ∀ b o, X.s₀.heap.get? b = some o → b ≠ X.env.locals := fun b o e => Nat.ne_of_lt (Nat.lt_of_lt_of_le (Heap.lt_size e) I.ok.above)
  have neC : ∀ b o, X.s₀.heap.get? b = some o → b ∉ X.ex → b ∉ ch := fun b o e hx hb => by
    rcases (hch b hb).1 with z | z
    · exact hx z
    · exact absurd (Nat.lt_of_lt_of_le (Heap.lt_size e) z) (Nat.lt_irrefl _)
  have cellK : ∀ x c, X.env.cells.lookup x = some c → ∀ v, s.heap.IsCell c v → h'.IsCell c v := fun x c e v ⟨o, ho, hd⟩ => by
    have nch : c ∉ ch := fun z => (hch c z).2.2.1 x c e rfl
    by_cases hc : c ∈ X.fs
    · obtain ⟨sl, q⟩ := slot c o (I.cne x c e) hc nch ho (I.freeC x c e)
      exact ⟨_, q, hd⟩
    · exact ⟨o, keep c o (I.cne x c e) hc nch ho (I.freeC x c e), hd⟩
  refine ⟨I.ok, I.os, hg, ⟨fun b o e n hb hx => ?_, fun b o e n hb hx => ?_, fun b o e n hx => ?_, fun b o e hx => ?_, fun b xs e => tups b xs (I.base.tups b xs e), fun b o xs e => frzs b o xs (I.base.frzs b o xs e), fun b ps e => ?_⟩, ?_, fun x c e => ?_, ?_, fun x c e => ?_, fun p hp => ?_, hok, I.len⟩
  · exact keep b o (neL b o e) hb (neC b o e hx) (I.base.keep b o e n hb hx) (I.base.free b o e n hx)
  · obtain ⟨sl, e1⟩ := I.base.slot b o e n hb hx
    obtain ⟨sl', e2⟩ := slot b _ (neL b o e) hb (neC b o e hx) e1 (I.base.free b o e n hx)
    exact ⟨sl', e2⟩
  · obtain ⟨o', e1⟩ := I.base.there b o e hx
    exact free b o' (neC b o e hx) e1 (I.base.free b o e n hx)
  · obtain ⟨o', e1⟩ := I.base.there b o e hx
    exact there b o' (neC b o e hx) e1
  · obtain ⟨m1, e1⟩ := I.base.tbls b ps e
    obtain ⟨m2, e2⟩ := tbls b _ e1
    exact ⟨m1 ++ m2, by rw [e2, Array.append_assoc]⟩
  · obtain ⟨m, hn, hl⟩ := I.loc
    refine ⟨m, ns m hn, fun i x v e1 e2 e3 => ?_⟩
    obtain ⟨u, r, l⟩ := hl i x v e1 e2 e3
    refine ⟨u, r, ?_⟩
    rcases l with l | ⟨k, c, e, z⟩
    · exact .inl l
    · exact .inr ⟨k, c, e, cellK x c e _ z⟩
  · obtain ⟨v, z⟩ := I.cell x c e
    exact ⟨v, cellK x c e v z⟩
  · obtain ⟨m, ⟨o, _, _, ho, _⟩, _⟩ := I.loc
    exact free _ o (fun z => (hch _ z).2.1 rfl) ho I.free
  · obtain ⟨v, o, ho, hd⟩ := I.cell x c e
    exact free c o (fun z => (hch c z).2.2.1 x c e rfl) ho (I.freeC x c e)
  · obtain ⟨e, n, ne, nf, d⟩ := I.pin p hp
    have nch : p.1 ∉ ch := fun z => (hch p.1 z).2.2.2 p hp rfl
    exact ⟨keep p.1 p.2 ne nf nch e n, free p.1 p.2 nch e n, ne, nf, d⟩
theorem Inv.un {t' : Nat} (I : Inv X pins σ H s) (u : Un X.fs [] H H' s.heap h') (hok : HOk X.prog X.w H' h') : Inv X pins σ H' { s with heap := h', toks := t' } := by
  obtain ⟨m, ⟨o, es, ep, ho, r⟩, _⟩ := id I.loc
  obtain ⟨sl, hL⟩ := u.any ho I.free (by simp)
  exact I.step (g' := s.gens) (d' := s.drawn) (ch := []) (fun _ z => nomatch z) (fun b o _ hb _ e n => u.keep b o e n hb (by simp)) (fun b o _ hb _ e n => u.slot b o e n hb (by simp)) (fun b o _ e n => u.free b o e n (by simp)) (fun b o _ e => u.there b o e (by simp)) u.tups u.frzs u.tbls (fun m' hm => by
    obtain ⟨o', es', ep', ho', r'⟩ := hm
    rw [ho] at ho'; cases ho'
    exact ⟨_, es', ep', hL, r'⟩) hok I.bare
theorem Inv.call {g' : Array GenState} {t' : Nat} {d' : Drawn} {ch : List Addr} (I : Inv X pins σ H s) (u : Un (frs X.stack) ch H H' s.heap h') (hok : HOk X.prog X.w H' h') (hg : AllBare g')
    (hch : ∀ b ∈ ch, (b ∈ X.ex ∨ X.s₀.heap.objs.size ≤ b) ∧ b ≠ X.env.locals ∧ (∀ x c, X.env.cells.lookup x = some c → c ≠ b) ∧ ∀ p ∈ X.pn ++ pins, p.1 ≠ b) :
    Inv X pins σ H' { s with heap := h', gens := g', drawn := d', toks := t' } := by
  obtain ⟨m, ⟨o, es, ep, ho, r⟩, _⟩ := id I.loc
  obtain ⟨sl, hL⟩ := u.any ho I.free fun z => (hch _ z).2.1 rfl
  exact I.step (ch := ch) hch (fun b o hL hb hc e n => u.keep b o e n (fun z => (List.mem_cons.mp (I.stkSub b z)).elim hL hb) hc) (fun b o _ _ hc e n => u.any e n hc) (fun b o hc e n => u.free b o e n hc) (fun b o hc e => u.there b o e hc) u.tups u.frzs u.tbls (fun m' hm => by
    obtain ⟨o', es', ep', ho', r'⟩ := hm
    rw [ho] at ho'; cases ho'
    exact ⟨_, es', ep', hL, r'⟩) hok hg
theorem Inv.turned {t' : Nat} {it : Addr} (I : Inv X pins σ H s) (k : ∀ b o, b ≠ it → s.heap.get? b = some o → h'.get? b = some o) (hn : H it = none) (hL : it ≠ X.env.locals)
    (h1 : it ∈ X.ex ∨ X.s₀.heap.objs.size ≤ it) (h2 : ∀ x c, X.env.cells.lookup x = some c → c ≠ it) (h3 : ∀ p ∈ X.pn ++ pins, p.1 ≠ it) : Inv X pins σ H { s with heap := h', toks := t' } := by
  have nit : ∀ b u, H b = some u → b ≠ it := fun b u e z => by rw [z, hn] at e; cases e
  refine I.step (g' := s.gens) (d' := s.drawn) (ch := [it]) (fun b hb => ?_) (fun b o _ _ hc e _ => k b o (fun z => hc (by simp [z])) e) (fun b o _ _ hc e _ => ⟨o.slots, k b o (fun z => hc (by simp [z])) e⟩) (fun _ _ _ _ n => n)
    (fun b o hc e => ⟨o, k b o (fun z => hc (by simp [z])) e⟩) (fun _ _ e => e) (fun _ _ _ e => e) (fun b ps e => ⟨#[], by rw [e]; simp⟩) (fun m hm => ?_) (fun b u e => ?_) I.bare
  · have e : b = it := by simpa using hb
    subst e
    exact ⟨h1, hL, h2, h3⟩
  · obtain ⟨o, es, ep, ho, r⟩ := hm
    exact ⟨o, es, ep, k _ o (Ne.symm hL) ho, r⟩
  · refine (I.hok b u e).stay (fun c v hc q => k c v ?_ q) (fun _ q => q) fun _ _ q => q
    rcases hc with z | z
    · rw [z]; exact nit b u e
    · exact nit c _ z
theorem Inv.tok (I : Inv X pins σ H s) (t : Nat) : Inv X pins σ H { s with toks := t } := I.un (h' := s.heap) (t' := t) Un.refl I.hok
theorem Inv.kept {t' : Nat} (I : Inv X pins σ H s) (k : ∀ b u, s.heap.get? b = some u → h'.get? b = some u) : Inv X pins σ H { s with heap := h', toks := t' } := I.un (Un.kept k) (I.hok.kept k)
theorem Inv.laid {a : Addr} {o : HO} {t' : Nat} (I : Inv X pins σ H s) (k : ∀ b u, s.heap.get? b = some u → h'.get? b = some u) (hp : s.heap.objs.size ≤ a) (new : ObjOk X.prog X.w (upd H a o) h' a o) :
    Inv X pins σ (upd H a o) { s with heap := h', toks := t' } := I.un (Un.laid k hp (I.hok.fresh hp)) (I.hok.laid k hp new)
theorem Inv.write {x e : Addr} {o : HO} {t' : Nat} (I : Inv X pins σ H s) (mu : Mut (H x)) (he : e = x ∨ H e = some (.own x)) (k : ∀ b u, b ≠ e → s.heap.get? b = some u → h'.get? b = some u) (heo : ∃ u, h'.get? e = some u)
    (new : ObjOk X.prog X.w (upd H x o) h' x o) : Inv X pins σ (upd H x o) { s with heap := h', toks := t' } := I.un (Un.write mu he k heo) (I.hok.write mu he k heo new)
theorem Inv.pins_of {pins' : List (Addr × Obj)} (I : Inv X pins σ H s) (h : ∀ p ∈ pins', s.heap.get? p.1 = some p.2 ∧ H p.1 = none ∧ p.1 ≠ X.env.locals ∧ p.1 ∉ X.fs ∧ ∀ v, p.2.data ≠ .cell v) : Inv X pins' σ H s :=
  ⟨I.ok, I.os, I.bare, I.base, I.loc, I.cell, I.free, I.freeC, fun p hp => (List.mem_append.mp hp).elim (fun z => I.pin p (List.mem_append_left _ z)) (h p), I.hok, I.len⟩

theorem nodup_ix {N : List Str} (hN : N.Nodup) {i j : Nat} {x : Str} (a : N[i]? = some x) (b : N[j]? = some x) : i = j := by
  obtain ⟨h1, e1⟩ := List.getElem?_eq_some_iff.mp a
  obtain ⟨h2, e2⟩ := List.getElem?_eq_some_iff.mp b
  exact (List.getElem_inj hN).mp (e1.trans e2.symm)

theorem store_ok2 {M : Model} {A : Around} {E : Value → Shared → Prop} {i : Nat} {x : Str} {v : V} {u : Value} {Q : Unit → Shared → Prop} (I : Inv X pins σ H s) (hN : X.N.Nodup) (hi : X.N[i]? = some x) (hx : Loc X.env.scope x) (r : RelV v u)
    (h : ∀ s', Inv X pins (σ.set i (some v)) H s' → (∃ a, Heap.SameBut a s.heap s'.heap ∧ (a = X.env.locals ∨ X.env.cells.lookup x = some a)) → Q () s') (hf : X.fn x = true ∨ X.env.scope.names.lookup x = some .local := by first | exact .inl rfl | exact .inr rfl | assumption) : wpAny M A (storeName X.env x u) Q E s := by
  obtain ⟨m, hn, hl⟩ := id I.loc
  have hcls : (X.env.scope.kind == .class || (X.env.scope.kind == .module && X.env.locals != X.env.globals)) = false := by rw [I.ok.kind]; rfl
  have hiσ : i < σ.length := by rw [I.len]; exact (List.getElem?_eq_some_iff.mp hi).1
  have cne := I.cne
  have tracked : ∀ {a : Addr} {h' : Heap}, (∃ o, s.heap.get? a = some o ∧ H a = none) → Heap.SameBut a s.heap h' → HOk X.prog X.w H h' := fun {a h'} ha hs b ob e => by
    obtain ⟨_, _, hfree⟩ := ha
    refine (I.hok b ob e).stay (fun c w' hc q => (hs.2 c ?_).trans q) (fun _ q => q) fun _ _ q => q
    rintro rfl
    rcases hc with rfl | hc
    · rw [hfree] at e; cases e
    · rw [hfree] at hc; cases hc
  rcases hx with hk | hk
  · refine wpAny_storeName_local hk hn (fun h' hn' hs => ?_) hcls
    obtain ⟨oL, _, _, hoL, _⟩ := id hn
    refine h _ ⟨I.ok, I.os, I.bare, ⟨fun b o e n hb hx => ?_, fun b o e n hb hx => ?_, I.base.free, fun b o e hx => ?_, I.base.tups, I.base.frzs, I.base.tbls⟩, ⟨_, hn', fun j y v' e1 e2 e3 => ?_⟩, fun y c e => ?_, I.free, I.freeC, fun p hp => ?_, tracked ⟨oL, hoL, I.free⟩ hs, by simpa using I.len⟩ ⟨_, hs, .inl rfl⟩
    · exact (hs.2 b (Nat.ne_of_lt (Nat.lt_of_lt_of_le (Heap.lt_size e) I.ok.above))).trans (I.base.keep b o e n hb hx)
    · obtain ⟨sl, e1⟩ := I.base.slot b o e n hb hx
      exact ⟨sl, (hs.2 b (Nat.ne_of_lt (Nat.lt_of_lt_of_le (Heap.lt_size e) I.ok.above))).trans e1⟩
    · obtain ⟨o', e1⟩ := I.base.there b o e hx
      exact ⟨o', (hs.2 b (Nat.ne_of_lt (Nat.lt_of_lt_of_le (Heap.lt_size e) I.ok.above))).trans e1⟩
    · by_cases hj : j = i
      · subst hj
        rw [hi] at e1; cases e1
        rw [List.getElem?_set_self hiσ] at e2
        cases e2
        exact ⟨u, r, .inl ⟨hk, by simp⟩⟩
      · rw [List.getElem?_set_ne (Ne.symm hj)] at e2
        obtain ⟨u', r', q⟩ := hl j y v' e1 e2 e3
        refine ⟨u', r', ?_⟩
        rcases q with ⟨k, e⟩ | ⟨k, c, e, z⟩
        · refine .inl ⟨k, ?_⟩
          have : y ≠ x := fun e => hj (nodup_ix hN e1 (e ▸ hi))
          simp [this, e]
        · exact .inr ⟨k, c, e, z.sameBut hs (cne y c e)⟩
    · obtain ⟨w', z⟩ := I.cell y c e
      exact ⟨w', z.sameBut hs (cne y c e)⟩
    · obtain ⟨e, n, ne, nf, d⟩ := I.pin p hp
      exact ⟨(hs.2 p.1 ne).trans e, n, ne, nf, d⟩
  · have hfn : X.fn x = true := by
      rcases hf with z | z
      · exact z
      · rw [z] at hk; cases hk
    obtain ⟨c, hc⟩ := I.ok.has x (.inl hk)
    obtain ⟨w', z⟩ := I.cell x c hc
    refine wpAny_storeName_cell I.ok.kind hk hc z (fun h' hc' hs => ?_)
    obtain ⟨oc, hoc, hocd⟩ := id z
    refine h { s with heap := h' } ⟨I.ok, I.os, I.bare, ⟨fun b o e n hb hx => ?_, fun b o e n hb hx => ?_, I.base.free, fun b o e hx => ?_, I.base.tups, I.base.frzs, I.base.tbls⟩, ⟨m, hn.sameBut hs (Ne.symm (cne x c hc)), fun j y v' e1 e2 e3 => ?_⟩, fun y c' e => ?_, I.free, I.freeC, fun p hp => ?_, tracked ⟨oc, hoc, I.freeC x c hc⟩ hs, by simpa using I.len⟩ ⟨c, hs, .inr hc⟩
    · exact (hs.2 b (Nat.ne_of_lt (Nat.lt_of_lt_of_le (Heap.lt_size e) (I.ok.cab x c hfn hc)))).trans (I.base.keep b o e n hb hx)
    · obtain ⟨sl, e1⟩ := I.base.slot b o e n hb hx
      exact ⟨sl, (hs.2 b (Nat.ne_of_lt (Nat.lt_of_lt_of_le (Heap.lt_size e) (I.ok.cab x c hfn hc)))).trans e1⟩
    · obtain ⟨o', e1⟩ := I.base.there b o e hx
      exact ⟨o', (hs.2 b (Nat.ne_of_lt (Nat.lt_of_lt_of_le (Heap.lt_size e) (I.ok.cab x c hfn hc)))).trans e1⟩
    · by_cases hj : j = i
      · subst hj
        rw [hi] at e1; cases e1
        rw [List.getElem?_set_self hiσ] at e2
        cases e2
        exact ⟨u, r, .inr ⟨.inl hk, c, hc, hc'⟩⟩
      · rw [List.getElem?_set_ne (Ne.symm hj)] at e2
        obtain ⟨u', r', q⟩ := hl j y v' e1 e2 e3
        refine ⟨u', r', ?_⟩
        rcases q with q | ⟨k, c', e, z'⟩
        · exact .inl q
        · refine .inr ⟨k, c', e, z'.sameBut hs ?_⟩
          rintro rfl
          exact hj (nodup_ix hN e1 (I.ok.inj _ _ _ e hc ▸ hi))
    · by_cases hcc : c' = c
      · subst hcc; exact ⟨_, hc'⟩
      · obtain ⟨w2, z2⟩ := I.cell y c' e
        exact ⟨w2, z2.sameBut hs hcc⟩
    · obtain ⟨e, n, ne, nf, d⟩ := I.pin p hp
      refine ⟨(hs.2 p.1 ?_).trans e, n, ne, nf, d⟩
      intro q
      rw [q, hoc] at e
      have q' : oc = p.2 := Option.some.inj e
      exact d w' (by rw [← q']; exact hocd)
theorem store_ok {M : Model} {A : Around} {E : Value → Shared → Prop} {i : Nat} {x : Str} {v : V} {u : Value} {Q : Unit → Shared → Prop} (I : Inv X pins σ H s) (hN : X.N.Nodup) (hi : X.N[i]? = some x) (hx : Loc X.env.scope x) (r : RelV v u)
    (h : ∀ s', Inv X pins (σ.set i (some v)) H s' → Q () s') (hf : X.fn x = true ∨ X.env.scope.names.lookup x = some .local := by first | exact .inl rfl | exact .inr rfl | assumption) : wpAny M A (storeName X.env x u) Q E s :=
  store_ok2 I hN hi hx r (fun s' I' _ => h s' I') hf
theorem Inv.call' {s' : Shared} {ch : List Addr} (I : Inv X pins σ H s) (ho : s'.os = s.os) (u : Un (frs X.stack) ch H H' s.heap s'.heap) (hok : HOk X.prog X.w H' s'.heap) (hg : AllBare s'.gens)
    (hch : ∀ b ∈ ch, (b ∈ X.ex ∨ X.s₀.heap.objs.size ≤ b) ∧ b ≠ X.env.locals ∧ (∀ x c, X.env.cells.lookup x = some c → c ≠ b) ∧ ∀ p ∈ X.pn ++ pins, p.1 ≠ b) : Inv X pins σ H' s' := by
  obtain ⟨h', g', d', t', o'⟩ := s'
  have e : o' = s.os := ho
  subst e
  exact I.call (g' := g') (t' := t') (d' := d') u hok hg hch
end

abbrev XK := Value → Option Addr → Hp → Prop
abbrev St := List (Option V)
abbrev VK := V → Hp → Prop
abbrev TE := St → Hp → VK → Prop
abbrev TT := St → Hp → (Bool → Hp → Prop) → Prop
abbrev TA := St → Hp → (List V → Hp → Prop) → Prop
structure Ends where
  nx : St → Hp → Prop
  rt : VK
  bk : St → Hp → Prop := fun _ _ => False
  ct : St → Hp → Prop := fun _ _ => False
abbrev TS := Ends → St → Hp → Prop

def EP (X : Cx) (pins : List (Addr × Obj)) (σ : St) (Q : VK) (u : Value) (s' : Shared) : Prop := ∃ v H', Inv X pins σ H' s' ∧ RelV v u ∧ Q v H'
def TP (X : Cx) (pins : List (Addr × Obj)) (σ : St) (Q : Bool → Hp → Prop) (b : Bool) (s' : Shared) : Prop := ∃ H', Inv X pins σ H' s' ∧ Q b H'
def AP (X : Cx) (pins : List (Addr × Obj)) (σ : St) (Q : List V → Hp → Prop) (us : List Value) (s' : Shared) : Prop := ∃ vs H', Inv X pins σ H' s' ∧ Vals vs us ∧ Q vs H'
def SP (X : Cx) (pins : List (Addr × Obj)) (D : Ends) (f : Flow) (s' : Shared) : Prop :=
  match f with
  | .next => ∃ σ' H', Inv X pins σ' H' s' ∧ D.nx σ' H'
  | .brk => ∃ σ' H', Inv X pins σ' H' s' ∧ D.bk σ' H'
  | .cont => ∃ σ' H', Inv X pins σ' H' s' ∧ D.ct σ' H'
  | .ret u => ∃ v σ' H', Inv X pins σ' H' s' ∧ RelV v u ∧ D.rt v H'

def PE (X : Cx) (e : Expr) (t : TE) : Prop :=
  ∀ (pins : List (Addr × Obj)) (s : Shared) (σ : St) (H : Hp) (Q : VK), Inv X pins σ H s → t σ H Q → wpAny (model X.prog X.w) X.A (eval e X.env) (EP X pins σ Q) X.xe s
def PT (X : Cx) (e : Expr) (t : TT) : Prop :=
  ∀ (pins : List (Addr × Obj)) (s : Shared) (σ : St) (H : Hp) (Q : Bool → Hp → Prop), Inv X pins σ H s → t σ H Q → wpAny (model X.prog X.w) X.A (isTrue e X.env (eval e X.env)) (TP X pins σ Q) X.xe s
def PW (X : Cx) (e : Expr) (t : TT) : Prop :=
  ∀ (whole : Sem Value) (pins : List (Addr × Obj)) (s : Shared) (σ : St) (H : Hp) (Q : Bool → Hp → Prop), Inv X pins σ H s → t σ H Q → wpAny (model X.prog X.w) X.A (isTrue e X.env whole) (TP X pins σ Q) X.xe s
theorem PW.pt {X : Cx} {e : Expr} {t : TT} (h : PW X e t) : PT X e t := h _
def PA (X : Cx) (es : List Expr) (t : TA) : Prop :=
  ∀ (pos : Pos) (pins : List (Addr × Obj)) (s : Shared) (σ : St) (H : Hp) (Q : List V → Hp → Prop), Inv X pins σ H s → t σ H Q → wpAny (model X.prog X.w) X.A (spliced (backTo pos (starEach es X.env))) (AP X pins σ Q) X.xe s
def PS (X : Cx) (st : Stmt) (t : TS) : Prop :=
  ∀ (pins : List (Addr × Obj)) (s : Shared) (σ : St) (H : Hp) (D : Ends), Inv X pins σ H s → t D σ H → wpAny (model X.prog X.w) X.A (exec st X.env) (SP X pins D) X.xe s
def PSs (X : Cx) (st : List Stmt) (t : TS) : Prop :=
  ∀ (pins : List (Addr × Obj)) (s : Shared) (σ : St) (H : Hp) (D : Ends), Inv X pins σ H s → t D σ H → wpAny (model X.prog X.w) X.A (execs st X.env) (SP X pins D) X.xe s
theorem thn {α : Type} {t : Sem α} {Q Q' : α → Shared → Prop} {M : Model} {A : Around} {E : Value → Shared → Prop} {s : Shared} (h : wpAny M A t Q E s) (hQ : ∀ a s, Q a s → Q' a s) : wpAny M A t Q' E s := wpAny_mono h hQ fun _ _ x => x
end L2

namespace L2
open PySem PySem.Spec PyProof.Rows
section
variable {X : Cx}

def tVar (i : Nat) : TE := fun σ H Q => ∃ v, σ[i]? = some (some v) ∧ Q v H
def tC (v : V) : TE := fun _ H Q => Q v H
theorem pe_var {i : Nat} {x : Str} {pos : Pos} (hN : X.N[i]? = some x) (hv : Vis X.env.scope x) (hd : (x == ("__debug__" : Str)) = false := by decide) (hcd : (x == ("__classdict__" : Str)) = false := by decide) : PE X (.Name x pos) (tVar i) := by
  intro pins s σ H Q I h
  obtain ⟨v, e, h⟩ := h
  obtain ⟨m, hn, hl⟩ := I.loc
  obtain ⟨u, r, l⟩ := hl i x v hN e hv
  have fin : EP X pins σ Q u s := ⟨v, H, I, r, h⟩
  rcases l with ⟨hk, hm⟩ | ⟨hk, c, hc, hcell⟩
  · exact wpAny_Name (wpAny_loadName_local I.ok.kind hk hn hm fin) hd
  · rcases hk with hk | hk
    · exact wpAny_Name (wpAny_loadName_cell I.ok.kind hk hc hcell fin) hd
    · exact wpAny_Name (wpAny_loadName_free I.ok.kind hk hc hcell fin hcd) hd
theorem pe_int {i j pos} : PE X (.Constant (.int i) j pos) (tC (.int i)) := fun _ _ _ H _ I h => wpAny_Constant_int ⟨.int i, H, I.tok _, ⟨_, rfl⟩, h⟩
theorem pe_bl {b j pos} : PE X (.Constant (.bool b) j pos) (tC (.bl b)) := fun _ _ _ H _ I h => Constant_bool ⟨.bl b, H, I, rfl, h⟩
theorem pe_non {j pos} : PE X (.Constant .none j pos) (tC .non) := fun _ _ _ H _ I h => Constant_none ⟨.non, H, I, rfl, h⟩
theorem pe_str {x j pos} : PE X (.Constant (.str x) j pos) (tC (.str x)) := fun _ _ _ H _ I h => Calls.Constant_str ⟨.str x, H, I.tok _, ⟨_, rfl⟩, h⟩

def Gl (X : Cx) (x : Str) : Prop := X.env.kindOf x = some .globalImplicit
theorem ld_glob {E : Value → Shared → Prop} {pins : List (Addr × Obj)} {s : Shared} {σ : St} {H : Hp} {x : Str} {u : Value} {pos : Pos} {Q : Value → Shared → Prop} (I : Inv X pins σ H s) (hg : Gl X x) (hm : X.mg x = some u) (h : Q u s)
    (hd : (x == ("__debug__" : Str)) = false := by decide) : wpAny (model X.prog X.w) X.A (eval (.Name x pos) X.env) Q E s :=
  Calls.Name_function_global I.ok.kind hg (Calls.loadGlobal_global (by rw [I.ok.glob]; exact I.mod.glob.keeps I.bk) hm h) hd
theorem ld_blt {E : Value → Shared → Prop} {pins : List (Addr × Obj)} {s : Shared} {σ : St} {H : Hp} {x : Str} {u : Value} {pos : Pos} {Q : Value → Shared → Prop} (I : Inv X pins σ H s) (hg : Gl X x) (hm : X.mg x = none) (hv : bootBuiltins x = some u) (h : Q u s)
    (hn : x ≠ "__name__" := by decide) (hd : (x == ("__debug__" : Str)) = false := by decide) : wpAny (model X.prog X.w) X.A (eval (.Name x pos) X.env) Q E s := by
  obtain ⟨mb, h1, h2⟩ := I.mod.blt
  exact Calls.Name_function_global I.ok.kind hg (Calls.loadGlobal_builtin (by rw [I.ok.glob]; exact I.mod.glob.keeps I.bk) hm (by rw [I.ok.blt]; exact h1.keeps I.bk) ((h2 x hn).trans hv) h) hd
theorem pe_glob {x : Str} {v : V} {u : Value} {pos : Pos} (hg : Gl X x) (hm : X.mg x = some u) (r : RelV v u) (hd : (x == ("__debug__" : Str)) = false := by decide) : PE X (.Name x pos) (tC v) :=
  fun _ _ _ H _ I h => ld_glob I hg hm ⟨v, H, I, r, h⟩ hd
theorem pe_bltn {x : Str} {v : V} {u : Value} {pos : Pos} (hg : Gl X x) (hm : X.mg x = none) (hv : bootBuiltins x = some u) (r : RelV v u) (hn : x ≠ "__name__" := by decide) (hd : (x == ("__debug__" : Str)) = false := by decide) : PE X (.Name x pos) (tC v) :=
  fun _ _ _ H _ I h => ld_blt I hg hm hv ⟨v, H, I, r, h⟩ hn hd

variable {a b : Expr} {ta tb : TE} {pos : Pos}
def PC (X : Cx) (op : CmpOp) (a b : Expr) (t : TE) : Prop :=
  ∀ (pins : List (Addr × Obj)) (s : Shared) (σ : St) (H : Hp) (Q : VK), Inv X pins σ H s → t σ H Q →
    wpAny (model X.prog X.w) X.A (eval a X.env) (fun v s₁ => wpAny (model X.prog X.w) X.A (eval b X.env) (fun u s₂ => wpAny (model X.prog X.w) X.A (compareOp op v u) (EP X pins σ Q) X.xe s₂) X.xe s₁) X.xe s
def tIsN (ta : TE) : TE := fun σ H Q => ta σ H fun x H1 => Q (.bl (decide (x = .non))) H1
def tNotN (ta : TE) : TE := fun σ H Q => ta σ H fun x H1 => Q (.bl (!decide (x = .non))) H1
def tB (t : TE) : TT := fun σ H Q => t σ H fun x H1 => ∃ c, x = .bl c ∧ Q c H1
theorem pt_val {e : Expr} {t : TE} (h : PE X e t) (he : ∀ whole, isTrue e X.env whole = (do let v ← whole; standAt e.pos; holding [v] (truthy v)) := by intro _; rfl) : PT X e (tB t) := by
  intro pins s σ H Q I hw
  refine isTrue_plain (thn (h pins s σ H _ I hw) fun v s1 ⟨x, H1, I1, r1, q1⟩ => ?_) (he _)
  obtain ⟨d, rfl, q⟩ := q1
  cases r1
  exact wpAny_truthy_bool ⟨H1, I1, q⟩

variable {tA tB' : TT} {rest : List Expr}
def tAnd (t u : TT) : TT := fun σ H Q => t σ H fun c H1 => if c = true then u σ H1 Q else Q false H1
def tOr (t u : TT) : TT := fun σ H Q => t σ H fun c H1 => if c = true then Q true H1 else u σ H1 Q
def tNot (t : TT) : TT := fun σ H Q => t σ H fun c H1 => Q (!c) H1
theorem pw_and1 (ha : PT X a tA) : PW X (.BoolOp .And [a] pos) tA := by
  intro wh pins s σ H Q I h
  refine isTrue_and (thn (ha pins s σ H Q I h) fun c s1 e => ?_)
  cases c with
  | true => exact isTrue_and_nil e
  | false => exact e
theorem pw_or1 (ha : PT X a tA) : PW X (.BoolOp .Or [a] pos) tA := by
  intro wh pins s σ H Q I h
  refine isTrue_or (thn (ha pins s σ H Q I h) fun c s1 e => ?_)
  cases c with
  | false => exact isTrue_or_nil e
  | true => exact e
theorem pw_and (ha : PT X a tA) (hb : PW X (.BoolOp .And (b :: rest) pos) tB') : PW X (.BoolOp .And (a :: b :: rest) pos) (tAnd tA tB') := by
  intro wh pins s σ H Q I h
  refine isTrue_and (thn (ha pins s σ H _ I h) fun c s1 ⟨H1, I1, q1⟩ => ?_)
  cases c with
  | true => exact hb wh pins s1 σ H1 Q I1 q1
  | false => exact ⟨H1, I1, q1⟩
theorem pw_or (ha : PT X a tA) (hb : PW X (.BoolOp .Or (b :: rest) pos) tB') : PW X (.BoolOp .Or (a :: b :: rest) pos) (tOr tA tB') := by
  intro wh pins s σ H Q I h
  refine isTrue_or (thn (ha pins s σ H _ I h) fun c s1 ⟨H1, I1, q1⟩ => ?_)
  cases c with
  | true => exact ⟨H1, I1, q1⟩
  | false => exact hb wh pins s1 σ H1 Q I1 q1
theorem pt_not (ha : PT X a tA) : PT X (.UnaryOp .Not a pos) (tNot tA) := by
  intro pins s σ H Q I h
  exact isTrue_not (ha pins s σ H (fun c H1 => Q (!c) H1) I h)
def tAndV (ta tb : TE) : TE := fun σ H Q => ta σ H fun x H1 => ∃ c, x = .bl c ∧ if c = true then tb σ H1 Q else Q (.bl false) H1
def tOrV (ta tb : TE) : TE := fun σ H Q => ta σ H fun x H1 => ∃ c, x = .bl c ∧ if c = true then Q (.bl true) H1 else tb σ H1 Q
def tNotV (ta : TE) : TE := fun σ H Q => ta σ H fun x H1 => ∃ c, x = .bl c ∧ Q (.bl (!c)) H1
theorem pe_one {op} {t : TE} (h : PE X a t) : PE X (.BoolOp op [a] pos) t := fun pins s σ H Q I hw => BoolOp_one (h pins s σ H Q I hw)
theorem pe_and (ha : PE X a ta) (hb : PE X (.BoolOp .And (b :: rest) pos) tb) : PE X (.BoolOp .And (a :: b :: rest) pos) (tAndV ta tb) := by
  intro pins s σ H Q I h
  refine BoolOp_and (thn (ha pins s σ H _ I h) fun v s1 ⟨x, H1, I1, r1, q1⟩ => ?_)
  obtain ⟨c, rfl, q1⟩ := q1
  cases r1
  refine wpAny_truthy_bool ?_
  cases c with
  | true => exact hb pins s1 σ H1 Q I1 q1
  | false => exact ⟨.bl false, H1, I1, rfl, q1⟩
theorem pe_or (ha : PE X a ta) (hb : PE X (.BoolOp .Or (b :: rest) pos) tb) : PE X (.BoolOp .Or (a :: b :: rest) pos) (tOrV ta tb) := by
  intro pins s σ H Q I h
  refine BoolOp_or (thn (ha pins s σ H _ I h) fun v s1 ⟨x, H1, I1, r1, q1⟩ => ?_)
  obtain ⟨c, rfl, q1⟩ := q1
  cases r1
  refine wpAny_truthy_bool ?_
  cases c with
  | false => exact hb pins s1 σ H1 Q I1 q1
  | true => exact ⟨.bl true, H1, I1, rfl, q1⟩
theorem pe_not (ha : PE X a ta) : PE X (.UnaryOp .Not a pos) (tNotV ta) := by
  intro pins s σ H Q I h
  refine UnaryOp_ (thn (ha pins s σ H _ I h) fun v s1 ⟨x, H1, I1, r1, q1⟩ => ?_)
  obtain ⟨c, rfl, q1⟩ := q1
  cases r1
  exact not_of (wpAny_truthy_bool ⟨.bl (!c), H1, I1, rfl, q1⟩)
end
end L2

namespace L2
open PySem PySem.Spec PyProof.Rows

def SqL (K : PySem.W.Frag) (H : Hp) (a : Addr) (xs : List V) : Prop :=
  Rd H a (.lst xs) ∨
    ∃ (o : Obj) (its : Array Value) (n : Nat), K.lookup a = some o ∧ o.cls = .type "list" ∧ o.dict = none ∧ o.data = .seq its n ∧ its.size ≤ sizeLine ∧ Vals xs its.toList
def SqT (K : PySem.W.Frag) (H : Hp) (a : Addr) (xs : List V) : Prop :=
  Rd H a (.tup xs) ∨
    ∃ (o : Obj) (its : Array Value) (n : Nat), K.lookup a = some o ∧ o.cls = .type "tuple" ∧ o.data = .seq its n ∧ its.size ≤ sizeLine ∧ Vals xs its.toList
def absV : Value → Option V
  | .none => some .non
  | .bool b => some (.bl b)
  | .int i _ => some (.int i)
  | .str x _ => some (.str x)
  | .bytes b _ => some (.byt b)
  | .float b _ => some (.flt b)
  | .ref a => some (.ref a)
  | .type n => some (.ty n)
  | _ => none
theorem RelV.abs {x : V} {u : Value} (r : RelV x u) : absV u = some x := by
  cases x with
  | non => cases r; rfl
  | bl _ => cases r; rfl
  | int _ => obtain ⟨t, rfl⟩ := r; rfl
  | str _ => obtain ⟨t, rfl⟩ := r; rfl
  | byt _ => obtain ⟨t, rfl⟩ := r; rfl
  | flt _ => obtain ⟨t, rfl⟩ := r; rfl
  | ref _ => cases r; rfl
  | ty _ => cases r; rfl
theorem RelV.inj {x y : V} {u : Value} (r : RelV x u) (q : RelV y u) : x = y := Option.some.inj (r.abs.symm.trans q.abs)
theorem Vals.inj : ∀ {xs ys : List V} {us : List Value}, Vals xs us → Vals ys us → xs = ys
  | _, _, _, .nil, .nil => rfl
  | _, _, _, .cons r t, .cons r' t' => by rw [r.inj r', Vals.inj t t']
section
variable {X : Cx} {pins : List (Addr × Obj)} {σ : St} {H : Hp} {s : Shared} {a : Addr} {xs ys : List V}
theorem SqL.of {K : PySem.W.Frag} (h : H a = some (.lst xs)) : SqL K H a xs := .inl (.inl h)
theorem SqT.of {K : PySem.W.Frag} (h : H a = some (.tup xs)) : SqT K H a xs := .inl (.inl h)
theorem Inv.list (I : Inv X pins σ H s) (h : SqL X.K H a xs) : ∃ its : List Value, Vals xs its ∧ PlainL s.heap a its.toArray ∧ xs.length ≤ sizeLine := by
  rcases h with h | ⟨o, its, n, hk, hc, hd, hs, hz, r⟩
  · obtain ⟨z, its, n, r, e⟩ := h.ok I.hok
    exact ⟨its, r, ⟨_, n, e, rfl, rfl, rfl⟩, z⟩
  · refine ⟨its.toList, r, ⟨o, n, I.kIn a o hk, hc, hd, by simpa using hs⟩, ?_⟩
    have e := r.length
    simp only [Array.length_toList] at e
    omega
theorem Inv.tuple (I : Inv X pins σ H s) (h : SqT X.K H a xs) : ∃ its : List Value, Vals xs its ∧ IsTup s.heap a its.toArray ∧ xs.length ≤ sizeLine := by
  rcases h with h | ⟨o, its, n, hk, hc, hs, hz, r⟩
  · obtain ⟨z, its, r, p⟩ := h.ok I.hok
    exact ⟨its, r, p, z⟩
  · refine ⟨its.toList, r, ⟨o, I.kIn a o hk, hc, n, by simpa using hs⟩, ?_⟩
    have e := r.length
    simp only [Array.length_toList] at e
    omega
theorem Inv.list_inj (I : Inv X pins σ H s) (h : SqL X.K H a xs) (h' : SqL X.K H a ys) : xs = ys := by
  obtain ⟨its, r, ⟨o, n, e, _, _, d⟩, _⟩ := I.list h
  obtain ⟨its', r', ⟨o', n', e', _, _, d'⟩, _⟩ := I.list h'
  rw [e] at e'; cases e'
  rw [d] at d'
  injection d' with d1 _
  have : its = its' := by simpa using congrArg Array.toList d1
  subst this
  exact r.inj r'
theorem Inv.tuple_inj (I : Inv X pins σ H s) (h : SqT X.K H a xs) (h' : SqT X.K H a ys) : xs = ys := by
  obtain ⟨its, r, ⟨o, e, _, n, d⟩, _⟩ := I.tuple h
  obtain ⟨its', r', ⟨o', e', _, n', d'⟩, _⟩ := I.tuple h'
  rw [e] at e'; cases e'
  rw [d] at d'
  injection d' with d1 _
  have : its = its' := by simpa using congrArg Array.toList d1
  subst this
  exact r.inj r'
end

abbrev Cx.wish (X : Cx) (E : Value → Shared → Prop) : Cx := { X with xe := E }
abbrev Cx.nox (X : Cx) : Cx := X.wish fun _ _ => False
theorem Cx.Ok.wish {X : Cx} (ok : X.Ok) (E : Value → Shared → Prop) : (X.wish E).Ok :=
  ⟨ok.mod, ok.kind, ok.glob, ok.blt, ok.above, ok.inj, ok.has, ok.cab, ok.hd, ok.frames, ok.stk, ok.exf, ok.bs, ok.bsz, ok.noex, ok.exfs, ok.funs, ok.frf⟩
theorem Cx.Ok.unwish {X : Cx} {E : Value → Shared → Prop} (ok : (X.wish E).Ok) : X.Ok :=
  ⟨ok.mod, ok.kind, ok.glob, ok.blt, ok.above, ok.inj, ok.has, ok.cab, ok.hd, ok.frames, ok.stk, ok.exf, ok.bs, ok.bsz, ok.noex, ok.exfs, ok.funs, ok.frf⟩
section
variable {X : Cx} {pins : List (Addr × Obj)} {σ : St} {H : Hp} {s : Shared} {E : Value → Shared → Prop}
theorem Inv.wish (I : Inv X pins σ H s) (E : Value → Shared → Prop) : Inv (X.wish E) pins σ H s := ⟨I.ok.wish E, I.os, I.bare, I.base, I.loc, I.cell, I.free, I.freeC, I.pin, I.hok, I.len⟩
theorem Inv.unwish (I : Inv (X.wish E) pins σ H s) : Inv X pins σ H s := ⟨I.ok.unwish, I.os, I.bare, I.base, I.loc, I.cell, I.free, I.freeC, I.pin, I.hok, I.len⟩
theorem SP.unwish {D : Ends} {f : Flow} {s' : Shared} (h : SP (X.wish E) pins D f s') : SP X pins D f s' := by
  cases f with
  | next => obtain ⟨σ', H', I, q⟩ := h; exact ⟨σ', H', I.unwish, q⟩
  | brk => obtain ⟨σ', H', I, q⟩ := h; exact ⟨σ', H', I.unwish, q⟩
  | cont => obtain ⟨σ', H', I, q⟩ := h; exact ⟨σ', H', I.unwish, q⟩
  | ret u => obtain ⟨v, σ', H', I, r, q⟩ := h; exact ⟨v, σ', H', I.unwish, r, q⟩
theorem PE.nox {e : Expr} {t : TE} (h : PE X.nox e t) : PE X e t := fun pins s σ H Q I hw =>
  wpAny_mono (h pins s σ H Q (I.wish _) hw) (fun _ _ ⟨v, H', I', r, q⟩ => ⟨v, H', I'.unwish, r, q⟩) fun _ _ z => False.elim z
theorem PT.nox {e : Expr} {t : TT} (h : PT X.nox e t) : PT X e t := fun pins s σ H Q I hw =>
  wpAny_mono (h pins s σ H Q (I.wish _) hw) (fun _ _ ⟨H', I', q⟩ => ⟨H', I'.unwish, q⟩) fun _ _ z => False.elim z
theorem PSs.nox {st : List Stmt} {t : TS} (h : PSs X.nox st t) : PSs X st t := fun pins s σ H D I hw =>
  wpAny_mono (h pins s σ H D (I.wish _) hw) (fun _ _ q => q.unwish) fun _ _ z => False.elim z
end

section
variable {X : Cx} {st : Stmt} {rest : List Stmt} {t u : TS} {e : Expr} {te : TE} {pos : Pos}
def tNext : TS := fun D σ H => D.nx σ H
def tSeq (t u : TS) : TS := fun D σ H => t { D with nx := u D } σ H
theorem pss_nil : PSs X [] tNext := fun _ _ σ H _ I h => wpAny_execs_nil ⟨σ, H, I, h⟩
theorem pss_cons (h1 : PS X st t) (h2 : PSs X rest u) : PSs X (st :: rest) (tSeq t u) := by
  intro pins s σ H D I h
  refine wpAny_execs_cons (thn (h1 pins s σ H { D with nx := u D } I h) fun f s1 q => ?_)
  cases f with
  | next =>
    obtain ⟨σ', H', I', q⟩ := q
    exact h2 pins s1 σ' H' D I' q
  | ret v => exact q
  | brk => exact q
  | cont => exact q
theorem pss_one (h1 : PS X st t) : PSs X [st] t := by
  intro pins s σ H D I h
  refine wpAny_execs_cons (thn (h1 pins s σ H D I h) fun f s1 q => ?_)
  cases f with
  | next => exact wpAny_execs_nil q
  | ret v => exact q
  | brk => exact q
  | cont => exact q
theorem Inv.quiet {pins : List (Addr × Obj)} {σ : St} {H : Hp} {s : Shared} (I : Inv X pins σ H s) : interactive X.env = false := by simp [interactive, I.ok.kind]
def tDrop (te : TE) : TS := fun D σ H => te σ H fun _ H1 => D.nx σ H1
theorem ps_expr (he : PE X e te) (hs : swapsWith e none pos.line X.env = pure false := by rfl) : PS X (.Expr e pos) (tDrop te) := by
  intro pins s σ H D I h
  exact wpAny_Expr_any (thn (he pins s σ H _ I h) fun v s1 ⟨x, H1, I1, r1, q1⟩ => ⟨σ, H1, I1, q1⟩) I.quiet hs
def tRet (te : TE) : TS := fun D σ H => te σ H D.rt
theorem ps_ret (he : PE X e te) : PS X (.Return (some e) pos) (tRet te) := by
  intro pins s σ H D I h
  exact wpAny_Return_some (thn (he pins s σ H _ I h) fun v s1 ⟨x, H1, I1, r1, q1⟩ => ⟨x, σ, H1, I1, r1, q1⟩)
def tIfS (c : TT) (t u : TS) : TS := fun D σ H => c σ H fun b H1 => if b = true then t D σ H1 else u D σ H1
theorem ps_if {c : Expr} {a b : List Stmt} {tc : TT} (hc : PT X c tc) (ha : PSs X a t) (hb : PSs X b u) : PS X (.If c a b pos) (tIfS tc t u) := by
  intro pins s σ H D I h
  refine wpAny_If (thn (hc pins s σ H _ I h) fun d s1 ⟨H1, I1, q1⟩ => ?_)
  cases d with
  | true => exact ha pins s1 σ H1 D I1 q1
  | false => exact hb pins s1 σ H1 D I1 q1
end

abbrev TG := V → St → Hp → (St → Hp → Prop) → Prop
abbrev TGs := List V → St → Hp → (St → Hp → Prop) → Prop
def PG (X : Cx) (target : Expr) (t : TG) : Prop :=
  ∀ (pins : List (Addr × Obj)) (s : Shared) (σ : St) (H : Hp) (v : V) (u : Value) (Q : St → Hp → Prop), Inv X pins σ H s → RelV v u → t v σ H Q →
    wpAny (model X.prog X.w) X.A (assign target X.env u) (fun _ s' => ∃ σ' H', Inv X pins σ' H' s' ∧ Q σ' H') X.xe s
def PGs (X : Cx) (ts : List Expr) (t : TGs) : Prop :=
  ∀ (pins : List (Addr × Obj)) (s : Shared) (σ : St) (H : Hp) (vs : List V) (us : List Value) (Q : St → Hp → Prop), Inv X pins σ H s → Vals vs us → t vs σ H Q →
    wpAny (model X.prog X.w) X.A (assignInOrder ((assignEach ts X.env).map (·.2)) us) (fun _ s' => ∃ σ' H', Inv X pins σ' H' s' ∧ Q σ' H') X.xe s
abbrev TSet := V → V → V → Hp → (Hp → Prop) → Prop
def PSet (X : Cx) (t : TSet) : Prop :=
  ∀ (pins : List (Addr × Obj)) (s : Shared) (σ : St) (H : Hp) (o i v : V) (ov iv u : Value) (Q : Hp → Prop), Inv X pins σ H s → RelV o ov → RelV i iv → RelV v u → t o i v H Q →
    wpAny (model X.prog X.w) X.A (setItem ov iv u) (fun _ s' => ∃ H', Inv X pins σ H' s' ∧ Q H') X.xe s
abbrev TIp := V → V → Hp → VK → Prop
section
variable {X : Cx} {pos : Pos}
def gName (i : Nat) : TG := fun v σ H Q => Q (σ.set i (some v)) H
theorem pg_name {i : Nat} {x : Str} (hN : X.N.Nodup) (hi : X.N[i]? = some x) (hx : Loc X.env.scope x) (hf : X.fn x = true ∨ X.env.scope.names.lookup x = some .local := by first | exact .inl rfl | exact .inr rfl | assumption) : PG X (.Name x pos) (gName i) := by
  intro pins s σ H v u Q I r h
  exact wpAny_assign_Name (store_ok I hN hi hx r (fun s' I' => ⟨_, H, I', h⟩) hf)
def gNil : TGs := fun vs σ H Q => vs = [] ∧ Q σ H
def gCons (t : TG) (u : TGs) : TGs := fun vs σ H Q => ∃ v r, vs = v :: r ∧ t v σ H fun σ' H' => u r σ' H' Q
theorem pgs_nil : PGs X [] gNil := by
  intro pins s σ H vs us Q I r h
  obtain ⟨e, h⟩ := h
  subst e
  cases r
  exact assignInOrder_nil ⟨σ, H, I, h⟩
theorem pgs_cons {e : Expr} {es : List Expr} {t : TG} {u : TGs} (h1 : PG X e t) (h2 : PGs X es u)
    (hs : (assignEach (e :: es) X.env).map (·.2) = assign e X.env :: (assignEach es X.env).map (·.2) := by rfl) : PGs X (e :: es) (gCons t u) := by
  intro pins s σ H vs us Q I r h
  obtain ⟨v, vr, e1, h⟩ := h
  subst e1
  cases r with
  | cons r rr =>
    rw [hs]
    refine assignInOrder_cons (thn (h1 pins s σ H _ _ _ I r h) fun _ s1 ⟨σ1, H1, I1, q1⟩ => ?_)
    exact h2 pins s1 σ1 H1 _ _ Q I1 rr q1
def gTup (K : PySem.W.Frag) (n : Nat) (t : TGs) : TG := fun v σ H Q => ∃ a xs, v = .ref a ∧ SqT K H a xs ∧ xs.length = n ∧ t xs σ H Q
theorem pg_tup {es : List Expr} {k : Nat} {t : TGs} {n : Nat} (hc : X.calm = true) (h : PGs X es t)
    (hn : (assignEach es X.env).length = n := by rfl) (hst : (assignEach es X.env).findIdx? (·.1) = none := by rfl) : PG X (.Tuple es k pos) (gTup X.K n t) := by
  intro pins s σ H v u Q I r hw
  obtain ⟨a, xs, e1, hq, hl, hw⟩ := hw
  subst e1
  cases r
  obtain ⟨its, rv, ht, hz⟩ := I.tuple hq
  refine assign_Tuple_tuple (I.ok.hd hc) ht (by simp [hn, ← hl, rv.length]) hst fun h' hx => ?_
  have I1 : Inv X pins σ H { s with heap := h' } := I.kept (t' := s.toks) fun b o e => hx b o (Nat.ne_of_lt (Heap.lt_size e)) e
  exact h pins _ σ H xs _ Q I1 (by simpa using rv) hw
def gSub (to ti : TE) (t : TSet) : TG := fun v σ H Q => to σ H fun o H1 => ti σ H1 fun i H2 => t o i v H2 fun H3 => Q σ H3
theorem pg_sub {o i : Expr} {to ti : TE} {t : TSet} (ho : PE X o to) (hi : PE X i ti) (hs : PSet X t)
    (ha : ∀ v, assign (.Subscript o i pos) X.env v = (do
      let ov ← holding [v] (eval o X.env)
      let iv ← holding [v, ov] (eval i X.env)
      standAt pos
      holding [v, ov, iv] (setItem ov iv v)
      release [v, ov, iv] []) := by intro _; rfl) : PG X (.Subscript o i pos) (gSub to ti t) := by
  intro pins s σ H v u Q I r h
  rw [ha]
  refine wpAny_bind (wpAny_holding (thn (ho pins s σ H _ I h) fun ov s1 ⟨x, H1, I1, r1, q1⟩ => ?_))
  refine wpAny_bind (wpAny_holding (thn (hi pins s1 σ H1 _ I1 q1) fun iv s2 ⟨y, H2, I2, r2, q2⟩ => ?_))
  refine wpAny_bind (wpAny_standAt (wpAny_bind (wpAny_holding (thn (hs pins s2 σ H2 x y v ov iv u _ I2 r1 r2 r q2) fun _ s3 ⟨H3, I3, q3⟩ => ?_))))
  exact wpAny_release ⟨σ, H3, I3, q3⟩
def tAsg (te : TE) (g : TG) : TS := fun D σ H => te σ H fun x H1 => g x σ H1 D.nx
theorem ps_asg {tg e : Expr} {te : TE} {g : TG} (he : PE X e te) (hg : PG X tg g) (hs : swapsWithSole [tg] e pos.line X.env = pure false := by rfl) (hw : swappedStores [tg] e X.env = pure none := by rfl)
    (h1 : (assignEach [tg] X.env).map (·.2) = [assign tg X.env] := by rfl) : PS X (.Assign [tg] e pos) (tAsg te g) := by
  intro pins s σ H D I h
  refine wpAny_Assign_stores (thn (he pins s σ H _ I h) fun v s1 ⟨x, H1, I1, r1, q1⟩ => ?_) hs hw
  rw [h1]
  exact thn (hg pins s1 σ H1 x v _ I1 r1 q1) fun _ s2 q => q
theorem ps_set {i : Nat} {x : Str} {e : Expr} {te : TE} {pos' : Pos} (hN : X.N.Nodup) (hi : X.N[i]? = some x) (hx : Loc X.env.scope x) (he : PE X e te) (hs : swapsWith e (some (.Name x pos')) pos.line X.env = pure false := by rfl) (hf : X.fn x = true ∨ X.env.scope.names.lookup x = some .local := by first | exact .inl rfl | exact .inr rfl | assumption) :
    PS X (.Assign [.Name x pos'] e pos) (tAsg te (gName i)) := by
  intro pins s σ H D I h
  refine wpAny_Assign_Name (thn (he pins s σ H _ I h) fun v s1 ⟨y, H1, I1, r1, q1⟩ => ?_) hs
  exact store_ok I1 hN hi hx r1 (fun s2 I2 => ⟨_, H1, I2, q1⟩) hf
def tAug (i : Nat) (te : TE) (ti : TIp) : TS := fun D σ H => ∃ x, σ[i]? = some (some x) ∧ te σ H fun y H1 => ti x y H1 fun z H2 => D.nx (σ.set i (some z)) H2
def ipI (f : Int → Int → Int) : TIp := fun x y H Q => ∃ i j, x = .int i ∧ y = .int j ∧ Q (.int (f i j)) H
end

section
variable {X : Cx} {pos : Pos}
def tWhile (c : TT) (tb : TS) : TS := fun D σ H => ∃ W : Nat → St → Hp → Prop, (∃ m, W m σ H) ∧ ∀ m σ H, W m σ H →
  c σ H fun b H1 => if b = true then ∃ N : St → Hp → Prop, (∀ σ' H', N σ' H' → ∃ m', m' < m ∧ W m' σ' H') ∧ tb { D with nx := N, ct := N, bk := D.nx } σ H1 else D.nx σ H1
theorem ps_while {c : Expr} {body : List Stmt} {tc : TT} {tb : TS} (hp : PassesOwn (model X.prog X.w) X.A X.env X.xe) (hc : PT X c tc) (hb : PSs X body tb) : PS X (.While c body [] pos) (tWhile tc tb) := by
  intro pins s σ H D I h
  obtain ⟨W, ⟨m0, w0⟩, turn⟩ := h
  refine wpAny_While (codeAny_whileLoop (fun n s' => ∃ σ' H', Inv X pins σ' H' s' ∧ W n σ' H') ?_ m0 ⟨σ, H, I, w0⟩)
  rintro n s1 ⟨σ1, H1, I1, w1⟩
  refine wpAny_passesOwn hp (thn (hc pins s1 σ1 H1 _ I1 (turn n σ1 H1 w1)) fun b s2 ⟨H2, I2, q2⟩ => ?_)
  cases b with
  | true =>
    obtain ⟨N, hN, q2⟩ := q2
    rw [if_pos rfl]
    refine wpAny_passesOwn hp (thn (hb pins s2 σ1 H2 _ I2 q2) fun f s3 q3 => ?_)
    cases f with
    | next =>
      obtain ⟨σ3, H3, I3, n3⟩ := q3
      obtain ⟨m', hm, w3⟩ := hN σ3 H3 n3
      exact ⟨m', hm, σ3, H3, I3, w3⟩
    | cont =>
      obtain ⟨σ3, H3, I3, n3⟩ := q3
      obtain ⟨m', hm, w3⟩ := hN σ3 H3 n3
      exact ⟨m', hm, σ3, H3, I3, w3⟩
    | brk => exact q3
    | ret v => exact q3
  | false =>
    rw [if_neg Bool.false_ne_true]
    exact wpAny_execs_nil ⟨σ1, H2, I2, q2⟩
end

structure It where
  go : Nat → Hp → Prop
  yld : Nat → Hp → V → Hp → Prop
  stop : Nat → Hp → Prop
def FpOk (X : Cx) (pins : List (Addr × Obj)) (H : Hp) (b : Addr) : Prop :=
  H b = none ∧ b ≠ X.env.locals ∧ b ∉ X.fs ∧ (b ∈ X.ex ∨ X.s₀.heap.objs.size ≤ b) ∧ (∀ x c, X.env.cells.lookup x = some c → c ≠ b) ∧ ∀ p ∈ X.pn ++ pins, p.1 ≠ b
theorem Inv.fpOk {X : Cx} {pins : List (Addr × Obj)} {σ : St} {H H' : Hp} {s : Shared} {b : Addr} (I : Inv X pins σ H s) (hb : s.heap.objs.size ≤ b) (hn : H' b = none) : FpOk X pins H' b := by
  refine ⟨hn, Nat.ne_of_gt (Nat.lt_of_lt_of_le I.lt hb), I.nofs hb, .inr (Nat.le_trans I.sz hb), fun x c e z => ?_, fun p hp z => ?_⟩
  · obtain ⟨v, q⟩ := I.cell x c e
    exact absurd (Nat.lt_of_lt_of_le q.lt (by rw [z]; exact hb)) (Nat.lt_irrefl _)
  · exact absurd (Nat.lt_of_lt_of_le (Heap.lt_size (I.pin p hp).1) (by rw [z]; exact hb)) (Nat.lt_irrefl _)
structure Turn (P : Program) (w : World) (K : PySem.W.Frag) (tg : Expr) (J : It) (fp : List Addr) (it : Addr) (tn : Nat → Heap → Prop) : Prop where
  mem : it ∈ fp
  obj : ∀ i h, tn i h → ∀ b ∈ fp, ∃ o, h.get? b = some o ∧ ∀ v, o.data ≠ .cell v
  keep : ∀ i h h', tn i h → (∀ b ∈ fp, ∀ o, h.get? b = some o → h'.get? b = some o) → tn i h'
  item : ∀ (X : Cx), X.prog = P → X.w = w → X.K = K → X.calm = true → ∀ (i : Nat) (pins : List (Addr × Obj)) (s : Shared) (σ : St) (H : Hp) (E : Value → Shared → Prop), Inv X pins σ H s → (∀ b ∈ fp, FpOk X pins H b) → tn i s.heap → J.go i H →
    wpAny (model P w) X.A (pyNext (.ref it)) (fun r s1 => ∃ u, r = some u ∧
      wpAny (model P w) X.A (letOwnedTupleGo tg (.ref it) u) (fun _ s2 => ∃ x H', Inv X pins σ H' s2 ∧ RelV x u ∧ J.yld i H x H' ∧ tn (i + 1) s2.heap ∧ ∀ b ∈ fp, H' b = none) E s1) E s
  done : ∀ (X : Cx), X.prog = P → X.w = w → X.K = K → X.calm = true → ∀ (i : Nat) (pins : List (Addr × Obj)) (s : Shared) (σ : St) (H : Hp) (E : Value → Shared → Prop), Inv X pins σ H s → (∀ b ∈ fp, FpOk X pins H b) → tn i s.heap → J.stop i H →
    wpAny (model P w) X.A (pyNext (.ref it)) (fun r s1 => r = none ∧ Inv X pins σ H s1) E s
  self : ∀ (A : Around) (i : Nat) (s : Shared) (Q : Value → Shared → Prop) (E : Value → Shared → Prop), tn i s.heap → Q (.ref it) s → wpAny (model P w) A (pyIter (.ref it)) Q E s
abbrev TI := St → Hp → (It → Hp → Prop) → Prop
def PIE (X : Cx) (pins : List (Addr × Obj)) (σ : St) (tg : Expr) (R : It → Hp → Prop) (itv : Value) (s2 : Shared) : Prop :=
  ∃ (it : Addr) (fp : List Addr) (tn : Nat → Heap → Prop) (J : It) (H' : Hp), itv = .ref it ∧ Inv X pins σ H' s2 ∧ Turn X.prog X.w X.K tg J fp it tn ∧ tn 0 s2.heap ∧ (∀ b ∈ fp, FpOk X pins H' b) ∧ R J H'
def PI (X : Cx) (tg iter : Expr) (wi : TI) : Prop :=
  ∀ (pins : List (Addr × Obj)) (s : Shared) (σ : St) (H : Hp) (R : It → Hp → Prop), Inv X pins σ H s → wi σ H R →
    wpAny (model X.prog X.w) X.A (eval iter X.env) (fun v s1 => wpAny (model X.prog X.w) X.A (pyIter v) (PIE X pins σ tg R) X.xe s1) X.xe s

theorem go_of {M : Model} {A : Around} {E : Value → Shared → Prop} {s : Shared} {tg : Expr} {it : Addr} {u : Value} {o : Obj} {n : String} {vs : Array Value} {Q : Unit → Shared → Prop} (ho : s.heap.get? it = some o) (hc : o.cls = .type n) (hd : o.data = .fields vs)
    (hn : ["enumerate", "zip", "dict_itemiterator", "dict_reverseitemiterator", "odict_iterator", "itertools.zip_longest", "itertools.pairwise"].contains n = false) (hQ : Q () s) : wpAny M A (letOwnedTupleGo tg (.ref it) u) Q E s := by
  unfold letOwnedTupleGo
  cases tg <;> first
    | exact wpAny_pure hQ
    | (cases u <;> first
        | exact wpAny_pure hQ
        | (refine wpAny_bind (wpAny_load ho ?_)
           rw [hc, hd]
           show wpAny M A (if (["enumerate", "zip", "dict_itemiterator", "dict_reverseitemiterator", "odict_iterator", "itertools.zip_longest", "itertools.pairwise"].contains n && vs[0]? == some (rawInt _)) = true then _ else _) Q E s
           rw [if_neg (by intro h; rw [hn, Bool.false_and] at h; cases h)]
           exact wpAny_pure hQ))

def Itl (K : PySem.W.Frag) (a : Addr) : It :=
  ⟨fun i H => ∃ xs x, SqL K H a xs ∧ xs[i]? = some x, fun i H x H' => H' = H ∧ ∀ xs, SqL K H a xs → xs[i]? = some x, fun i H => ∃ xs, SqL K H a xs ∧ xs.length ≤ i⟩
def Itt (K : PySem.W.Frag) (a : Addr) : It :=
  ⟨fun i H => ∃ xs x, SqT K H a xs ∧ xs[i]? = some x, fun i H x H' => H' = H ∧ ∀ xs, SqT K H a xs → xs[i]? = some x, fun i H => ∃ xs, SqT K H a xs ∧ xs.length ≤ i⟩
def Itr (lo : Int) (n : Nat) : It := ⟨fun i _ => i < n, fun i H x H' => H' = H ∧ x = .int (lo + i), fun i _ => n ≤ i⟩
theorem turn_list {P : Program} {w : World} {K : PySem.W.Frag} {tg : Expr} (a it : Addr) : Turn P w K tg (Itl K a) [it] it (fun i h => h.IsListIter it a i) where
  mem := by simp
  obj := fun i h st b hb => by
    have e : b = it := by simpa using hb
    subst e
    obtain ⟨o, e, c, d⟩ := st
    exact ⟨o, e, fun v z => by rw [d] at z; cases z⟩
  keep := fun i h h' st k => st.at fun o e => k it (by simp) o e
  item := by
    intro X hP hw hK hc i pins s σ H E I hf st hg
    subst hP hw hK
    obtain ⟨xs, x, hq, hx⟩ := hg
    obtain ⟨its, rv, p, hz⟩ := I.list hq
    obtain ⟨u, hu, ru⟩ := rv.get hx
    obtain ⟨f0, f1, f2, f3, f4, f5⟩ := hf it (by simp)
    refine wpAny_pyNext_list_item st p.isList (x := u) (by simpa using hu) fun h' st' sb => ?_
    have I1 : Inv X pins σ H { s with heap := h' } := I.turned (t' := s.toks) (fun b o hb e => (sb.2 b hb).trans e) f0 f1 f3 f4 f5
    obtain ⟨o, e, c, d⟩ := id st'
    exact ⟨u, rfl, go_of (s := { s with heap := h' }) e c d (by decide) ⟨x, H, I1, ru, ⟨rfl, fun ys hy => by rw [I.list_inj hy hq]; exact hx⟩, st', fun b hb => (hf b hb).1⟩⟩
  done := by
    intro X hP hw hK hc i pins s σ H E I hf st hg
    subst hP hw hK
    obtain ⟨xs, hq, hx⟩ := hg
    obtain ⟨its, rv, p, hz⟩ := I.list hq
    obtain ⟨f0, f1, f2, f3, f4, f5⟩ := hf it (by simp)
    have hl := rv.length
    exact wpAny_pyNext_list_end (I.ok.hd hc) st p.isList (by simp; omega) fun h' eb => ⟨rfl, I.turned (t' := s.toks) (fun b o hb e => eb b o hb e) f0 f1 f3 f4 f5⟩
  self := fun _ _ _ _ _ st h => wpAny_pyIter_listiter st h
theorem turn_tuple {P : Program} {w : World} {K : PySem.W.Frag} {tg : Expr} (a it : Addr) : Turn P w K tg (Itt K a) [it] it (fun i h => h.IsTupleIter it a i) where
  mem := by simp
  obj := fun i h st b hb => by
    have e : b = it := by simpa using hb
    subst e
    obtain ⟨o, e, c, d⟩ := st
    exact ⟨o, e, fun v z => by rw [d] at z; cases z⟩
  keep := fun i h h' st k => st.at fun o e => k it (by simp) o e
  item := by
    intro X hP hw hK hc i pins s σ H E I hf st hg
    subst hP hw hK
    obtain ⟨xs, x, hq, hx⟩ := hg
    obtain ⟨its, rv, p, hz⟩ := I.tuple hq
    obtain ⟨u, hu, ru⟩ := rv.get hx
    obtain ⟨f0, f1, f2, f3, f4, f5⟩ := hf it (by simp)
    refine wpAny_pyNext_tuple_item st (show s.heap.IsTuple a its.toArray from p) (x := u) (by simpa using hu) fun h' st' sb => ?_
    have I1 : Inv X pins σ H { s with heap := h' } := I.turned (t' := s.toks) (fun b o hb e => (sb.2 b hb).trans e) f0 f1 f3 f4 f5
    obtain ⟨o, e, c, d⟩ := id st'
    exact ⟨u, rfl, go_of (s := { s with heap := h' }) e c d (by decide) ⟨x, H, I1, ru, ⟨rfl, fun ys hy => by rw [I.tuple_inj hy hq]; exact hx⟩, st', fun b hb => (hf b hb).1⟩⟩
  done := by
    intro X hP hw hK hc i pins s σ H E I hf st hg
    subst hP hw hK
    obtain ⟨xs, hq, hx⟩ := hg
    obtain ⟨its, rv, p, hz⟩ := I.tuple hq
    obtain ⟨f0, f1, f2, f3, f4, f5⟩ := hf it (by simp)
    have hl := rv.length
    exact wpAny_pyNext_tuple_end (I.ok.hd hc) st (show s.heap.IsTuple a its.toArray from p) (by simp; omega) fun h' eb => ⟨rfl, I.turned (t' := s.toks) (fun b o hb e => eb b o hb e) f0 f1 f3 f4 f5⟩
  self := fun _ _ _ _ _ st h => wpAny_pyIter_tupleiter st h
theorem turn_range {P : Program} {w : World} {K : PySem.W.Frag} {tg : Expr} (it : Addr) (lo : Int) (n : Nat) : Turn P w K tg (Itr lo n) [it] it (fun i h => IsRangeIter h it (lo + (i : Nat) * 1) ((n : Int) - (i : Nat)) 1) where
  mem := by simp
  obj := fun i h st b hb => by
    have e : b = it := by simpa using hb
    subst e
    exact ⟨_, st, fun v z => by
      have z' : Data.fields _ = Data.cell v := z
      cases z'⟩
  keep := fun i h h' st k => k it (by simp) _ st
  item := by
    intro X hP hw hK hc i pins s σ H E I hf st hg
    subst hP hw hK
    obtain ⟨f0, f1, f2, f3, f4, f5⟩ := hf it (by simp)
    have W := Walks.range (prog := X.prog) (w := X.w) (I.ok.hd hc) it lo 1 n
    refine W.item i s _ _ hg st fun v h' tk hv st' kk => ?_
    obtain ⟨t, rfl⟩ := hv
    have I1 : Inv X pins σ H { s with heap := h', toks := tk } := I.turned (fun b o hb e => kk b o (by simpa using hb) e) f0 f1 f3 f4 f5
    refine ⟨_, rfl, go_of (s := { s with heap := h', toks := tk }) (n := "range_iterator") st' rfl rfl (by decide) ⟨.int (lo + i), H, I1, ⟨t, ?_⟩, ⟨rfl, rfl⟩, st', fun b hb => (hf b hb).1⟩⟩
    rw [Int.mul_one]
  done := by
    intro X hP hw hK hc i pins s σ H E I hf st hg
    subst hP hw hK
    obtain ⟨f0, f1, f2, f3, f4, f5⟩ := hf it (by simp)
    exact wpAny_pyNext_range_end (I.ok.hd hc) st (by have : n ≤ i := hg; omega) fun h' eb => ⟨rfl, I.turned (t' := s.toks) (fun b o hb e => eb b o hb e) f0 f1 f3 f4 f5⟩
  self := fun _ _ _ _ _ st h => wpAny_pyIter_rangeiter st h
end L2

namespace L2
open PySem PySem.Spec PyProof.Rows
section
variable {X : Cx} {tg : Expr}
theorem range_it {pins : List (Addr × Obj)} {σ : St} {H : Hp} {s : Shared} {R : It → Hp → Prop} {E : Value → Shared → Prop} {lo hi : Int} {t u v : Tok} {tk : Nat} (I : Inv X pins σ H s) (h1 : -(2 ^ 62) ≤ lo) (h2 : lo < 2 ^ 62) (h3 : -(2 ^ 62) ≤ hi) (h4 : hi < 2 ^ 62)
    (q : R (Itr lo (hi - lo).toNat) H) : wpAny (model X.prog X.w) X.A (pyIter (.ref s.heap.objs.size)) (PIE X pins σ tg R) E { s with heap := s.heap.push { cls := .type "range", data := .fields #[.int lo t, .int hi u, .int 1 v] }, toks := tk } := by
  refine wpAny_pyIter_range (IsRange.new ..) (small_one h1 h2 h3 h4) ?_
  have I1 : Inv X pins σ H { s with heap := s.heap.push { cls := .type "range", data := .fields #[.int lo t, .int hi u, .int 1 v] }, toks := tk } := I.kept fun b o e => Heap.get?_push_of_some _ e
  refine ⟨(s.heap.push { cls := .type "range", data := .fields #[.int lo t, .int hi u, .int 1 v] }).objs.size, [(s.heap.push { cls := .type "range", data := .fields #[.int lo t, .int hi u, .int 1 v] }).objs.size], _, _, H, rfl,
    I1.kept (t' := tk) fun b o e => Heap.get?_push_of_some _ e, turn_range _ lo (hi - lo).toNat, ?_, fun b hb => ?_, q⟩
  · have e1 : lo + ((0 : Nat) : Int) * 1 = lo := by simp
    have e2 : (((hi - lo).toNat : Nat) : Int) - ((0 : Nat) : Int) = Builtin.Range.rangeSize lo hi 1 := by rw [rangeSize_one]; split <;> omega
    show IsRangeIter _ _ (lo + ((0 : Nat) : Int) * 1) ((((hi - lo).toNat : Nat) : Int) - ((0 : Nat) : Int)) 1
    rw [e1, e2]
    exact Heap.get?_push_size _ rfl
  · have e : b = (s.heap.push { cls := .type "range", data := .fields #[.int lo t, .int hi u, .int 1 v] }).objs.size := by simpa using hb
    subst e
    exact I1.fpOk (Nat.le_refl _) (I1.hok.fresh (Nat.le_refl _))
def iRng1 (ta : TA) : TI := fun σ H R => ta σ H fun vs H1 => ∃ j : Int, vs = [.int j] ∧ -(2 ^ 62) ≤ j ∧ j < 2 ^ 62 ∧ R (Itr 0 j.toNat) H1
theorem pi_range1 {a : Expr} {ta : TA} {p pos : Pos} (hg : Gl X "range") (hm : X.mg "range" = none) (ha : PA X [a] ta) (hs : starEach [a] X.env = [(false, eval a X.env)] := by rfl) : PI X tg (.Call (.Name "range" p) [a] [] pos) (iRng1 ta) := by
  intro pins s σ H R I h
  refine Call_ (ld_blt I hg hm boot_range (PyProof.Rows.callWith_type1 (thn (ha pos pins s σ H _ I h) fun us s1 ⟨vs, H1, I1, r1, q1⟩ => ?_) hs rfl))
  obtain ⟨j, e, q1, q2, q⟩ := q1
  subst e
  cases r1 with
  | cons r rr =>
    cases rr
    obtain ⟨t, rfl⟩ := r
    exact call_range_1 (range_it I1 (by omega) (by omega) q1 q2 (by simpa using q))
def tFor (wi : TI) (g : TG) (tb : TS) : TS := fun D σ H => wi σ H fun J H1 => ∃ W : Nat → Nat → St → Hp → Prop, (∃ m, W 0 m σ H1) ∧ ∀ i m σ H, W i m σ H →
  (J.stop i H ∧ D.nx σ H) ∨ (J.go i H ∧ ∃ N : St → Hp → Prop, (∀ σ' H', N σ' H' → ∃ m', m' < m ∧ W (i + 1) m' σ' H') ∧ ∀ x H', J.yld i H x H' → g x σ H' fun σ2 H2 => tb { D with nx := N, ct := N, bk := D.nx } σ2 H2)
def pinsAt (fp : List Addr) (h : Heap) : List (Addr × Obj) := fp.filterMap fun b => (h.get? b).map fun o => (b, o)
theorem mem_pinsAt {fp : List Addr} {h : Heap} {b : Addr} {o : Obj} (hb : b ∈ fp) (e : h.get? b = some o) : (b, o) ∈ pinsAt fp h := List.mem_filterMap.mpr ⟨b, hb, by rw [e]; rfl⟩
theorem of_pinsAt {fp : List Addr} {h : Heap} {p : Addr × Obj} (hp : p ∈ pinsAt fp h) : p.1 ∈ fp ∧ h.get? p.1 = some p.2 := by
  obtain ⟨b, hb, e⟩ := List.mem_filterMap.mp hp
  cases q : h.get? b with
  | none => rw [q] at e; cases e
  | some o =>
    rw [q] at e
    have e' : (b, o) = p := Option.some.inj e
    subst e'
    exact ⟨hb, q⟩
theorem Inv.pinned {pins : List (Addr × Obj)} {σ : St} {H : Hp} {s : Shared} {fp : List Addr} (I : Inv X pins σ H s) (hf : ∀ b ∈ fp, FpOk X pins H b) (ho : ∀ b ∈ fp, ∃ o, s.heap.get? b = some o ∧ ∀ v, o.data ≠ .cell v) : Inv X (pins ++ pinsAt fp s.heap) σ H s :=
  I.pins_of fun p hp => (List.mem_append.mp hp).elim (fun z => I.pin p (List.mem_append_right _ z)) fun z => by
    obtain ⟨hb, e⟩ := of_pinsAt z
    obtain ⟨f0, f1, f2, _⟩ := hf p.1 hb
    obtain ⟨o, e', d⟩ := ho p.1 hb
    rw [e] at e'; cases e'
    exact ⟨e, f0, f1, f2, d⟩
theorem Inv.unpinned {pins pl : List (Addr × Obj)} {σ : St} {H : Hp} {s : Shared} (I : Inv X (pins ++ pl) σ H s) : Inv X pins σ H s := I.pins_of fun p hp => I.pin p (List.mem_append_right _ (List.mem_append_left _ hp))
theorem ps_for {iter : Expr} {body : List Stmt} {wi : TI} {g : TG} {tb : TS} {pos : Pos} (hp : PassesOwn (model X.prog X.w) X.A X.env X.xe) (hc : X.calm = true) (hi : PI X tg iter wi) (hg : PG X tg g) (hb : PSs X body tb)
    (hs : ∀ x, foldedSetIterable iter X.env x = pure x := by intro _; rfl) : PS X (.For tg iter body [] pos) (tFor wi g tb) := by
  intro pins s σ H D I h
  refine wpAny_For (thn (hi pins s σ H _ I h) fun v s1 h1 => thn h1 fun itv s2 h2 => ?_) hs
  obtain ⟨it, fp, tn, J, H2, e, I2, T, st2, f2, W, ⟨m0, w0⟩, turn⟩ := h2
  subst e
  -- what stays true of the iterator's objects through the loop
  have stat : ∀ {H' : Hp}, (∀ b ∈ fp, H' b = none) → ∀ b ∈ fp, FpOk X pins H' b := fun hn b hb => ⟨hn b hb, (f2 b hb).2⟩
  refine codeAny_forLoop_any (fun n s' => ∃ i σ' H', Inv X pins σ' H' s' ∧ tn i s'.heap ∧ (∀ b ∈ fp, H' b = none) ∧ W i n σ' H') ?_ m0 ⟨0, σ, H2, I2, st2, fun b hb => (f2 b hb).1, w0⟩
  rintro n s3 ⟨i, σ3, H3, I3, st3, fr3, w3⟩
  rcases turn i n σ3 H3 w3 with ⟨stop, qn⟩ | ⟨go, N, hN, step⟩
  · refine wpAny_passesOwn hp (thn (T.done X rfl rfl rfl hc i pins s3 σ3 H3 X.xe I3 (stat fr3) st3 stop) fun r s4 ⟨hr, I4⟩ => ?_)
    subst hr
    exact wpAny_execs_nil ⟨σ3, H3, I4, qn⟩
  · refine wpAny_passesOwn hp (thn (T.item X rfl rfl rfl hc i pins s3 σ3 H3 X.xe I3 (stat fr3) st3 go) fun r s4 ⟨u, hr, h4⟩ => ?_)
    subst hr
    refine wpAny_passesOwn hp (thn h4 fun _ s5 ⟨x, H5, I5, r5, y5, st5, fr5⟩ => ?_)
    have I5' := I5.pinned (stat fr5) (T.obj _ _ st5)
    refine wpAny_passesOwn hp (thn (hg _ s5 σ3 H5 x u _ I5' r5 (step x H5 y5)) fun _ s6 ⟨σ6, H6, I6, q6⟩ => ?_)
    refine wpAny_passesOwn hp (thn (hb _ s6 σ6 H6 _ I6 q6) fun f s7 q7 => ?_)
    have again : ∀ {σ7 : St} {H7 : Hp}, Inv X (pins ++ pinsAt fp s5.heap) σ7 H7 s7 → N σ7 H7 → ∃ m, m < n ∧ ∃ i σ' H', Inv X pins σ' H' s7 ∧ tn i s7.heap ∧ (∀ b ∈ fp, H' b = none) ∧ W i m σ' H' := fun {σ7 H7} I7 n7 => by
      obtain ⟨m', hm, w7⟩ := hN σ7 H7 n7
      refine ⟨m', hm, i + 1, σ7, H7, I7.unpinned, T.keep _ _ _ st5 fun b hb o e => (I7.pin (b, o) (List.mem_append_right _ (List.mem_append_right _ (mem_pinsAt hb e)))).1, fun b hb => ?_, w7⟩
      obtain ⟨o, e, d⟩ := T.obj _ _ st5 b hb
      exact (I7.pin (b, o) (List.mem_append_right _ (List.mem_append_right _ (mem_pinsAt hb e)))).2.1
    cases f with
    | next => obtain ⟨σ7, H7, I7, n7⟩ := q7; exact again I7 n7
    | cont => obtain ⟨σ7, H7, I7, n7⟩ := q7; exact again I7 n7
    | brk => obtain ⟨σ7, H7, I7, q7⟩ := q7; exact ⟨σ7, H7, I7.unpinned, q7⟩
    | ret v => obtain ⟨x7, σ7, H7, I7, r7, q7⟩ := q7; exact ⟨x7, σ7, H7, I7.unpinned, r7, q7⟩
end

theorem for_list {K : PySem.W.Frag} {a : Addr} {xs : List V} {g : TG} {tb : TS} {D : Ends} {σ : St} {H : Hp} (Pv : Nat → St → Hp → Prop) (h0 : Pv 0 σ H) (hl : ∀ i σ H, i ≤ xs.length → Pv i σ H → SqL K H a xs)
    (hs : ∀ i x σ H, xs[i]? = some x → Pv i σ H → g x σ H fun σ2 H2 => tb { D with nx := Pv (i + 1), ct := Pv (i + 1), bk := D.nx } σ2 H2) (hd : ∀ σ H, Pv xs.length σ H → D.nx σ H) :
    ∃ W : Nat → Nat → St → Hp → Prop, (∃ m, W 0 m σ H) ∧ ∀ i m σ H, W i m σ H →
      ((Itl K a).stop i H ∧ D.nx σ H) ∨ ((Itl K a).go i H ∧ ∃ N : St → Hp → Prop, (∀ σ' H', N σ' H' → ∃ m', m' < m ∧ W (i + 1) m' σ' H') ∧ ∀ x H', (Itl K a).yld i H x H' → g x σ H' fun σ2 H2 => tb { D with nx := N, ct := N, bk := D.nx } σ2 H2) := by
  refine ⟨fun i m σ H => m = xs.length - i ∧ i ≤ xs.length ∧ Pv i σ H, ⟨xs.length, by simp, Nat.zero_le _, h0⟩, ?_⟩
  rintro i m σ H ⟨rfl, hi, p⟩
  have q := hl i σ H hi p
  by_cases hlt : i < xs.length
  · refine .inr ⟨⟨xs, xs[i], q, by simp [hlt]⟩, Pv (i + 1), fun σ' H' p' => ⟨xs.length - (i + 1), by omega, rfl, hlt, p'⟩, fun x H' y => ?_⟩
    obtain ⟨e, y⟩ := y
    subst e
    exact hs i x σ _ (y xs q) p
  · have e : i = xs.length := by omega
    subst e
    exact .inl ⟨⟨xs, q, Nat.le_refl _⟩, hd σ H p⟩
theorem for_tup {K : PySem.W.Frag} {a : Addr} {xs : List V} {g : TG} {tb : TS} {D : Ends} {σ : St} {H : Hp} (Pv : Nat → St → Hp → Prop) (h0 : Pv 0 σ H) (hl : ∀ i σ H, i ≤ xs.length → Pv i σ H → SqT K H a xs)
    (hs : ∀ i x σ H, xs[i]? = some x → Pv i σ H → g x σ H fun σ2 H2 => tb { D with nx := Pv (i + 1), ct := Pv (i + 1), bk := D.nx } σ2 H2) (hd : ∀ σ H, Pv xs.length σ H → D.nx σ H) :
    ∃ W : Nat → Nat → St → Hp → Prop, (∃ m, W 0 m σ H) ∧ ∀ i m σ H, W i m σ H →
      ((Itt K a).stop i H ∧ D.nx σ H) ∨ ((Itt K a).go i H ∧ ∃ N : St → Hp → Prop, (∀ σ' H', N σ' H' → ∃ m', m' < m ∧ W (i + 1) m' σ' H') ∧ ∀ x H', (Itt K a).yld i H x H' → g x σ H' fun σ2 H2 => tb { D with nx := N, ct := N, bk := D.nx } σ2 H2) := by
  refine ⟨fun i m σ H => m = xs.length - i ∧ i ≤ xs.length ∧ Pv i σ H, ⟨xs.length, by simp, Nat.zero_le _, h0⟩, ?_⟩
  rintro i m σ H ⟨rfl, hi, p⟩
  have q := hl i σ H hi p
  by_cases hlt : i < xs.length
  · refine .inr ⟨⟨xs, xs[i], q, by simp [hlt]⟩, Pv (i + 1), fun σ' H' p' => ⟨xs.length - (i + 1), by omega, rfl, hlt, p'⟩, fun x H' y => ?_⟩
    obtain ⟨e, y⟩ := y
    subst e
    exact hs i x σ _ (y xs q) p
  · have e : i = xs.length := by omega
    subst e
    exact .inl ⟨⟨xs, q, Nat.le_refl _⟩, hd σ H p⟩
theorem for_range {lo : Int} {n : Nat} {g : TG} {tb : TS} {D : Ends} {σ : St} {H : Hp} (Pv : Nat → St → Hp → Prop) (h0 : Pv 0 σ H)
    (hs : ∀ i σ H, i < n → Pv i σ H → g (.int (lo + i)) σ H fun σ2 H2 => tb { D with nx := Pv (i + 1), ct := Pv (i + 1), bk := D.nx } σ2 H2) (hd : ∀ σ H, Pv n σ H → D.nx σ H) :
    ∃ W : Nat → Nat → St → Hp → Prop, (∃ m, W 0 m σ H) ∧ ∀ i m σ H, W i m σ H →
      ((Itr lo n).stop i H ∧ D.nx σ H) ∨ ((Itr lo n).go i H ∧ ∃ N : St → Hp → Prop, (∀ σ' H', N σ' H' → ∃ m', m' < m ∧ W (i + 1) m' σ' H') ∧ ∀ x H', (Itr lo n).yld i H x H' → g x σ H' fun σ2 H2 => tb { D with nx := N, ct := N, bk := D.nx } σ2 H2) := by
  refine ⟨fun i m σ H => m = n - i ∧ i ≤ n ∧ Pv i σ H, ⟨n, by simp, Nat.zero_le _, h0⟩, ?_⟩
  rintro i m σ H ⟨rfl, hi, p⟩
  by_cases hlt : i < n
  · refine .inr ⟨hlt, Pv (i + 1), fun σ' H' p' => ⟨n - (i + 1), by omega, rfl, hlt, p'⟩, fun x H' y => ?_⟩
    obtain ⟨e, y⟩ := y
    subst e y
    exact hs i σ _ hlt p
  · have e : i = n := by omega
    subst e
    exact .inl ⟨Nat.le_refl _, hd σ H p⟩
end L2

namespace L2
open PySem PySem.Spec PyProof.Rows

abbrev R2 := V → V → Hp → VK → Prop
def OpR (X : Cx) (f : Value → Value → Sem Value) (r : R2) : Prop :=
  ∀ (pins : List (Addr × Obj)) (s : Shared) (σ : St) (H : Hp) (x y : V) (v u : Value) (Q : VK), Inv X pins σ H s → RelV x v → RelV y u → r x y H Q →
    wpAny (model X.prog X.w) X.A (f v u) (EP X pins σ Q) X.xe s
def UnR (X : Cx) (f : Value → Sem Value) (r : V → Hp → VK → Prop) : Prop :=
  ∀ (pins : List (Addr × Obj)) (s : Shared) (σ : St) (H : Hp) (x : V) (v : Value) (Q : VK), Inv X pins σ H s → RelV x v → r x H Q →
    wpAny (model X.prog X.w) X.A (f v) (EP X pins σ Q) X.xe s
def CallR (X : Cx) (f : Value) (r : List V → Hp → VK → Prop) : Prop :=
  ∀ (pins : List (Addr × Obj)) (s : Shared) (σ : St) (H : Hp) (xs : List V) (us : List Value) (Q : VK), Inv X pins σ H s → Vals xs us → r xs H Q →
    wpAny (model X.prog X.w) X.A (call f us) (EP X pins σ Q) X.xe s
def tOp (r : R2) (ta tb : TE) : TE := fun σ H Q => ta σ H fun x H1 => tb σ H1 fun y H2 => r x y H2 Q
def tUn (r : V → Hp → VK → Prop) (ta : TE) : TE := fun σ H Q => ta σ H fun x H1 => r x H1 Q
def rI (C : Int → Int → Prop) (g : Int → Int → V) : R2 := fun x y H Q => ∃ i j, x = .int i ∧ y = .int j ∧ C i j ∧ Q (g i j) H
def rI0 (g : Int → Int → V) : R2 := fun x y H Q => ∃ i j, x = .int i ∧ y = .int j ∧ Q (g i j) H
def rU (g : Int → V) : V → Hp → VK → Prop := fun x H Q => ∃ i, x = .int i ∧ Q (g i) H

section
variable {X : Cx} {a b c : Expr} {ta tb tc : TE} {pos : Pos}

theorem binT (ha : PE X a ta) (hb : PE X b tb) {pins : List (Addr × Obj)} {s : Shared} {σ : St} {H : Hp} {R : V → V → Hp → Prop} (I : Inv X pins σ H s)
    (h : ta σ H fun x H1 => tb σ H1 fun y H2 => R x y H2) {Q : Value → Shared → Prop} {f : Value → Value → Sem Value}
    (hf : ∀ v u s2 x y H2, Inv X pins σ H2 s2 → RelV x v → RelV y u → R x y H2 → wpAny (model X.prog X.w) X.A (f v u) Q X.xe s2) :
    wpAny (model X.prog X.w) X.A (eval a X.env) (fun v s₁ => wpAny (model X.prog X.w) X.A (eval b X.env) (fun u s₂ => wpAny (model X.prog X.w) X.A (f v u) Q X.xe s₂) X.xe s₁) X.xe s := by
  refine thn (ha pins s σ H _ I h) fun v s1 ⟨x, H1, I1, r1, q1⟩ => ?_
  refine thn (hb pins s1 σ H1 _ I1 q1) fun u s2 ⟨y, H2, I2, r2, q2⟩ => ?_
  exact hf v u s2 x y H2 I2 r1 r2 q2

theorem pe_op {op : Operator} {r : R2} (ho : OpR X (binaryOp op) r) (ha : PE X a ta) (hb : PE X b tb) : PE X (.BinOp a op b pos) (tOp r ta tb) := by
  intro pins s σ H Q I h
  exact wpAny_BinOp (binT ha hb I h fun v u s2 x y H2 I2 rx ry q => ho pins s2 σ H2 x y v u Q I2 rx ry q)
theorem pe_un {op : UnaryOp} {r : V → Hp → VK → Prop} (ho : UnR X (unaryOp op) r) (ha : PE X a ta) : PE X (.UnaryOp op a pos) (tUn r ta) := by
  intro pins s σ H Q I h
  exact UnaryOp_ (thn (ha pins s σ H _ I h) fun v s1 ⟨x, H1, I1, r1, q1⟩ => ho pins s1 σ H1 x v Q I1 r1 q1)
theorem opI {f : Value → Value → Sem Value} {C : Int → Int → Prop} {g : Int → Int → Int}
    (rule : ∀ (i j : Int) (t u : Tok) (s : Shared) (Q : Value → Shared → Prop) (E : Value → Shared → Prop), C i j → Q (.int (g i j) s.toks) { s with toks := s.toks + 1 } → wpAny (model X.prog X.w) X.A (f (.int i t) (.int j u)) Q E s) :
    OpR X f (rI C fun i j => .int (g i j)) := by
  intro pins s σ H x y v u Q I rx ry h
  obtain ⟨i, j, rfl, rfl, hc, q⟩ := h
  obtain ⟨t, rfl⟩ := rx
  obtain ⟨t', rfl⟩ := ry
  exact rule i j t t' s _ _ hc ⟨.int (g i j), H, I.tok _, ⟨_, rfl⟩, q⟩
theorem opI0 {f : Value → Value → Sem Value} {g : Int → Int → Int}
    (rule : ∀ (i j : Int) (t u : Tok) (s : Shared) (Q : Value → Shared → Prop) (E : Value → Shared → Prop), Q (.int (g i j) s.toks) { s with toks := s.toks + 1 } → wpAny (model X.prog X.w) X.A (f (.int i t) (.int j u)) Q E s) :
    OpR X f (rI0 fun i j => .int (g i j)) := by
  intro pins s σ H x y v u Q I rx ry h
  obtain ⟨i, j, rfl, rfl, q⟩ := h
  obtain ⟨t, rfl⟩ := rx
  obtain ⟨t', rfl⟩ := ry
  exact rule i j t t' s _ _ ⟨.int (g i j), H, I.tok _, ⟨_, rfl⟩, q⟩
theorem opB0 {f : Value → Value → Sem Value} {g : Int → Int → Bool}
    (rule : ∀ (i j : Int) (t u : Tok) (s : Shared) (Q : Value → Shared → Prop) (E : Value → Shared → Prop), Q (.bool (g i j)) s → wpAny (model X.prog X.w) X.A (f (.int i t) (.int j u)) Q E s) :
    OpR X f (rI0 fun i j => .bl (g i j)) := by
  intro pins s σ H x y v u Q I rx ry h
  obtain ⟨i, j, rfl, rfl, q⟩ := h
  obtain ⟨t, rfl⟩ := rx
  obtain ⟨t', rfl⟩ := ry
  exact rule i j t t' s _ _ ⟨.bl (g i j), H, I, rfl, q⟩

def CDiv (i j : Int) : Prop := 0 < j ∧ j < 1073741824
def CPow (i j : Int) : Prop := 0 ≤ j ∧ j ≤ 1000000 ∧ i.natAbs < 2 ^ 64
def CMul (i j : Int) : Prop := (-(2 ^ 64) < i ∧ i < 2 ^ 64) ∨ (-(2 ^ 64) < j ∧ j < 2 ^ 64)
theorem CMul.ok {i j : Int} (h : CMul i j) : IntMulOk i j := by
  rcases h with ⟨h1, h2⟩ | ⟨h1, h2⟩
  · exact .of_left (intBits_le_64 h1 h2)
  · exact .of_right (intBits_le_64 h1 h2)
theorem op_add : OpR X (binaryOp .Add) (rI0 fun i j => .int (i + j)) := opI0 fun _ _ _ _ _ _ _ q => add_int q
theorem op_sub : OpR X (binaryOp .Sub) (rI0 fun i j => .int (i - j)) := opI0 fun _ _ _ _ _ _ _ q => sub_int q
theorem op_mul : OpR X (binaryOp .Mult) (rI CMul fun i j => .int (i * j)) := opI fun _ _ _ _ _ _ _ hc q => mul_int q hc.ok
theorem op_fdiv : OpR X (binaryOp .FloorDiv) (rI CDiv fun i j => .int (i / j)) := opI fun i j _ _ _ _ _ hc q => by
  have h1 : (0 : Int) < j := hc.1
  have h2 : j < 1073741824 := hc.2
  exact floordiv_int (by omega) (by rw [Int.fdiv_eq_ediv_of_nonneg i (by omega)]; exact q) (.inl (PyProof.noPylong_small (by omega)))
theorem op_mod : OpR X (binaryOp .Mod) (rI (fun _ j => 0 < j) fun i j => .int (i % j)) := opI fun i j _ _ _ _ _ hc q => by
  have h1 : (0 : Int) < j := hc
  exact mod_int' (by omega) (by rw [Int.fmod_eq_emod_of_nonneg i (by omega)]; exact q)
theorem op_pow : OpR X (binaryOp .Pow) (rI CPow fun i j => .int (i ^ j.toNat)) := opI fun _ _ _ _ _ _ _ hc q => pow_int_small hc.1 hc.2.1 hc.2.2 q
theorem unI {f : Value → Sem Value} {g : Int → Int}
    (rule : ∀ (i : Int) (t : Tok) (s : Shared) (Q : Value → Shared → Prop) (E : Value → Shared → Prop), Q (.int (g i) s.toks) { s with toks := s.toks + 1 } → wpAny (model X.prog X.w) X.A (f (.int i t)) Q E s) :
    UnR X f (rU fun i => .int (g i)) := by
  intro pins s σ H x v Q I rx h
  obtain ⟨i, rfl, q⟩ := h
  obtain ⟨t, rfl⟩ := rx
  exact rule i t s _ _ ⟨.int (g i), H, I.tok _, ⟨_, rfl⟩, q⟩
theorem un_neg : UnR X (unaryOp .USub) (rU fun i => .int (-i)) := unI fun _ _ _ _ _ q => neg_int q
end

def scal : V → V → Bool
  | .non, .non => true | .non, .int _ => true | .int _, .non => true | .non, .bl _ => true | .bl _, .non => true | .non, .str _ => true | .str _, .non => true
  | .int _, .int _ => true | .bl _, .bl _ => true | .str _, .str _ => true | .byt _, .byt _ => true
  | .int _, .str _ => true | .str _, .int _ => true | .bl _, .str _ => true | .str _, .bl _ => true
  | _, _ => false
def rEq : R2 := fun x y H Q => scal x y = true ∧ Q (.bl (decide (x = y))) H
def rNe : R2 := fun x y H Q => scal x y = true ∧ Q (.bl (!decide (x = y))) H

theorem dec_int {i j : Int} : decide (V.int i = V.int j) = (i == j) := by
  rw [Bool.eq_iff_iff]
  simp
theorem dec_bl {i j : Bool} : decide (V.bl i = V.bl j) = (i == j) := by
  rw [Bool.eq_iff_iff]
  simp
theorem dec_str {i j : Str} : decide (V.str i = V.str j) = (i == j) := by
  rw [Bool.eq_iff_iff]
  simp
theorem dec_byt {i j : Array UInt8} : decide (V.byt i = V.byt j) = (i.toList == j.toList) := by
  rw [Bool.eq_iff_iff]
  cases i
  cases j
  simp

section
variable {X : Cx} {a b c : Expr} {ta tb tc : TE} {pos : Pos}
theorem fin_bl {pins : List (Addr × Obj)} {σ : St} {H : Hp} {s : Shared} {Q : VK} {k k' : Bool} (I : Inv X pins σ H s) (q : Q (.bl k) H) (e : k = k') : EP X pins σ Q (.bool k') s := by
  subst e
  exact ⟨.bl k, H, I, rfl, q⟩
theorem op_eq : OpR X (compareOp .Eq) rEq := by
  intro pins s σ H x y v u Q I rx ry h
  obtain ⟨hs, q⟩ := h
  cases x with
  | non =>
    cases rx
    cases y with
    | non => cases ry; exact PySem.EqNone.eq_none_none (fin_bl I q (by simp))
    | bl j => cases ry; exact PySem.EqNone.eq_none_bool (fin_bl I q (by simp))
    | int j => obtain ⟨t', rfl⟩ := ry; exact PySem.EqNone.eq_none_int (fin_bl I q (by simp))
    | str j => obtain ⟨t', rfl⟩ := ry; exact PySem.EqNone.eq_none_str (fin_bl I q (by simp))
    | _ => exact absurd (show false = true from hs) Bool.false_ne_true
  | bl i =>
    cases rx
    cases y with
    | non => cases ry; exact PySem.EqNone.eq_bool_none (fin_bl I q (by simp))
    | bl j => cases ry; exact eq_bool (fin_bl I q dec_bl)
    | str j => obtain ⟨t', rfl⟩ := ry; exact PySem.EqMixed.eq_bool_str (fin_bl I q (by simp))
    | _ => exact absurd (show false = true from hs) Bool.false_ne_true
  | int i =>
    obtain ⟨t, rfl⟩ := rx
    cases y with
    | non => cases ry; exact PySem.EqNone.eq_int_none (fin_bl I q (by simp))
    | int j => obtain ⟨t', rfl⟩ := ry; exact eq_int (fin_bl I q dec_int)
    | str j => obtain ⟨t', rfl⟩ := ry; exact PySem.EqMixed.eq_int_str (fin_bl I q (by simp))
    | _ => exact absurd (show false = true from hs) Bool.false_ne_true
  | str i =>
    obtain ⟨t, rfl⟩ := rx
    cases y with
    | non => cases ry; exact PySem.EqNone.eq_str_none (fin_bl I q (by simp))
    | bl j => cases ry; exact PySem.EqMixed.eq_str_bool (fin_bl I q (by simp))
    | int j => obtain ⟨t', rfl⟩ := ry; exact PySem.EqMixed.eq_str_int (fin_bl I q (by simp))
    | str j => obtain ⟨t', rfl⟩ := ry; exact eq_str (fin_bl I q dec_str)
    | _ => exact absurd (show false = true from hs) Bool.false_ne_true
  | byt i =>
    obtain ⟨t, rfl⟩ := rx
    cases y with
    | byt j => obtain ⟨t', rfl⟩ := ry; exact PySem.W.eq_bytes (fin_bl I q dec_byt)
    | _ => exact absurd (show false = true from hs) Bool.false_ne_true
  | _ => cases y <;> exact absurd (show false = true from hs) Bool.false_ne_true
theorem op_ne : OpR X (compareOp .NotEq) rNe := by
  intro pins s σ H x y v u Q I rx ry h
  obtain ⟨hs, q⟩ := h
  cases x with
  | non =>
    cases rx
    cases y with
    | non => cases ry; exact PySem.EqNone.ne_none_none (fin_bl I q (by simp))
    | bl j => cases ry; exact PySem.EqNone.ne_none_bool (fin_bl I q (by simp))
    | int j => obtain ⟨t', rfl⟩ := ry; exact PySem.EqNone.ne_none_int (fin_bl I q (by simp))
    | str j => obtain ⟨t', rfl⟩ := ry; exact PySem.EqNone.ne_none_str (fin_bl I q (by simp))
    | _ => exact absurd (show false = true from hs) Bool.false_ne_true
  | bl i =>
    cases rx
    cases y with
    | non => cases ry; exact PySem.EqNone.ne_bool_none (fin_bl I q (by simp))
    | bl j => cases ry; exact ne_bool (fin_bl I q (congrArg not dec_bl))
    | str j => obtain ⟨t', rfl⟩ := ry; exact PySem.EqMixed.ne_bool_str (fin_bl I q (by simp))
    | _ => exact absurd (show false = true from hs) Bool.false_ne_true
  | int i =>
    obtain ⟨t, rfl⟩ := rx
    cases y with
    | non => cases ry; exact PySem.EqNone.ne_int_none (fin_bl I q (by simp))
    | int j => obtain ⟨t', rfl⟩ := ry; exact ne_int (fin_bl I q (congrArg not dec_int))
    | str j => obtain ⟨t', rfl⟩ := ry; exact PySem.EqMixed.ne_int_str (fin_bl I q (by simp))
    | _ => exact absurd (show false = true from hs) Bool.false_ne_true
  | str i =>
    obtain ⟨t, rfl⟩ := rx
    cases y with
    | non => cases ry; exact PySem.EqNone.ne_str_none (fin_bl I q (by simp))
    | bl j => cases ry; exact PySem.EqMixed.ne_str_bool (fin_bl I q (by simp))
    | int j => obtain ⟨t', rfl⟩ := ry; exact PySem.EqMixed.ne_str_int (fin_bl I q (by simp))
    | str j => obtain ⟨t', rfl⟩ := ry; exact ne_str (fin_bl I q (congrArg not dec_str))
    | _ => exact absurd (show false = true from hs) Bool.false_ne_true
  | byt i =>
    obtain ⟨t, rfl⟩ := rx
    cases y with
    | byt j => obtain ⟨t', rfl⟩ := ry; exact PySem.W.ne_bytes (fin_bl I q (congrArg not dec_byt))
    | _ => exact absurd (show false = true from hs) Bool.false_ne_true
  | _ => cases y <;> exact absurd (show false = true from hs) Bool.false_ne_true

theorem op_lt : OpR X (compareOp .Lt) (rI0 fun i j => .bl (decide (i < j))) := opB0 fun _ _ _ _ _ _ _ q => lt_int q
theorem op_le : OpR X (compareOp .LtE) (rI0 fun i j => .bl (decide (i ≤ j))) := opB0 fun _ _ _ _ _ _ _ q => le_int q
theorem op_gt : OpR X (compareOp .Gt) (rI0 fun i j => .bl (decide (j < i))) := opB0 fun _ _ _ _ _ _ _ q => gt_int q
theorem op_lt_str : OpR X (compareOp .Lt) (fun x y H Q => ∃ i j, x = .str i ∧ y = .str j ∧ Q (.bl (decide (i.cps.toList < j.cps.toList))) H) := by
  intro pins s σ H x y v u Q I rx ry h
  obtain ⟨i, j, rfl, rfl, q⟩ := h
  obtain ⟨t, rfl⟩ := rx
  obtain ⟨t', rfl⟩ := ry
  exact lt_str (fin_bl I q rfl)
theorem op_in_str : OpR X (compareOp .In) (fun x y H Q => ∃ i j, x = .str i ∧ y = .str j ∧ Q (.bl (!(Builtin.Str.occurrences j i 0 j.length 1).isEmpty)) H) := by
  intro pins s σ H x y v u Q I rx ry h
  obtain ⟨i, j, rfl, rfl, q⟩ := h
  obtain ⟨t, rfl⟩ := rx
  obtain ⟨t', rfl⟩ := ry
  exact in_str (fin_bl I q rfl)

theorem OpR.or {f : Value → Value → Sem Value} {r r' : R2} (h : OpR X f r) (h' : OpR X f r') : OpR X f (fun x y H Q => r x y H Q ∨ r' x y H Q) := by
  intro pins s σ H x y v u Q I rx ry q
  rcases q with q | q
  · exact h pins s σ H x y v u Q I rx ry q
  · exact h' pins s σ H x y v u Q I rx ry q

theorem nomark (b : Expr) {op : CmpOp} (h : op ≠ .In := by decide) (h2 : op ≠ .NotIn := by decide) : behindInMarks op b = false := by
  have e1 : (op == CmpOp.In) = false := by cases op <;> first | rfl | exact absurd rfl h
  have e2 : (op == CmpOp.NotIn) = false := by cases op <;> first | rfl | exact absurd rfl h2
  cases b <;> simp [behindInMarks, e1, e2]
theorem pe_cmpR {op : CmpOp} {r : R2} (ho : OpR X (compareOp op) r) (ha : PE X a ta) (hb : PE X b tb) (hm : behindInMarks op b = false) : PE X (.Compare a [op] [b] pos) (tOp r ta tb) := by
  intro pins s σ H Q I h
  exact wpAny_Compare1 (binT ha hb I h fun v u s2 x y H2 I2 rx ry q => ho pins s2 σ H2 x y v u Q I2 rx ry q) hm
def tTest (t : TE) : TT := fun σ H Q => t σ H fun x H' => ∃ k, x = .bl k ∧ Q k H'
theorem pt_cmpR {op : CmpOp} {r : R2} (ho : OpR X (compareOp op) r) (ha : PE X a ta) (hb : PE X b tb) (hm : behindInMarks op b = false) : PT X (.Compare a [op] [b] pos) (tTest (tOp r ta tb)) := by
  intro pins s σ H Q I h
  refine wpAny_isTrue_Compare1 (thn (ha pins s σ H _ I h) fun v s1 ⟨x, H1, I1, r1, q1⟩ => thn (hb pins s1 σ H1 _ I1 q1) fun u s2 ⟨y, H2, I2, r2, q2⟩ =>
    thn (ho pins s2 σ H2 x y v u _ I2 r1 r2 q2) fun c s3 ⟨z, H3, I3, r3, k, e, q3⟩ => ?_) hm
  subst e
  cases r3
  exact wpAny_truthy_bool ⟨H3, I3, q3⟩
def tChain (r r' : R2) (ta tb tc : TE) : TE := fun σ H Q => ta σ H fun x H1 => tb σ H1 fun y H2 => r x y H2 fun z H3 => ∃ k, z = .bl k ∧
  (if k = true then tc σ H3 fun w' H4 => r' y w' H4 Q else Q (.bl false) H3)
theorem pe_chain {op op' : CmpOp} {r r' : R2} (ho : OpR X (compareOp op) r) (ho' : OpR X (compareOp op') r') (ha : PE X a ta) (hb : PE X b tb) (hc : PE X c tc)
    (hm : lastMarks [op, op'] [b, c] = false := by with_unfolding_all rfl) : PE X (.Compare a [op, op'] [b, c] pos) (tChain r r' ta tb tc) := by
  intro pins s σ H Q I h
  refine Compare_chain (thn (ha pins s σ H _ I h) fun v s1 ⟨x, H1, I1, r1, q1⟩ => chain_link (thn (hb pins s1 σ H1 _ I1 q1) fun u s2 ⟨y, H2, I2, r2, q2⟩ =>
    thn (ho pins s2 σ H2 x y v u _ I2 r1 r2 q2) fun d s3 ⟨z, H3, I3, r3, k, e, q3⟩ => ?_)) hm
  subst e
  cases r3
  refine wpAny_truthy_bool ?_
  cases k with
  | false => exact ite_ff ⟨.bl false, H3, I3, rfl, q3⟩
  | true => exact ite_tt (chain_last (thn (hc pins s3 σ H3 _ I3 q3) fun w' s4 ⟨z', H4, I4, r4, q4⟩ => ho' pins s4 σ H4 y z' u w' Q I4 r2 r4 q4))
def TruV (K : PySem.W.Frag) (x : V) (H : Hp) (k : Bool) : Prop :=
  match x with
  | .non => k = false
  | .bl b => k = b
  | .int i => k = (i != 0)
  | .str y => y.length ≤ sizeLine ∧ k = ((y.length : Int) != 0)
  | .byt y => y.size ≤ sizeLine ∧ k = ((y.size : Int) != 0)
  | .ref p => (∃ xs, SqL K H p xs ∧ k = !xs.isEmpty) ∨ (∃ xs, SqT K H p xs ∧ k = !xs.isEmpty) ∨ ∃ kvs, H p = some (.dK kvs) ∧ k = !kvs.isEmpty
  | _ => False
theorem line63 : (sizeLine : Nat) < 2 ^ 63 := by rw [sizeLine_eq]; decide
theorem op_add_str : OpR X (binaryOp .Add) (fun x y H Q => ∃ i j, x = .str i ∧ y = .str j ∧ i.length + j.length ≤ sizeLine ∧ Q (.str (i ++ j)) H) := by
  intro pins s σ H x y v u Q I rx ry h
  obtain ⟨i, j, rfl, rfl, hz, q⟩ := h
  obtain ⟨t, rfl⟩ := rx
  obtain ⟨t', rfl⟩ := ry
  exact add_str (fun t' tk => ⟨.str (i ++ j), H, I.tok _, ⟨_, rfl⟩, q⟩) hz
theorem vals1 {x : V} {us : List Value} (r : Vals [x] us) : ∃ u, us = [u] ∧ RelV x u := by
  cases r with
  | cons r1 r2 => cases r2; exact ⟨_, rfl, r1⟩
theorem call_int1 : CallR X (.type "int") (fun xs H Q => (∃ i, xs = [.int i] ∧ Q (.int i) H) ∨ ∃ k, xs = [.bl k] ∧ Q (.int (if k then 1 else 0)) H) := by
  intro pins s σ H xs us Q I r h
  rcases h with ⟨i, rfl, q⟩ | ⟨k, rfl, q⟩
  · obtain ⟨u, rfl, t, rfl⟩ := vals1 r
    exact call_int_int ⟨.int i, H, I, ⟨_, rfl⟩, q⟩
  · obtain ⟨u, rfl, r1⟩ := vals1 r
    cases r1
    exact call_int_bool ⟨.int (if k then 1 else 0), H, I.tok _, ⟨_, rfl⟩, q⟩
def LenV (K : PySem.W.Frag) (x : V) (H : Hp) (n : Nat) : Prop :=
  match x with
  | .str y => y.length ≤ sizeLine ∧ n = y.length
  | .byt y => y.size ≤ sizeLine ∧ n = y.size
  | .ref p => (∃ xs, SqL K H p xs ∧ n = xs.length) ∨ ∃ xs, SqT K H p xs ∧ n = xs.length
  | _ => False
theorem call_len : CallR X (.builtin "len") (fun xs H Q => ∃ x n, xs = [x] ∧ LenV X.K x H n ∧ Q (.int n) H) := by
  intro pins s σ H xs us Q I r h
  obtain ⟨x, n, rfl, e, q⟩ := h
  obtain ⟨u, rfl, rx⟩ := vals1 r
  have hl := line63
  have hs : sizeLine = 16777216 := sizeLine_eq
  cases x with
  | str y =>
    obtain ⟨t, rfl⟩ := rx
    obtain ⟨hy, e'⟩ : y.length ≤ sizeLine ∧ n = y.length := e
    subst e'
    exact len_str (by omega) ⟨.int _, H, I.tok _, ⟨_, rfl⟩, q⟩
  | byt y =>
    obtain ⟨t, rfl⟩ := rx
    obtain ⟨hy, e'⟩ : y.size ≤ sizeLine ∧ n = y.size := e
    subst e'
    exact PySem.W.len_bytes (by omega) ⟨.int _, H, I.tok _, ⟨_, rfl⟩, q⟩
  | ref p =>
    cases rx
    have e' : (∃ xs, SqL X.K H p xs ∧ n = xs.length) ∨ ∃ xs, SqT X.K H p xs ∧ n = xs.length := e
    rcases e' with ⟨xs, hx, e'⟩ | ⟨xs, hx, e'⟩
    · subst e'
      obtain ⟨its, r', pl, hz⟩ := I.list hx
      have hlen := r'.length
      exact Calls.call_len_list pl.isList (by simp only [List.size_toArray]; omega) ⟨.int xs.length, H, I.tok _, ⟨_, by simp only [List.size_toArray]; rw [hlen]⟩, q⟩
    · subst e'
      obtain ⟨its, r', pl, hz⟩ := I.tuple hx
      have hlen := r'.length
      exact len_tuple pl (by simp only [List.size_toArray]; omega) ⟨.int xs.length, H, I.tok _, ⟨_, by simp only [List.size_toArray]; rw [hlen]⟩, q⟩
  | _ => exact (show False from e).elim
end
end L2

namespace L2
open PySem PySem.Spec PyProof.Rows

structure ObjM (h : Heap) (x dx C : Addr) (mA : Str → Option Value) : Prop where
  obj : h.get? x = some (PySem.W.instObj C dx)
  ns : h.Ns1 dx mA
  ne : dx ≠ x

theorem lookIn_ns {h : Heap} {dx : Addr} {mA : Str → Option Value} (n : h.Ns1 dx mA) : ∃ od, h.get? dx = some od ∧ ∀ name, PySem.W.lookIn name od = some (mA name) := by
  obtain ⟨o, es, ep, ho, hd, hk, _, hm⟩ := n
  refine ⟨o, ho, fun name => ?_⟩
  have e := hm name
  unfold nsFind findBy at e
  rw [← Array.find?_toList] at e
  unfold PySem.W.lookIn
  rw [hd]
  dsimp only
  split
  · rename_i y q
    rw [q] at e
    exact congrArg some e
  · rename_i q
    rw [q] at e
    have a : es.toList.any (·.refKey) = false := by
      rw [List.any_eq_false]
      intro y hy
      obtain ⟨z, t, hkey⟩ := hk y (Array.mem_toList_iff.mp hy)
      simp [DictEntry.refKey, hkey]
    have a' : ¬ es.toList.any (·.refKey) = true := by rw [a]; exact Bool.false_ne_true
    rw [if_neg a']
    exact congrArg some e

theorem ObjM.look {h : Heap} {x dx C : Addr} {mA : Str → Option Value} (I : ObjM h x dx C mA) : ∃ od, PySem.W.InstAt h x (PySem.W.instObj C dx) C (some od) ∧ ∀ name, PySem.W.lookIn name od = some (mA name) :=
  let ⟨od, ho, hl⟩ := lookIn_ns I.ns
  ⟨od, ⟨I.obj, rfl, rfl, ho⟩, hl⟩

section
variable {prog : Program} {w : World} {A : Around} {E : Value → Shared → Prop} {s : Shared} {K : PySem.W.Frag} {x dx C f : Addr} {mA : Str → Option Value} {name : Str} {v : Value}

end

theorem RelO.some_of {v : V} {o : Option Value} (r : RelO (some v) o) : ∃ u, o = some u ∧ RelV v u := by
  cases o with
  | none => exact (show False from r).elim
  | some u => exact ⟨u, rfl, r⟩
theorem handed_of {v : V} {u : Value} (r : RelV v u) : PySem.W.handedIn u = true := by
  cases v with
  | non => cases (show u = Value.none from r); rfl
  | bl b => cases (show u = Value.bool b from r); rfl
  | int i => obtain ⟨t, e⟩ := (show ∃ t, u = Value.int i t from r); cases e; rfl
  | str x => obtain ⟨t, e⟩ := (show ∃ t, u = Value.str x t from r); cases e; rfl
  | byt b => obtain ⟨t, e⟩ := (show ∃ t, u = Value.bytes b t from r); cases e; rfl
  | flt b => obtain ⟨t, e⟩ := (show ∃ t, u = Value.float b t from r); cases e; rfl
  | ref a => cases (show u = Value.ref a from r); rfl
  | ty n => cases (show u = Value.type n from r); rfl

section
variable {P : Program} {w : World} {H H' : Hp} {h h' : Heap} {a C dx : Addr} {fs fs' : List (Str × V)}
theorem ins_get (hok : HOk P w H h) (e : H a = some (.ins C dx fs)) : ∃ mA, ObjM h a dx C mA ∧ (∀ f, RelO (fs.lookup f) (mA f)) ∧ PySem.Within mA (fs.map (·.1)) ∧ fs.length ≤ 1000 ∧ H dx = some (.own a) := by
  obtain ⟨d, z, ne, ob, mA, n, r, q⟩ := (show ObjOk P w H h a (.ins C dx fs) from hok a _ e)
  exact ⟨mA, ⟨ob, n, ne⟩, r, q, z, d⟩
end

structure Cls (K : PySem.W.Frag) (C : Addr) : Prop where
  pg : PySem.W.plainGet K C Str.empty = true
  hd : PySem.W.hasDictIn K C = true
  po : PySem.W.plainOver K C = true
  sa : PySem.W.findIn K (.ref C) "__setattr__" = some (some (.builtin "object.__setattr__"))
theorem Cls.get {K : PySem.W.Frag} {C : Addr} (c : Cls K C) (f : Str) : PySem.W.plainGet K C f = true := c.pg
def NoAttr (K : PySem.W.Frag) (C : Addr) (f : Str) : Prop := PySem.W.findIn K (.ref C) f = some none
theorem NoAttr.taker {K : PySem.W.Frag} {C : Addr} {f : Str} (n : NoAttr K C f) : PySem.W.takerIn K C f = some none := by
  unfold PySem.W.takerIn
  rw [show PySem.W.findIn K (.ref C) f = some none from n]
  rfl
structure Con (K : PySem.W.Frag) (C : Addr) (f : Str) (v : V) (u : Value) : Prop where
  at_ : PySem.W.findIn K (.ref C) f = some (some u)
  rel : RelV v u
  get : PySem.W.specialIn K u "__get__" = some none
  cp : PySem.W.copiedNames.contains f = false
structure Meth (K : PySem.W.Frag) (C : Addr) (m : Str) (f : Addr) : Prop where
  at_ : PySem.W.findIn K (.ref C) m = some (some (.ref f))
  fn : PySem.W.isFn K (.ref f) = true
  kp : PySem.W.keepIn K (.ref f) = true

section
variable {X : Cx} {pins : List (Addr × Obj)} {σ : St} {H : Hp} {s : Shared} {a C dx : Addr} {fs : List (Str × V)} {f : Str} {v : V} {A : Around} {E : Value → Shared → Prop}

theorem Inv.made (I : Inv X pins σ H s) : Inv X pins σ (upd (upd H s.heap.objs.size (.own (s.heap.objs.size + 1))) (s.heap.objs.size + 1) (.ins C s.heap.objs.size []))
    { s with heap := (s.heap.push PySem.W.emptyDict).push (PySem.W.instObj C s.heap.objs.size) } := by
  have e1 : (s.heap.push PySem.W.emptyDict).get? s.heap.objs.size = some PySem.W.emptyDict := Heap.get?_push_size s.heap rfl
  have e2 : ((s.heap.push PySem.W.emptyDict).push (PySem.W.instObj C s.heap.objs.size)).get? (s.heap.objs.size + 1) = some (PySem.W.instObj C s.heap.objs.size) := by
    have := Heap.get?_push_size (s.heap.push PySem.W.emptyDict) (o := PySem.W.instObj C s.heap.objs.size) rfl
    rwa [Heap.size_push] at this
  have e3 : (s.heap.push PySem.W.emptyDict).Ns s.heap.objs.size (fun _ => none) := ⟨PySem.W.emptyDict, #[], _, e1, rfl, (fun e he => absurd he (by simp)), fun _ => rfl⟩
  have I1 := I.laid (a := s.heap.objs.size) (o := .own (s.heap.objs.size + 1)) (h' := s.heap.push PySem.W.emptyDict) (t' := s.toks) (fun b u q => Heap.get?_push_of_some _ q) (Nat.le_refl _) ⟨_, e1⟩
  refine I1.laid (a := s.heap.objs.size + 1) (o := .ins C s.heap.objs.size []) (t' := s.toks) (fun b u q => Heap.get?_push_of_some _ q) (Nat.le_of_eq (Heap.size_push _ _)) ?_
  have ne : s.heap.objs.size ≠ s.heap.objs.size + 1 := Nat.ne_of_lt (Nat.lt_succ_self _)
  refine ⟨by rw [upd_ne ne, upd_same], Nat.zero_le _, ne, e2, fun _ => none, (Heap.Ns1.of_empty e3).at fun o q => Heap.get?_push_of_some _ q, fun _ => True.intro, fun y hy => absurd rfl hy⟩

theorem attr_of {prog : Program} {w : World} {env : Env} {e : Expr} {f : Str} {pos : Pos} {s : Shared} {Q : Value → Shared → Prop} (hb : attributeBase e f env (eval e env) = eval e env)
    (h : wpAny (model prog w) A (eval e env) (fun o s₁ => wpAny (model prog w) A (getAttr o f true) Q E s₁) E s) : wpAny (model prog w) A (eval (.Attribute e f pos) env) Q E s :=
  Attribute_any_ h (by rw [arm_eval_Attribute, hb])
end

section
variable {X : Cx} {o e value : Expr} {f : Str} {pos pos' tpos : Pos} {ta tv : TE}
end

section
variable {X : Cx} {pins : List (Addr × Obj)} {σ : St} {H : Hp} {s : Shared} {A : Around} {E : Value → Shared → Prop} {Q : Value → Shared → Prop} {c : Value} {b : Bool}
inductive TyOf (K : PySem.W.Frag) (H : Hp) : V → Value → Prop where
  | non : TyOf K H .non (.type "NoneType")
  | bl (x : Bool) : TyOf K H (.bl x) (.type "bool")
  | int (i : Int) : TyOf K H (.int i) (.type "int")
  | str (x : Str) : TyOf K H (.str x) (.type "str")
  | flt (x : UInt64) : TyOf K H (.flt x) (.type "float")
  | lst {a : Addr} {xs : List V} (e : H a = some (.lst xs)) : TyOf K H (.ref a) (.type "list")
  | frz {a : Addr} {o : Obj} {xs : List V} (e : H a = some (.frz o (.lst xs))) : TyOf K H (.ref a) (.type "list")
  | tup {a : Addr} {xs : List V} (e : H a = some (.tup xs)) : TyOf K H (.ref a) (.type "tuple")
  | dK {a : Addr} {kvs : List (Key × V)} (e : H a = some (.dK kvs)) : TyOf K H (.ref a) (.type "dict")
  | dT {a : Addr} {kvs : List (List Key × V)} (e : H a = some (.dT kvs)) : TyOf K H (.ref a) (.type "dict")
  | ins {a C dx : Addr} {fs : List (Str × V)} (e : H a = some (.ins C dx fs)) (cl : Cls K C) (ha : PySem.W.findIn K (.ref C) "__class__" = some (some (.builtin "object.__class__")))
      (hn : PySem.W.specialIn K (.builtin "object.__class__") "__get__" = some (some (.builtin "getset_descriptor.__get__"))) (htk : PySem.W.takesIn K (.builtin "object.__class__") = some true)
      (hm : PySem.W.mroIn K C (.type "object") = some true) : TyOf K H (.ref a) (.ref C)
theorem isinst_ok {x : V} {u t : Value} (I : Inv X pins σ H s) (rx : RelV x u) (ty : TyOf X.K H x t) (e : PySem.W.kitOne X.K t c = some b) (h : ∀ tk, Q (.bool b) { s with toks := tk }) :
    wpAny (model X.prog X.w) A (call (.builtin "isinstance") [u, c]) Q E s := by
  cases ty with
  | non => cases (show u = Value.none from rx); exact PySem.W.kia_one PySem.W.kitx_none I.kIn True.intro e (fun z => nomatch z) h
  | bl y => cases (show u = Value.bool y from rx); exact PySem.W.kia_one PySem.W.kitx_bool I.kIn True.intro e (fun z => nomatch z) h
  | int i => obtain ⟨t, q⟩ := (show ∃ t, u = Value.int i t from rx); cases q; exact PySem.W.kia_one PySem.W.kitx_int I.kIn True.intro e (fun z => nomatch z) h
  | str y => obtain ⟨t, q⟩ := (show ∃ t, u = Value.str y t from rx); cases q; exact PySem.W.kia_one PySem.W.kitx_str I.kIn True.intro e (fun z => nomatch z) h
  | flt y => obtain ⟨t, q⟩ := (show ∃ t, u = Value.float y t from rx); cases q; exact PySem.W.kia_one PySem.W.kitx_float I.kIn True.intro e (fun z => nomatch z) h
  | @lst a xs ea =>
    cases (show u = Value.ref a from rx)
    obtain ⟨_, _, n, _, h1⟩ := (show ObjOk X.prog X.w H s.heap a (.lst xs) from I.hok a _ ea)
    exact PySem.W.kia_one PySem.W.kitx_list I.kIn ⟨_, h1, rfl⟩ e (fun z => nomatch z) h
  | @frz a ob xs ea =>
    cases (show u = Value.ref a from rx)
    obtain ⟨_, _, _, n, _, h1⟩ := (show ObjOk X.prog X.w H s.heap a (.frz ob (.lst xs)) from I.hok a _ ea)
    exact PySem.W.kia_one PySem.W.kitx_list I.kIn ⟨_, h1, rfl⟩ e (fun z => nomatch z) h
  | @tup a xs ea =>
    cases (show u = Value.ref a from rx)
    obtain ⟨_, _, _, p⟩ := (show ObjOk X.prog X.w H s.heap a (.tup xs) from I.hok a _ ea)
    obtain ⟨o, h1, h2, _⟩ := p
    exact PySem.W.kia_one PySem.W.kitx_tuple I.kIn ⟨o, h1, h2⟩ e (fun z => nomatch z) h
  | @dK a kvs ea =>
    cases (show u = Value.ref a from rx)
    obtain ⟨_, _, vs, _, p⟩ := (show ObjOk X.prog X.w H s.heap a (.dK kvs) from I.hok a _ ea)
    obtain ⟨o, es, ep, h1, h2, _⟩ := p
    exact PySem.W.kia_one PySem.W.kitx_dict I.kIn ⟨o, h1, h2.1⟩ e (fun z => nomatch z) h
  | @dT a kvs ea =>
    cases (show u = Value.ref a from rx)
    obtain ⟨_, _, xs, _, o, es, ep, h1, h2, _⟩ := (show ObjOk X.prog X.w H s.heap a (.dT kvs) from I.hok a _ ea)
    exact PySem.W.kia_one PySem.W.kitx_dict I.kIn ⟨o, h1, h2.1⟩ e (fun z => nomatch z) h
  | @ins a C dx fs ea cl ha hn htk hm =>
    cases (show u = Value.ref a from rx)
    obtain ⟨mA, O, _⟩ := ins_get I.hok ea
    obtain ⟨od, J, _⟩ := O.look
    exact PySem.W.kia_one (PySem.W.kitx_own (cl.get _) cl.hd ha hn htk hm) I.kIn J e (fun z => nomatch z) h
end
end L2

namespace L2
open PySem PySem.Spec PyProof.Rows

structure Room (k : Nat) (A : Around) : Prop where
  hd : A.handled = none
  dp : A.depth + 3 * k + 5 < recursionLimit
  un : A.units + 16 * k + 200 < cLine
theorem Room.mono {j k : Nat} {A : Around} (r : Room k A) (h : j ≤ k) : Room j A := ⟨r.hd, by have := r.dp; omega, by have := r.un; omega⟩
theorem Room.deeper {k : Nat} {A : Around} (r : Room (k + 1) A) (env : Env) : Room k (A.deeper env) :=
  ⟨r.hd, by have := r.dp; show A.depth + 1 + 3 * k + 5 < _; omega, by have := r.un; show A.units + 3 + 16 * k + 200 < _; omega⟩
theorem Room.in1 {k : Nat} {A : Around} (r : Room (k + 1) A) : Room k A.in1 :=
  ⟨r.hd, by have := r.dp; show A.depth + 3 * k + 5 < _; omega, by have := r.un; show A.units + 1 + 16 * k + 200 < _; omega⟩
theorem make_depth {A : Around} {C : Addr} {us : List Value} {kw : List (Str × Value)} : (A.under (.builtin "type.__call__" ⟨.ref C :: us, kw⟩)).depth = A.depth + 1 := by
  first | rfl | simp [Around.under, Code.weight, Code.isCreation, Code.isGuard, Code.isCaller, Code.frames, Code.isFrame, guardIds]
theorem make_units {A : Around} {C : Addr} {us : List Value} {kw : List (Str × Value)} : (A.under (.builtin "type.__call__" ⟨.ref C :: us, kw⟩)).units = A.units + 1 := by
  first | rfl | simp [Around.under, Code.cUnits, Code.frames, Code.isFrame]
theorem Room.make {k : Nat} {A : Around} (r : Room (k + 1) A) (C : Addr) (us : List Value) (kw : List (Str × Value)) : Room k (A.under (.builtin "type.__call__" ⟨.ref C :: us, kw⟩)) :=
  ⟨r.hd, by have := r.dp; rw [make_depth]; omega, by have := r.un; rw [make_units]; omega⟩
theorem Room.depth {k : Nat} {A : Around} (r : Room k A) : A.depth < recursionLimit := by have := r.dp; omega
theorem Room.units {k : Nat} {A : Around} (r : Room k A) : A.units + 64 < cLine := by have := r.un; omega
def tNil : TA := fun _ H Q => Q [] H
def tCons (ta : TE) (tr : TA) : TA := fun σ H Q => ta σ H fun x H1 => tr σ H1 fun xs H2 => Q (x :: xs) H2
section
variable {X : Cx} {e : Expr} {es : List Expr} {te : TE} {t : TA} {pos : Pos}
theorem pa_nil : PA X [] tNil := fun _ _ _ _ H Q I h => Calls.spliced_nil ⟨[], H, I, .nil, h⟩
theorem pa_cons (ha : PE X e te) (hr : PA X es t) (hs : starEach (e :: es) X.env = (false, eval e X.env) :: starEach es X.env := by rfl) : PA X (e :: es) (tCons te t) := by
  intro pos pins s σ H Q I h
  rw [hs]
  show wpAny _ _ (spliced ((false, eval e X.env) :: backTo pos (starEach es X.env))) _ _ s
  refine Calls.spliced_cons (thn (ha pins s σ H _ I h) fun u s1 ⟨x, H1, I1, r1, q1⟩ => ?_)
  exact thn (hr pos pins s1 σ H1 _ I1 q1) fun us s2 ⟨xs, H2, I2, r2, q2⟩ => ⟨x :: xs, H2, I2, .cons r1 r2, q2⟩

def tTup (t : TA) : TE := fun σ H Q => t σ H fun xs H1 => xs.length ≤ sizeLine ∧ ∀ p, H1 p = none → Q (.ref p) (upd H1 p (.tup xs))
def tLst (t : TA) : TE := fun σ H Q => t σ H fun xs H1 => xs.length ≤ sizeLine ∧ ∀ p, H1 p = none → Q (.ref p) (upd H1 p (.lst xs))
theorem pe_tup {x1} (h : PA X es t) : PE X (.Tuple es x1 pos) (tTup t) := by
  intro pins s σ H Q I hq
  refine wpAny_Tuple_spliced (thn (h pos pins s σ H _ I hq) fun us s1 ⟨xs, H1, I1, r, z, q⟩ => ⟨by rw [← r.length]; exact z, ?_⟩)
  have hf : H1 s1.heap.objs.size = none := I1.hok.fresh (Nat.le_refl _)
  refine ⟨.ref s1.heap.objs.size, upd H1 s1.heap.objs.size (.tup xs), I1.laid (t' := s1.toks) (fun b u e => Heap.get?_push_of_some _ e) (Nat.le_refl _) ?_, rfl, q _ hf⟩
  exact ⟨z, us, r, ⟨_, Heap.get?_push_size _ rfl, rfl, _, rfl⟩⟩
theorem pe_lst (h : PA X es t) : PE X (.List es pos) (tLst t) := by
  intro pins s σ H Q I hq
  refine wpAny_List_spliced (thn (h pos pins s σ H _ I hq) fun us s1 ⟨xs, H1, I1, r, z, q⟩ => ⟨by rw [← r.length]; exact z, ?_⟩)
  have hf : H1 s1.heap.objs.size = none := I1.hok.fresh (Nat.le_refl _)
  refine ⟨.ref s1.heap.objs.size, upd H1 s1.heap.objs.size (.lst xs), I1.laid (t' := s1.toks) (fun b u e => Heap.get?_push_of_some _ e) (Nat.le_refl _) ?_, rfl, q _ hf⟩
  exact ⟨z, us, 0, r, Heap.get?_push_size _ rfl⟩
end

abbrev Sp := List V → Hp → VK → XK → Prop
abbrev CXT := List Env → Hp → Shared → XK → Value → Shared → Prop

structure Env0 (P : Program) (w : World) (K : PySem.W.Frag) (mg : Str → Option Value) (base : Heap) (A : Around) (outer : List Env) (s : Shared) (H : Hp) : Prop where
  frames : A.frames = some outer
  mod : Mod K mg base
  bs : ∀ b o, base.get? b = some o → s.heap.get? b = some o ∧ H b = none
  bsz : base.objs.size ≤ s.heap.objs.size
  funs : s.heap.FunFrames base outer
  frf : ∀ b ∈ frs outer, H b = none
  hok : HOk P w H s.heap
  bare : AllBare s.gens
def CE (outer : List Env) (P : Program) (w : World) (H : Hp) (s : Shared) (Q : VK) (u : Value) (s' : Shared) : Prop :=
  ∃ v H', s'.os = s.os ∧ AllBare s'.gens ∧ Un (frs outer) [] H H' s.heap s'.heap ∧ HOk P w H' s'.heap ∧ RelV v u ∧ Q v H'
def CR (CX : CXT) (outer : List Env) (P : Program) (w : World) (H : Hp) (s : Shared) (Q : VK) (E : XK) (r : Result) (s' : Shared) : Prop :=
  match r with
  | .ok (.ret u) => CE outer P w H s Q u s'
  | .ok _ => False
  | .error e => CX outer H s E e s'
structure FnOk (P : Program) (w : World) (K : PySem.W.Frag) (mg : Str → Option Value) (base : Heap) (CX : CXT) (k : Nat) (f : Addr) (fd : FuncData) (ps : List Str) (sp : Sp) : Prop where
  len : ∀ vs H Q E, sp vs H Q E → vs.length = ps.length
  run : ∀ (A : Around) (outer : List Env) (s : Shared) (H : Hp) (args : Args) (us : List Value) (vs : List V) (Q : VK) (E : XK), Room k A → Env0 P w K mg base A outer s H → BindsTo s fd args (ps.zip us) → Vals vs us → sp vs H Q E →
    codeAny (model P w) A (.call (.ref f) args) (CR CX outer P w H s Q E) s
theorem FnOk.mono {P : Program} {w : World} {K : PySem.W.Frag} {mg : Str → Option Value} {base : Heap} {CX : CXT} {j k : Nat} {f : Addr} {fd : FuncData} {ps : List Str} {sp : Sp} (F : FnOk P w K mg base CX j f fd ps sp) (h : j ≤ k) :
    FnOk P w K mg base CX k f fd ps sp := ⟨F.len, fun A outer s H args us vs Q E hr => F.run A outer s H args us vs Q E (hr.mono h)⟩
theorem Env0.make {P : Program} {w : World} {K : PySem.W.Frag} {mg : Str → Option Value} {base : Heap} {A : Around} {outer : List Env} {s : Shared} {H : Hp} (e : Env0 P w K mg base A outer s H) (C : Addr) (us : List Value) (kw : List (Str × Value)) :
    Env0 P w K mg base (A.under (.builtin "type.__call__" ⟨.ref C :: us, kw⟩)) outer s H := ⟨by first | exact e.frames | (simpa [Around.under, Code.envs, Code.isFrame, pushEnvs] using e.frames), e.mod, e.bs, e.bsz, e.funs, e.frf, e.hok, e.bare⟩
theorem Env0.in1 {P : Program} {w : World} {K : PySem.W.Frag} {mg : Str → Option Value} {base : Heap} {A : Around} {outer : List Env} {s : Shared} {H : Hp} (e : Env0 P w K mg base A outer s H) :
    Env0 P w K mg base A.in1 outer s H := ⟨e.frames, e.mod, e.bs, e.bsz, e.funs, e.frf, e.hok, e.bare⟩

section
variable {X : Cx} {pins : List (Addr × Obj)} {σ : St} {H : Hp} {s s' : Shared}
theorem Inv.env0 (I : Inv X pins σ H s) : Env0 X.prog X.w X.K X.mg X.base X.A X.stack s H :=
  ⟨I.ok.frames, I.ok.mod, I.bs, Nat.le_trans I.ok.bsz I.sz, I.stack, I.stkFree, I.hok, I.bare⟩
theorem Inv.after {Q : VK} {u : Value} (I : Inv X pins σ H s) (h : CE X.stack X.prog X.w H s Q u s') : EP X pins σ Q u s' := by
  obtain ⟨v, H', os, bare, un, hok, r, q⟩ := h
  obtain ⟨hh, g, d, t, os'⟩ := s'
  obtain rfl : os' = s.os := os
  exact ⟨v, H', I.call (h' := hh) (g' := g) (d' := d) (t' := t) (ch := []) un hok bare (fun b z => absurd z (by simp)), r, q⟩
end

def tCall (sp : Sp) (dvs : List V) (E : XK) (t : TA) : TE := fun σ H Q => t σ H fun vs H1 => sp (vs ++ dvs) H1 Q E
def Binds (K : PySem.W.Frag) (fd : FuncData) (ps : List Str) (ds : List Value) : Prop :=
  ∀ (s : Shared) (us : List Value), K.In s.heap → (us ++ ds).length = ps.length → BindsTo s fd ⟨us, []⟩ (ps.zip (us ++ ds))
theorem Binds.all {K : PySem.W.Frag} {fd : FuncData} {ps : List Str} (h : ∀ us : List Value, us.length = ps.length → bindArgs fd ⟨us, []⟩ = pure (ps.zip us)) : Binds K fd ps [] := fun s us _ hl => by
  rw [List.append_nil] at hl ⊢
  exact .of_eq (h us hl)

def Passes (CX : CXT) (X : Cx) (E : XK) : Prop := ∀ (pins : List (Addr × Obj)) (σ : St) (H : Hp) (s : Shared) (e : Value) (s' : Shared), Inv X pins σ H s → CX X.stack H s E e s' → X.xe e s'

section
variable {X : Cx} {CX : CXT} {k : Nat} {f C : Addr} {fd : FuncData} {ps : List Str} {sp : Sp} {dvs : List V} {ds : List Value} {E : XK} {x m : Str} {p pos apos : Pos} {e o : Expr} {es : List Expr} {ta : TE} {t : TA}

theorem run_fn {pins : List (Addr × Obj)} {σ : St} {H : Hp} {s : Shared} {Q : VK} {us : List Value} {vs : List V} (F : FnOk X.prog X.w X.K X.mg X.base CX k f fd ps sp) (hr : Room k X.A) (hb : Binds X.K fd ps ds) (hd : Vals dvs ds) (hx : Passes CX X E)
    (I : Inv X pins σ H s) (r : Vals vs us) (h : sp (vs ++ dvs) H Q E) : wpAny (model X.prog X.w) X.A (call (.ref f) us) (EP X pins σ Q) X.xe s := by
  have r2 : Vals (vs ++ dvs) (us ++ ds) := r.append hd
  have hl : (us ++ ds).length = ps.length := by rw [← r2.length]; exact F.len _ _ _ _ h
  refine wpAny_call (codeAny_mono (F.run X.A X.stack s H ⟨us, []⟩ (us ++ ds) (vs ++ dvs) Q E hr I.env0 (hb s us I.kIn hl) r2 h) fun r s' hq => ?_)
  cases r with
  | error e => exact hx pins σ H s e s' I hq
  | ok fl =>
    cases fl with
    | ret u => exact I.after hq
    | next => exact False.elim hq
    | brk => exact False.elim hq
    | cont => exact False.elim hq

theorem pe_call (F : FnOk X.prog X.w X.K X.mg X.base CX k f fd ps sp) (hr : Room k X.A) (hg : Gl X x) (hm : X.mg x = some (.ref f)) (hk : PySem.W.keepIn X.K (.ref f) = true) (hb : Binds X.K fd ps ds) (hd : Vals dvs ds) (hx : Passes CX X E)
    (ha : PA X (e :: es) t) (hdb : (x == ("__debug__" : Str)) = false := by decide) (he : starEach (e :: es) X.env = (false, eval e X.env) :: starEach es X.env := by rfl) (hpl : (backTo pos (starEach es X.env)).any (·.1) = false := by rfl) :
    PE X (.Call (.Name x p) (e :: es) [] pos) (tCall sp dvs E t) := by
  intro pins s σ H Q I h
  refine wpAny_Call_Name_kw (ld_glob I hg hm ?_ hdb)
  refine PySem.W.callWith_K (h₀ := X.base) I.ok.mod.kin hk (thn (ha pos pins s σ H _ I h) fun us s1 ⟨vs, H1, I1, r, q⟩ => ⟨I1.kIn, ?_⟩) he hpl
  exact run_fn F hr hb hd hx I1 r q
structure Mk (K : PySem.W.Frag) (C f : Addr) : Prop where
  makes : PySem.W.makesIn K C = true
  init : PySem.W.findIn K (.ref C) "__init__" = some (some (.ref f))
  fn : PySem.W.isFn K (.ref f) = true
  kp : PySem.W.keepIn K (.ref C) = true

end

section
variable {X : Cx} {CX : CXT} {k : Nat} {f C : Addr} {fd : FuncData} {ps ks : List Str} {sp : Sp} {E : XK} {x m : Str} {p pos apos kpos : Pos} {e o : Expr} {es : List Expr} {kws : List Keyword} {te ta : TE} {t tk : TA} {nm : Option Str}
structure KBinds (K : PySem.W.Frag) (fd : FuncData) (ps ks : List Str) (g : List Value → List Value → List Value) (gV : List V → List V → List V) : Prop where
  to : ∀ (s : Shared) (us ws : List Value), K.In s.heap → (g us ws).length = ps.length → BindsTo s fd ⟨us, ks.zip ws⟩ (ps.zip (g us ws))
  rel : ∀ {vs : List V} {us : List Value} {zs : List V} {ws : List Value}, Vals vs us → Vals zs ws → Vals (gV vs zs) (g us ws)
variable {g : List Value → List Value → List Value} {gV : List V → List V → List V}
end

structure FnScope (N P : List Str) (sc : Scope) : Prop where
  kind : sc.kind = .function
  co : sc.isCoroutine = false
  gen : sc.isGenerator = false
  nd : N.Nodup
  pre : N.take P.length = P
  par : ∀ x ∈ P, sc.names.lookup x = some .local ∨ sc.names.lookup x = some .cell
  nofree : ∀ y ∈ sc.names, y.2 ≠ .free

theorem bindL_out {kindOf : Str → Option NameKind} {x : Str} : ∀ {binds : List (Str × Value)} {m : Str → Option Value}, (∀ v, (x, v) ∉ binds) → bindL kindOf binds m x = m x
  | [], _, _ => rfl
  | (n, v) :: r, m, h => by
    unfold bindL
    rw [bindL_out fun w hw => h w (List.mem_cons_of_mem _ hw)]
    split
    · have : x ≠ n := by rintro rfl; exact h v List.mem_cons_self
      simp [this]
    · rfl
theorem bindC_out {kindOf : Str → Option NameKind} {x : Str} : ∀ {binds : List (Str × Value)} {m : Str → Option Value}, (∀ v, (x, v) ∉ binds) → bindC kindOf binds m x = m x
  | [], _, _ => rfl
  | (n, v) :: r, m, h => by
    unfold bindC
    rw [bindC_out fun w hw => h w (List.mem_cons_of_mem _ hw)]
    split
    · rfl
    · have : x ≠ n := by rintro rfl; exact h v List.mem_cons_self
      simp [this]
theorem bindL_get {kindOf : Str → Option NameKind} {x : Str} {v : Value} : ∀ {P : List Str} {vs : List Value} {i : Nat} {m : Str → Option Value}, P.Nodup → P[i]? = some x → vs[i]? = some v → kindOf x = some .local →
    bindL kindOf (P.zip vs) m x = some v
  | [], _, _, _, _, h, _, _ => by simp at h
  | _ :: _, [], _, _, _, _, h, _ => by simp at h
  | p :: P, w :: vs, 0, m, nd, h1, h2, hk => by
    simp at h1 h2; subst h1; subst h2
    show bindL kindOf ((p, w) :: P.zip vs) m p = _
    unfold bindL
    rw [bindL_out fun v hv => (List.nodup_cons.mp nd).1 (List.of_mem_zip hv).1, if_pos hk]
    simp
  | p :: P, w :: vs, i + 1, m, nd, h1, h2, hk => by
    show bindL kindOf ((p, w) :: P.zip vs) m x = _
    unfold bindL
    exact bindL_get (i := i) (List.nodup_cons.mp nd).2 (by simpa using h1) (by simpa using h2) hk
theorem bindC_get {kindOf : Str → Option NameKind} {x : Str} {v : Value} : ∀ {P : List Str} {vs : List Value} {i : Nat} {m : Str → Option Value}, P.Nodup → P[i]? = some x → vs[i]? = some v → kindOf x ≠ some .local →
    bindC kindOf (P.zip vs) m x = some v
  | [], _, _, _, _, h, _, _ => by simp at h
  | _ :: _, [], _, _, _, _, h, _ => by simp at h
  | p :: P, w :: vs, 0, m, nd, h1, h2, hk => by
    simp at h1 h2; subst h1; subst h2
    show bindC kindOf ((p, w) :: P.zip vs) m p = _
    unfold bindC
    rw [bindC_out fun v hv => (List.nodup_cons.mp nd).1 (List.of_mem_zip hv).1, if_neg hk]
    simp
  | p :: P, w :: vs, i + 1, m, nd, h1, h2, hk => by
    show bindC kindOf ((p, w) :: P.zip vs) m x = _
    unfold bindC
    exact bindC_get (i := i) (List.nodup_cons.mp nd).2 (by simpa using h1) (by simpa using h2) hk

def start (N : List Str) (vs : List V) : St := vs.map some ++ List.replicate (N.length - vs.length) none

def cxOf (CX : CXT) (P : Program) (w : World) (K : PySem.W.Frag) (mg : Str → Option Value) (base : Heap) (N : List Str) (qual : Str) (scope : Scope) (f : Addr) (cd : Value) (A : Around) (outer : List Env) (s : Shared) (H : Hp) (E : XK) : Cx where
  prog := P
  w := w
  K := K
  mg := mg
  base := base
  A := A.deeper (envOfC qual scope s.heap.objs.size f cd)
  N := N
  s₀ := s
  H₀ := H
  env := envOfC qual scope s.heap.objs.size f cd
  outer := outer
  stack := envOfC qual scope s.heap.objs.size f cd :: outer
  ex := []
  calm := true
  fn := fun _ => true
  pn := []
  xe := fun e s' => wpAny (model P w) (A.deeper (envOfC qual scope s.heap.objs.size f cd)) (leaving (envOfC qual scope s.heap.objs.size f cd) e) (fun _ s'' => CX outer H s E e s'') (fun e' s'' => CX outer H s E e' s'') s'

theorem cell_has {sc : Scope} {n : Nat} {x : Str} (h : sc.names.lookup x = some .cell) : ∃ c, (cellsFrom n sc.names []).lookup x = some c := by
  have q := PySem.W.cellsFrom_some sc.names n [] (.inl h)
  exact Option.isSome_iff_exists.mp q

theorem inv_start {CX : CXT} {P : Program} {w : World} {K : PySem.W.Frag} {mg : Str → Option Value} {base : Heap} {N ps : List Str} {qual : Str} {scope : Scope} {f : Addr} {cd : Value} {A : Around} {outer : List Env} {s s1 : Shared} {H : Hp} {E : XK} {us : List Value} {vs : List V}
    (S : FnScope N ps scope) (hd : A.handled = none) (e0 : Env0 P w K mg base A outer s H) (hl : vs.length = ps.length) (r : Vals vs us)
    (x : InCallC s s.heap.objs.size (bindL (envOfC qual scope s.heap.objs.size f cd).kindOf (ps.zip us) fun _ => none) (cellsFrom (s.heap.objs.size + 1) scope.names []) (bindC (envOfC qual scope s.heap.objs.size f cd).kindOf (ps.zip us) fun _ => none) s1) :
    Inv (cxOf CX P w K mg base N qual scope f cd A outer s H E) [] (start N vs) H s1 := by
  have hpl : ps.length ≤ N.length := by have := congrArg List.length S.pre; rw [List.length_take] at this; omega
  obtain ⟨h1, tk, rfl, hk⟩ := x.done
  have noA : ∀ b : Addr, b ∉ (cxOf CX P w K mg base N qual scope f cd A outer s H E).ex := fun b z => absurd (show b ∈ ([] : List Addr) from z) (by simp)
  refine ⟨⟨e0.mod, S.kind, rfl, rfl, Nat.le_refl _, fun y z c h1 h2 => ?_, fun y hy => ?_, fun y c _ h => ?_, fun _ => hd, Around.frames_deeper e0.frames, .inr ⟨rfl, rfl⟩, fun b z => absurd z (noA b), e0.bs, e0.bsz, fun b _ _ => noA b, fun b z => absurd z (noA b), e0.funs, e0.frf⟩,
    rfl, e0.bare, Un.kept hk, ⟨_, x.toInCall.ns, fun i y v h1 h2 h3 => ?_⟩, fun y c h => ⟨_, x.cell y c h⟩, e0.hok.fresh (Nat.le_refl _), fun y c h => ?_, fun p hp => absurd (show p ∈ ([] : List (Addr × Obj)) from hp) (by simp), e0.hok.kept hk, ?_⟩
  · exact name_of_addr x.apart (PySem.mem_of_lookup h1) (PySem.mem_of_lookup h2)
  · have hy : scope.names.lookup y = some .cell ∨ scope.names.lookup y = some .free := hy
    rcases hy with hy | hy
    · exact cell_has hy
    · exact absurd rfl (S.nofree _ (PySem.mem_of_lookup hy))
  · exact Nat.le_of_lt (x.above y c (PySem.mem_of_lookup h))
  · have hi : i < vs.length := by
      unfold start at h2
      by_cases hi : i < vs.length
      · exact hi
      · rw [List.getElem?_append_right (by simpa using hi)] at h2
        rw [List.getElem?_replicate] at h2
        split at h2 <;> cases h2
    have ha : vs[i]? = some v := by
      unfold start at h2
      rw [List.getElem?_append_left (by simpa using hi), List.getElem?_map] at h2
      cases e : vs[i]? with
      | none => rw [e] at h2; cases h2
      | some a => rw [e] at h2; cases h2; rfl
    obtain ⟨u, hu, rv⟩ := r.get ha
    have hp : ps[i]? = some y := by
      rw [← S.pre, List.getElem?_take_of_lt (by omega)]; exact h1
    have ndP : ps.Nodup := by rw [← S.pre]; exact S.nd.sublist (List.take_sublist _ _)
    refine ⟨u, rv, ?_⟩
    rcases S.par y (List.mem_of_getElem? hp) with k | k
    · exact .inl ⟨k, bindL_get ndP hp hu k⟩
    · obtain ⟨c, e⟩ := cell_has (n := s.heap.objs.size + 1) k
      refine .inr ⟨.inl k, c, e, ?_⟩
      have q := x.cell y c e
      rw [bindC_get ndP hp hu (by show scope.names.lookup y ≠ _; rw [k]; decide)] at q
      exact q
  · exact e0.hok.fresh (Nat.le_of_lt (x.above y c (PySem.mem_of_lookup h)))
  · unfold start
    show _ = N.length
    rw [List.length_append, List.length_map, List.length_replicate]
    omega

theorem fn_of {CX : CXT} {P : Program} {w : World} {K : PySem.W.Frag} {mg : Str → Option Value} {base : Heap} {k : Nat} {f : Addr} {name qual : Str} {params : Arguments} {body : List Stmt} {scope : Scope} {dV kV doc pm cdv ct oc : Value} {an od : Option Addr}
    {osl : Array (Option Value)} {N ps : List Str} {sp : Sp} (lk : K.lookup f = some ⟨oc, od, .func (PySem.W.fnOf name qual params body scope dV kV doc pm an cdv ct), osl⟩) (hcd : PySem.W.codeIn K cdv qual = true) (S : FnScope N ps scope)
    (len : ∀ vs H Q E, sp vs H Q E → vs.length = ps.length)
    (hbody : ∀ (A : Around) (outer : List Env) (s : Shared) (H : Hp) (vs : List V) (Q : VK) (E : XK), Room k (A.deeper (envOfC qual scope s.heap.objs.size f cdv)) → sp vs H Q E →
      ∃ t, PSs (cxOf CX P w K mg base N qual scope f cdv A outer s H E) body t ∧ t { nx := fun _ H' => Q .non H', rt := Q } (start N vs) H) :
    FnOk P w K mg base CX (k + 1) f (PySem.W.fnOf name qual params body scope dV kV doc pm an cdv ct) ps sp := by
  refine ⟨len, fun A outer s H args us vs Q E hr e0 hb r hsp => ?_⟩
  have hl := len _ _ _ _ hsp
  have KX : K.In s.heap := e0.mod.kin.keeps fun b o e => (e0.bs b o e).1
  have lim : s.heap.NoLimit := e0.mod.nolimit.keeps fun b o e => (e0.bs b o e).1
  have hkind : ∀ y ∈ ps.zip us, scope.names.lookup y.1 = some .local ∨ (scope.names.lookup y.1 = some .cell ∧ ((cellsFrom (s.heap.objs.size + 1) scope.names []).lookup y.1).isSome = true) := fun ⟨n, v⟩ hy => by
    rcases S.par n (List.of_mem_zip hy).1 with q | q
    · exact .inl q
    · exact .inr ⟨q, PySem.W.cellsFrom_some _ _ _ (.inl q)⟩
  refine codeAny_call_function hr.depth (KX _ _ lk) rfl S.co S.gen rfl (PySem.W.codeRec_of KX hcd) (hb _ _ _ _ ?_)
  refine wpAny_newFunctionEnv_cells S.kind hkind fun env he s1 x => ?_
  subst he
  refine ⟨lim.keeps x.toInCall.keep, codeAny_func ?_⟩
  obtain ⟨t, ht, hq⟩ := hbody A outer s H vs Q E (hr.deeper _) hsp
  have I : Inv (cxOf CX P w K mg base N qual scope f cdv A outer s H E) [] (start N vs) H s1 := inv_start S hr.hd e0 hl r x
  refine wpAny_mono (ht [] s1 (start N vs) H _ I hq) (fun fl s' hs => ?_) fun e s' hs => hs
  have fin : ∀ {σ' : St} {H' : Hp} {v : V} {u : Value}, Inv (cxOf CX P w K mg base N qual scope f cdv A outer s H E) [] σ' H' s' → RelV v u → Q v H' → CE outer P w H s Q u s' :=
    fun {σ' H' v u} J rv q => ⟨v, H', J.os, J.bare, J.base, J.hok, rv, q⟩
  cases fl with
  | ret u =>
    obtain ⟨v, σ', H', J, rv, q⟩ := hs
    exact fin J rv q
  | next =>
    obtain ⟨σ', H', J, q⟩ := hs
    exact fin (v := V.non) (u := Value.none) J rfl q
  | brk =>
    obtain ⟨_, _, _, q⟩ := hs
    exact False.elim q
  | cont =>
    obtain ⟨_, _, _, q⟩ := hs
    exact False.elim q
end L2

namespace L2
open PySem PySem.Spec PyProof.Rows
section
variable {X : Cx} {x : Str} {p pos : Pos} {e : Expr} {es : List Expr} {t : TA} {id T : String} {r : List V → Hp → VK → Prop}

def tCB (r : List V → Hp → VK → Prop) (t : TA) : TE := fun σ H Q => t σ H fun vs H1 => r vs H1 Q
theorem pe_callB (hc : CallR X (.builtin id) r) (hg : Gl X x) (hm : X.mg x = none) (hv : bootBuiltins x = some (.builtin id)) (ha : PA X (e :: es) t) (hn : x ≠ "__name__" := by decide) (hdb : (x == ("__debug__" : Str)) = false := by decide)
    (he : starEach (e :: es) X.env = (false, eval e X.env) :: starEach es X.env := by rfl) (hpl : (backTo pos (starEach es X.env)).any (·.1) = false := by rfl) : PE X (.Call (.Name x p) (e :: es) [] pos) (tCB r t) := by
  intro pins s σ H Q I h
  refine wpAny_Call_Name_kw (ld_blt I hg hm hv ?_ hn hdb)
  exact PyProof.Rows.callWith_builtin1 (thn (ha pos pins s σ H _ I h) fun us s1 ⟨vs, H1, I1, r1, q1⟩ => hc pins s1 σ H1 vs us Q I1 r1 q1) he hpl
theorem pe_callTy (hc : CallR X (.type T) r) (hg : Gl X x) (hm : X.mg x = none) (hv : bootBuiltins x = some (.type T)) (ha : PA X (e :: es) t) (hn : x ≠ "__name__" := by decide) (hdb : (x == ("__debug__" : Str)) = false := by decide)
    (he : starEach (e :: es) X.env = (false, eval e X.env) :: starEach es X.env := by rfl) (hpl : (backTo pos (starEach es X.env)).any (·.1) = false := by rfl) : PE X (.Call (.Name x p) (e :: es) [] pos) (tCB r t) := by
  intro pins s σ H Q I h
  refine wpAny_Call_Name_kw (ld_blt I hg hm hv ?_ hn hdb)
  exact PyProof.Rows.callWith_type1 (thn (ha pos pins s σ H _ I h) fun us s1 ⟨vs, H1, I1, r1, q1⟩ => hc pins s1 σ H1 vs us Q I1 r1 q1) he hpl
end
end L2

namespace HT
open PySem PyProof.Rows

section
open PySem.SeqAt
open PySem.AutoSeq1 (wpAny_loadPart')
open PySem.MeetsSeq PySem.MeetsSeq2 PySem.MeetsSeq3

end

section
variable {prog : Program} {w : World} {A : Around} {E : Value → Shared → Prop} {s : Shared}

theorem cat_tup {t b : Addr} {vs ws : List Value} {Q : Value → Shared → Prop} (ht : IsTup s.heap t vs.toArray) (hb : IsTup s.heap b ws.toArray) (hv : vs ≠ [])
    (h1 : ws = [] → Q (.ref t) s) (h2 : ws ≠ [] → Q (.ref s.heap.objs.size) { s with heap := s.heap.push { cls := .type "tuple", data := .seq (vs ++ ws).toArray } })
    (hsz : vs.length + ws.length ≤ sizeLine) : wpAny (model prog w) A (binaryOp .Add (.ref t) (.ref b)) Q E s := by
  obtain ⟨⟨cls, dd, data, sl⟩, ho, hc, n, hd⟩ := id ht
  obtain ⟨⟨cls2, dd2, data2, sl2⟩, ho2, hc2, n2, hd2⟩ := id hb
  simp only at hc hd hc2 hd2
  subst hc hd hc2 hd2
  have e : vs.toArray ++ ws.toArray = (vs ++ ws).toArray := by simp
  by_cases hw : ws = []
  · exact concat_meets ⟨_, ho, rfl⟩ ⟨_, ho2, rfl⟩ noFill_tuple_add seq_tuple_add PySem.F.slot_tuple_add PySem.F.entry_tuple_add (PySem.F.args_tuple_add_2 _ _)
      (tuple_addW1 t b vs.toArray ws.toArray n n2 dd dd2 sl sl2 (by simpa using hv) (by simp [hw])) ⟨ho, ho2, h1 hw⟩
  · refine concat_meets ⟨_, ho, rfl⟩ ⟨_, ho2, rfl⟩ noFill_tuple_add seq_tuple_add PySem.F.slot_tuple_add PySem.F.entry_tuple_add (PySem.F.args_tuple_add_2 _ _)
      (tuple_addW2 t b vs.toArray ws.toArray n n2 dd dd2 sl sl2 (by simpa using hv) (by simpa using hw) (by rw [List.size_toArray, List.size_toArray]; exact hsz)) ⟨ho, ho2, ?_⟩
    rw [e]
    exact h2 hw

def sIx (n d : Nat) : Option Int → Nat
  | none => d
  | some v => if v < 0 then (v + (n : Int)).toNat else min v.toNat n
theorem sIx_none (n d : Nat) : sIx n d none = d := rfl
theorem sIx_nat (n d k : Nat) : sIx n d (some (k : Int)) = min k n := by
  show (if (k : Int) < 0 then ((k : Int) + (n : Int)).toNat else min (k : Int).toNat n) = min k n
  rw [if_neg (by omega), Int.toNat_natCast]
theorem sIx_le (n d : Nat) (hd : d ≤ n) (o : Option Int) : sIx n d o ≤ n := by
  cases o with
  | none => exact hd
  | some v =>
    show (if v < 0 then (v + (n : Int)).toNat else min v.toNat n) ≤ n
    by_cases hv : v < 0
    · rw [if_pos hv]; omega
    · rw [if_neg hv]; exact Nat.min_le_right _ _
theorem clip_eq (v : Int) (n d : Nat) : (if v < 0 then max (v + (n : Int)) 0 else min v (n : Int)) = ((sIx n d (some v) : Nat) : Int) := by
  show (if v < 0 then max (v + (n : Int)) 0 else min v (n : Int)) = (((if v < 0 then (v + (n : Int)).toNat else min v.toNat n) : Nat) : Int)
  by_cases hv : v < 0
  · simp only [if_pos hv]; omega
  · simp only [if_neg hv]; omega
theorem adjust_gen (lo hi : Option Int) (n : Nat) : Builtin.Slice.sliceAdjust lo hi 1 (n : Int) = (((sIx n 0 lo : Nat) : Int), ((sIx n n hi : Nat) : Int)) := by
  have h1 : ¬ ((1 : Int) < 0) := by omega
  unfold Builtin.Slice.sliceAdjust
  simp only [h1, if_false]
  refine Prod.ext ?_ ?_
  · cases lo with
    | none => rfl
    | some v => exact clip_eq v n 0
  · cases hi with
    | none => rfl
    | some v => exact clip_eq v n n
theorem places_gen (i j : Nat) : Builtin.Slice.slicePlaces (i : Int) (j : Int) 1 = j - i := by
  unfold Builtin.Slice.slicePlaces
  have h1 : (1 : Int) > 0 := by omega
  simp only [h1, if_true, Int.ediv_one]
  split <;> omega
theorem slicePart_ {v : Value} {o : Option Int} {Q : Option Int → Shared → Prop} (p : IsPart v o) (h : Q o s) : wpAny (model prog w) A (Builtin.Slice.slicePartIndex v) Q E s := by
  cases p with
  | none => exact slicePart_none h
  | int i t => exact slicePart_int h
theorem sliceApplied_gen {sl : Addr} {vl vu : Value} {lo hi : Option Int} {n : Nat} {Q : Int × Int × Nat → Shared → Prop} (hs : s.heap.IsSliceOf sl vl vu .none) (pl : IsPart vl lo) (pu : IsPart vu hi)
    (h : Q (((sIx n 0 lo : Nat) : Int), 1, sIx n n hi - sIx n 0 lo) s) : wpAny (model prog w) A (Builtin.Slice.sliceApplied (.ref sl) (pure (n : Int))) Q E s := by
  obtain ⟨os, hos, hcs, hds⟩ := id hs
  unfold Builtin.Slice.sliceApplied Builtin.Slice.sliceFields
  refine wpAny_bind (wpAny_bind (wpAny_field hos hds (x := vl) rfl (wpAny_bind (wpAny_field hos hds (x := vu) rfl (wpAny_bind (wpAny_field hos hds (x := .none) rfl (wpAny_pure ?_)))))))
  refine wpAny_bind (slicePart_none ?_)
  show wpAny _ _ (if ((1 : Int) == 0) = true then _ else _) _ _ s
  rw [if_neg (by decide)]
  refine wpAny_bind (slicePart_ pl (wpAny_bind (slicePart_ pu (wpAny_bind (wpAny_pure ?_)))))
  show wpAny _ _ (match Builtin.Slice.sliceAdjust lo hi 1 (n : Int) with | (lo, hi) => pure (lo, (1 : Int), Builtin.Slice.slicePlaces lo hi 1)) _ _ s
  rw [adjust_gen lo hi n]
  show wpAny _ _ (pure (((sIx n 0 lo : Nat) : Int), (1 : Int), Builtin.Slice.slicePlaces ((sIx n 0 lo : Nat) : Int) ((sIx n n hi : Nat) : Int) 1)) _ _ s
  rw [places_gen]
  exact wpAny_pure h
theorem pick_gen (xs : Array Value) (i k : Nat) : ((List.range k).filterMap fun (m : Nat) => xs[((i : Int) + (m : Int) * 1).toNat]?).toArray = ((xs.toList.drop i).take k).toArray := by
  have e : (fun (m : Nat) => xs[((i : Int) + (m : Int) * 1).toNat]?) = fun m => xs[i + m]? := by
    funext m
    have : ((i : Int) + (m : Int) * 1).toNat = i + m := by omega
    rw [this]
  rw [e]
  have := pick_run xs i k
  rw [List.filterMap_map] at this
  have e2 : ((fun x => xs[x]?) ∘ fun x => i + x) = fun m => xs[i + m]? := rfl
  rw [e2] at this
  rw [this]

theorem getItem_tuple_cut {t sl : Addr} {items : Array Value} {vl vu : Value} {lo hi : Option Int} {Q : Value → Shared → Prop} (ht : IsTup s.heap t items) (hs : s.heap.IsSliceOf sl vl vu .none) (pl : IsPart vl lo) (pu : IsPart vu hi)
    (hw : ¬ (sIx items.size 0 lo = 0 ∧ sIx items.size items.size hi = items.size))
    (h : Q (.ref s.heap.objs.size) { s with heap := s.heap.push { cls := .type "tuple", data := .seq ((items.toList.drop (sIx items.size 0 lo)).take (sIx items.size items.size hi - sIx items.size 0 lo)).toArray } })
    (hsz : items.size ≤ sizeLine) : wpAny (model prog w) A (getItem (.ref t) (.ref sl)) Q E s := by
  have htake : sizeOk (.seq ((items.toList.drop (sIx items.size 0 lo)).take (sIx items.size items.size hi - sIx items.size 0 lo)).toArray) := by
    show ((items.toList.drop (sIx items.size 0 lo)).take (sIx items.size items.size hi - sIx items.size 0 lo)).toArray.size ≤ sizeLine
    rw [List.size_toArray, List.length_take, List.length_drop, Array.length_toList]
    omega
  have hj : sIx items.size items.size hi ≤ items.size := sIx_le _ _ (Nat.le_refl _) hi
  obtain ⟨os, hos, hcs, hds⟩ := id hs
  have hTs : s.TypeIs (.ref sl) "slice" := ⟨os, hos, hcs⟩
  unfold getItem
  try with_reducible refine wpAny_holding ?_
  first | refine wpAny_bind (wpAny_pure ?_) | skip
  refine wpAny_bind (wpAny_sequenceKey ht.typeIs (by decide) ?_)
  refine wpAny_bind (wpAny_callSpecial?_slot (name := Str.ofString "__getitem__") ht.typeIs PyProof.Rows.slot_tuple_getitem
    (wpAny_call_entry PyProof.Rows.slot_tuple_getitem ht.typeIs entry_tuple_getitem ?_ (args_tuple_getitem _ _)))
  show wpAny _ _ (Builtin.Tuple.tupleItemsOf (.ref t) >>= _) _ _ s
  refine wpAny_bind (tupleItemsOf_ ht ?_)
  refine wpAny_bind (wpAny_typeOf hTs ?_)
  rw [if_pos (by decide)]
  refine wpAny_bind (sliceApplied_gen hs pl pu ?_)
  have hno : ¬ ((((sIx items.size 0 lo : Nat) : Int) == 0 && (1 : Int) == 1 && (sIx items.size items.size hi - sIx items.size 0 lo) == items.size) = true) := by
    intro q
    rw [Bool.and_eq_true, Bool.and_eq_true] at q
    have q1 : ((sIx items.size 0 lo : Nat) : Int) = 0 := eq_of_beq q.1.1
    have q2 : sIx items.size items.size hi - sIx items.size 0 lo = items.size := eq_of_beq q.2
    exact hw ⟨by omega, by omega⟩
  show wpAny _ _ (if (((sIx items.size 0 lo : Nat) : Int) == 0 && (1 : Int) == 1 && (sIx items.size items.size hi - sIx items.size 0 lo) == items.size) = true then _ else _) _ _ s
  rw [if_neg hno, pick_gen]
  first
    | exact wpAny_bind (m := Builtin.Tuple.tupleExact _) (wpAny_newObj_type (wpAny_pure ⟨_, rfl, wpAny_pure h⟩) htake)
    | exact wpAny_bind (m := Builtin.Tuple.tupleExact _) (wpAny_newObj_type (wpAny_bind (wpAny_pure (wpAny_pure ⟨_, rfl, wpAny_pure h⟩))) htake)
    | exact wpAny_bind (wpAny_bind (m := Builtin.Tuple.tupleExact _) (wpAny_newObj_type (wpAny_pure (wpAny_pure ⟨_, rfl, wpAny_pure h⟩)) htake))
    | exact wpAny_bind (wpAny_bind (m := Builtin.Tuple.tupleExact _) (wpAny_newObj_type (wpAny_pure ⟨_, rfl, wpAny_pure h⟩) htake))
end
end HT

namespace L2
open PySem PySem.Spec PyProof.Rows

abbrev TO := St → Hp → (Option Int → Hp → Prop) → Prop
def PO (X : Cx) (e : Option Expr) (t : TO) : Prop :=
  ∀ (pins : List (Addr × Obj)) (s : Shared) (σ : St) (H : Hp) (Q : Option Int → Hp → Prop), Inv X pins σ H s → t σ H Q →
    wpAny (model X.prog X.w) X.A (evalPart e X.env) (fun u s' => ∃ o H', Inv X pins σ H' s' ∧ IsPart u o ∧ Q o H') X.xe s
def tNoPart : TO := fun _ H Q => Q none H
def tPart (t : TE) : TO := fun σ H Q => t σ H fun x H1 => ∃ i, x = .int i ∧ Q (some i) H1

section
variable {X : Cx} {e : Expr} {te : TE} {lo hi : Option Expr} {tl th : TO} {pos p2 : Pos}

theorem po_none : PO X none tNoPart := by
  intro pins s σ H Q I h
  rw [evalPart_none]
  exact wpAny_pure ⟨none, H, I, .none, h⟩
theorem po_some (h : PE X e te) : PO X (some e) (tPart te) := by
  intro pins s σ H Q I hw
  rw [evalPart_some]
  refine thn (h pins s σ H _ I hw) fun u s1 ⟨x, H1, I1, r1, q1⟩ => ?_
  obtain ⟨i, rfl, q⟩ := q1
  obtain ⟨t, rfl⟩ := r1
  exact ⟨some i, H1, I1, .int i t, q⟩

def SlR (X : Cx) (r : V → Option Int → Option Int → Hp → VK → Prop) : Prop :=
  ∀ (pins : List (Addr × Obj)) (s : Shared) (σ : St) (H : Hp) (x : V) (v vl vu : Value) (lo hi : Option Int) (sl : Addr) (Q : VK), Inv X pins σ H s → RelV x v → s.heap.IsSliceOf sl vl vu .none → IsPart vl lo → IsPart vu hi → r x lo hi H Q →
    ∃ T id, typeLookup (.type T) "__getitem__" = pure (some (.builtin id)) ∧ s.TypeIs v T ∧ wpAny (model X.prog X.w) X.A (getItem v (.ref sl)) (EP X pins σ Q) X.xe s
theorem SlR.or {r r' : V → Option Int → Option Int → Hp → VK → Prop} (h : SlR X r) (h' : SlR X r') : SlR X (fun x lo hi H Q => r x lo hi H Q ∨ r' x lo hi H Q) := by
  intro pins s σ H x v vl vu lo hi sl Q I rx hs pl pu q
  rcases q with q | q
  · exact h pins s σ H x v vl vu lo hi sl Q I rx hs pl pu q
  · exact h' pins s σ H x v vl vu lo hi sl Q I rx hs pl pu q
def tSl (r : V → Option Int → Option Int → Hp → VK → Prop) (te : TE) (tl th : TO) : TE := fun σ H Q => te σ H fun x H1 => tl σ H1 fun l H2 => th σ H2 fun u H3 => r x l u H3 Q
theorem pe_slice {r : V → Option Int → Option Int → Hp → VK → Prop} (hr : SlR X r) (he : PE X e te) (hl : PO X lo tl) (hu : PO X hi th) : PE X (.Subscript e (.Slice lo hi none p2) pos) (tSl r te tl th) := by
  intro pins s σ H Q I h
  refine Subscript_ (thn (he pins s σ H _ I h) fun v s1 ⟨x, H1, I1, r1, q1⟩ => ?_)
  refine wpAny_Slice (thn (hl pins s1 σ H1 _ I1 q1) fun vl s2 ⟨l, H2, I2, pl, q2⟩ => thn (hu pins s2 σ H2 _ I2 q2) fun vu s3 ⟨u, H3, I3, pu, q3⟩ => ?_)
  rw [evalPart_none]
  refine wpAny_pure ?_
  have I4 : Inv X pins σ H3 { s3 with heap := s3.heap.push { cls := .type "slice", data := .fields #[vl, vu, .none] } } := I3.kept (t' := s3.toks) fun b ob q => Heap.get?_push_of_some _ q
  obtain ⟨T, id, hT, ht, hg⟩ := hr pins { s3 with heap := s3.heap.push { cls := .type "slice", data := .fields #[vl, vu, .none] } } σ H3 x v vl vu l u s3.heap.objs.size Q I4 r1 (Heap.IsSliceOf.new ..) pl pu q3
  show wpAny (model X.prog X.w) X.A (subscriptTail e (.Slice lo hi none p2) v (.ref s3.heap.objs.size)) (EP X pins σ Q) X.xe { s3 with heap := s3.heap.push { cls := .type "slice", data := .fields #[vl, vu, .none] } }
  exact tail_any (ops := [.ref s3.heap.objs.size, v]) ht hT hg (by with_unfolding_all rfl)

def cutV (xs : List V) (lo hi : Option Int) : List V := (xs.drop (HT.sIx xs.length 0 lo)).take (HT.sIx xs.length xs.length hi - HT.sIx xs.length 0 lo)
theorem cutV_length (xs : List V) (lo hi : Option Int) : (cutV xs lo hi).length ≤ xs.length := by
  unfold cutV
  rw [List.length_take, List.length_drop]
  omega
def rSlT (K : PySem.W.Frag) : V → Option Int → Option Int → Hp → VK → Prop := fun x lo hi H Q => ∃ a xs, x = .ref a ∧ SqT K H a xs ∧
  ¬ (HT.sIx xs.length 0 lo = 0 ∧ HT.sIx xs.length xs.length hi = xs.length) ∧ ∀ p, H p = none → Q (.ref p) (upd H p (.tup (cutV xs lo hi)))
theorem sl_tup : SlR X (rSlT X.K) := by
  intro pins s σ H x v vl vu lo hi sl Q I rx hs pl pu h
  obtain ⟨a, xs, rfl, hx, hw, q⟩ := h
  cases rx
  obtain ⟨its, r, ht, hz⟩ := I.tuple hx
  have hlen : its.toArray.size = xs.length := by rw [List.size_toArray]; exact r.length.symm
  refine ⟨"tuple", _, PyProof.Rows.slot_tuple_getitem.lookup, ht.typeIs, ?_⟩
  refine HT.getItem_tuple_cut ht hs pl pu (by rw [hlen]; exact hw) ?_ (by rw [hlen]; exact hz)
  rw [hlen]
  refine ⟨.ref s.heap.objs.size, _, I.laid (t' := s.toks) (o := .tup (cutV xs lo hi)) (fun b ob q => Heap.get?_push_of_some _ q) (Nat.le_refl _) ?_, rfl, q _ (I.hok.fresh (Nat.le_refl _))⟩
  exact ⟨Nat.le_trans (cutV_length xs lo hi) hz, _, (r.drop (HT.sIx xs.length 0 lo)).take (HT.sIx xs.length xs.length hi - HT.sIx xs.length 0 lo), IsTup.new _ _⟩

def rCatT (K : PySem.W.Frag) : R2 := fun x y H Q => ∃ a b xs ys, x = .ref a ∧ y = .ref b ∧ SqT K H a xs ∧ SqT K H b ys ∧ xs ≠ [] ∧ xs.length + ys.length ≤ sizeLine ∧
  (ys = [] → Q (.ref a) H) ∧ (ys ≠ [] → ∀ p, H p = none → Q (.ref p) (upd H p (.tup (xs ++ ys))))
theorem Vals.nil_iff {xs : List V} {us : List Value} (r : Vals xs us) : us = [] ↔ xs = [] := by
  cases r with
  | nil => simp
  | cons _ _ => simp
theorem op_catT : OpR X (binaryOp .Add) (rCatT X.K) := by
  intro pins s σ H x y v u Q I rx ry h
  obtain ⟨a, b, xs, ys, rfl, rfl, ha, hb, hx, hz, q1, q2⟩ := h
  cases rx
  cases ry
  obtain ⟨its, r1, p1, _⟩ := I.tuple ha
  obtain ⟨its2, r2, p2, _⟩ := I.tuple hb
  refine HT.cat_tup p1 p2 (fun z => hx (r1.nil_iff.mp z)) (fun z => ⟨.ref a, H, I, rfl, q1 (r2.nil_iff.mp z)⟩) (fun z => ?_) (by rw [← r1.length, ← r2.length]; exact hz)
  refine ⟨.ref s.heap.objs.size, _, I.laid (t' := s.toks) (o := .tup (xs ++ ys)) (fun b ob q => Heap.get?_push_of_some _ q) (Nat.le_refl _) ?_, rfl, q2 (fun w => z (r2.nil_iff.mpr w)) _ (I.hok.fresh (Nat.le_refl _))⟩
  exact ⟨by rw [List.length_append]; exact hz, _, r1.append r2, IsTup.new _ _⟩
end
end L2

namespace L2
open PySem PySem.Spec PyProof.Rows

def ixN (n : Nat) (i : Int) : Option Nat := if 0 ≤ i then (if i < n then some i.toNat else none) else if -(n : Int) ≤ i then some (i + n).toNat else none
def atI {α : Type} (xs : List α) (i : Int) : Option α := (ixN xs.length i).bind fun j => xs[j]?
theorem ixN_seq {n : Nat} {i : Int} {j : Nat} (h : ixN n i = some j) : seqIndex? i n = some j ∧ j < n ∧ -(n : Int) ≤ i ∧ i < n := by
  unfold ixN at h
  by_cases h0 : 0 ≤ i
  · rw [if_pos h0] at h
    by_cases h1 : i < n
    · rw [if_pos h1] at h
      have e : i.toNat = j := Option.some.inj h
      exact ⟨by rw [seqIndex_of h0 h1, e], by omega, by omega, h1⟩
    · rw [if_neg h1] at h; cases h
  · rw [if_neg h0] at h
    by_cases h1 : -(n : Int) ≤ i
    · rw [if_pos h1] at h
      have e : (i + n).toNat = j := Option.some.inj h
      exact ⟨by rw [seqIndex_neg (by omega) h1, e], by omega, h1, by omega⟩
    · rw [if_neg h1] at h; cases h
theorem atI_get {α : Type} {xs : List α} {i : Int} {v : α} (h : atI xs i = some v) : ∃ j, seqIndex? i xs.length = some j ∧ xs[j]? = some v ∧ j < xs.length ∧ -(xs.length : Int) ≤ i ∧ i < xs.length := by
  unfold atI at h
  cases e : ixN xs.length i with
  | none => rw [e] at h; cases h
  | some j =>
    rw [e] at h
    obtain ⟨h1, h2, h3, h4⟩ := ixN_seq e
    exact ⟨j, h1, h, h2, h3, h4⟩
theorem atI_nat {α : Type} {xs : List α} {j : Nat} {v : α} (h : xs[j]? = some v) : atI xs (j : Int) = some v := by
  have hj : j < xs.length := (List.getElem?_eq_some_iff.mp h).1
  have e : ixN xs.length (j : Int) = some j := by
    unfold ixN
    rw [if_pos (by omega), if_pos (by omega)]; simp
  unfold atI; rw [e]; exact h
theorem atI_last {α : Type} (xs : List α) (v : α) : atI (xs ++ [v]) (-1) = some v := by
  have hl : (xs ++ [v]).length = xs.length + 1 := by simp
  have e : ixN (xs ++ [v]).length (-1) = some xs.length := by
    unfold ixN
    rw [hl, if_neg (by decide), if_pos (by omega)]
    congr 1
    omega
  unfold atI
  rw [e]
  show (xs ++ [v])[xs.length]? = some v
  simp

def PlainIx (b : Expr) : Prop := ∀ o i, subscripted b false o i = operate [o, i] (getItem o i)
def IxR (X : Cx) (r : R2) : Prop :=
  ∀ (value slice : Expr) (pins : List (Addr × Obj)) (s : Shared) (σ : St) (H : Hp) (x y : V) (v u : Value) (Q : VK), Inv X pins σ H s → RelV x v → RelV y u → r x y H Q →
    subscripted slice false v u = operate [v, u] (getItem v u) → wpAny (model X.prog X.w) X.A (subscriptTail value slice v u) (EP X pins σ Q) X.xe s
def MtR (X : Cx) (id : String) (r : V → List V → Hp → VK → Prop) : Prop :=
  ∀ (pins : List (Addr × Obj)) (s : Shared) (σ : St) (H : Hp) (x : V) (xs : List V) (v : Value) (us : List Value) (Q : VK), Inv X pins σ H s → RelV x v → Vals xs us → r x xs H Q →
    wpAny (model X.prog X.w) X.A (call (.builtin id) (v :: us)) (EP X pins σ Q) X.xe s
section
variable {X : Cx} {a b : Expr} {ta tb : TE} {pos : Pos}
theorem IxR.or {r r' : R2} (h : IxR X r) (h' : IxR X r') : IxR X (fun x y H Q => r x y H Q ∨ r' x y H Q) := by
  intro value slice pins s σ H x y v u Q I rx ry q hs
  rcases q with q | q
  · exact h value slice pins s σ H x y v u Q I rx ry q hs
  · exact h' value slice pins s σ H x y v u Q I rx ry q hs
theorem MtR.or {id : String} {r r' : V → List V → Hp → VK → Prop} (h : MtR X id r) (h' : MtR X id r') : MtR X id (fun x xs H Q => r x xs H Q ∨ r' x xs H Q) := by
  intro pins s σ H x xs v us Q I rx rs q
  rcases q with q | q
  · exact h pins s σ H x xs v us Q I rx rs q
  · exact h' pins s σ H x xs v us Q I rx rs q
theorem pe_ix {r : R2} (hr : IxR X r) (ha : PE X a ta) (hb : PE X b tb) (hs : PlainIx b) : PE X (.Subscript a b pos) (tOp r ta tb) := by
  intro pins s σ H Q I h
  exact Subscript_ (binT ha hb I h fun v u s2 x y H2 I2 rx ry q => hr a b pins s2 σ H2 x y v u Q I2 rx ry q (hs _ _))

def rIxL (K : PySem.W.Frag) : R2 := fun x y H Q => ∃ p xs i v, x = .ref p ∧ y = .int i ∧ SqL K H p xs ∧ atI xs i = some v ∧ Q v H
def rIxT (K : PySem.W.Frag) : R2 := fun x y H Q => ∃ p xs i v, x = .ref p ∧ y = .int i ∧ SqT K H p xs ∧ atI xs i = some v ∧ Q v H
def rIxS : R2 := fun x y H Q => ∃ z i c, x = .str z ∧ y = .int i ∧ z.length ≤ sizeLine ∧ atI z.cps.toList i = some c ∧ Q (.str ⟨#[c]⟩) H
theorem ix_list : IxR X (rIxL X.K) := by
  intro value slice pins s σ H x y v u Q I rx ry h hs
  obtain ⟨p, xs, i, z, rfl, rfl, hq, he, q⟩ := h
  cases rx
  obtain ⟨t, rfl⟩ := ry
  obtain ⟨its, r, pl, hz⟩ := I.list hq
  obtain ⟨j, h1, h2, h3, h4, h5⟩ := atI_get he
  obtain ⟨w, ew, rw'⟩ := r.get h2
  have hl := r.length
  have hn := line63
  have fin : EP X pins σ Q w s := ⟨z, H, I, rw', q⟩
  by_cases h0 : 0 ≤ i
  · have hj : i.toNat = j := by
      rw [seqIndex_of h0 h5] at h1
      exact Option.some.inj h1
    exact item_listR pl.isList h0 (by omega) (by rw [hj]; simpa using ew) fin hs
  · have hj : (i + (its.toArray.size : Int)).toNat = j := by
      rw [seqIndex_neg (by omega) h4] at h1
      rw [List.size_toArray, ← hl]
      exact Option.some.inj h1
    exact subscriptTail_builtinR (x := w) pl.isList.typeIs slot_list_getitem.lookup
      (wpAny_getItem_list_neg (Q := fun r s' => r = w ∧ EP X pins σ Q r s') pl.isList (by omega) (by rw [List.size_toArray] <;> omega) (by omega) (by rw [hj]; simpa using ew) ⟨rfl, fin⟩) hs
theorem ix_tup : IxR X (rIxT X.K) := by
  intro value slice pins s σ H x y v u Q I rx ry h hs
  obtain ⟨p, xs, i, z, rfl, rfl, hq, he, q⟩ := h
  cases rx
  obtain ⟨t, rfl⟩ := ry
  obtain ⟨its, r, pl, hz⟩ := I.tuple hq
  obtain ⟨j, h1, h2, h3, h4, h5⟩ := atI_get he
  obtain ⟨w, ew, rw'⟩ := r.get h2
  have hl := r.length
  have hn := line63
  have fin : EP X pins σ Q w s := ⟨z, H, I, rw', q⟩
  exact subscriptTail_builtinR (x := w) pl.typeIs slot_tuple_getitem.lookup
    (getItem_tuple (j := j) (Q := fun r s' => r = w ∧ EP X pins σ Q r s') pl (by omega) (by omega) (by rw [List.size_toArray, ← hl]; exact h1) (by simpa using ew) ⟨rfl, fin⟩) hs
theorem ix_str : IxR X rIxS := by
  intro value slice pins s σ H x y v u Q I rx ry h hs
  obtain ⟨z, i, c, rfl, rfl, hz, he, q⟩ := h
  obtain ⟨t, rfl⟩ := rx
  obtain ⟨t', rfl⟩ := ry
  obtain ⟨j, h1, h2, h3, h4, h5⟩ := atI_get he
  have hl : z.cps.toList.length = z.length := by simp [Str.length]
  rw [hl] at h1 h4 h5
  have hn := line63
  exact tail_any (typeIs_str s z t) slot_str_getitem.lookup (getItem_str (c := c) (by
    have e1 : decide (i < -(2 ^ 63 : Int)) = false := decide_eq_false (by omega)
    have e2 : decide (i ≥ 2 ^ 63) = false := decide_eq_false (by omega)
    rw [e1, e2, Bool.or_false]) (by rw [h1]; simpa using h2) ⟨.str ⟨#[c]⟩, H, I.tok _, ⟨_, rfl⟩, q⟩) hs
def rIx (K : PySem.W.Frag) : R2 := fun x y H Q => rIxL K x y H Q ∨ rIxT K x y H Q ∨ rIxS x y H Q
theorem ix_seq : IxR X (rIx X.K) := ix_list.or (ix_tup.or ix_str)

theorem mapSeq_set (its : List Value) (n j : Nat) (u : Value) : Obj.mapSeq (·.setIfInBounds j u) { cls := .type "list", data := .seq its.toArray n } = { cls := .type "list", data := .seq (its.set j u).toArray n } := by
  simp [Obj.mapSeq]
theorem Inv.lst {pins : List (Addr × Obj)} {σ : St} {H : Hp} {s : Shared} {p : Addr} {xs : List V} (I : Inv X pins σ H s) (h : H p = some (.lst xs)) :
    ∃ (its : List Value) (n : Nat), Vals xs its ∧ s.heap.get? p = some { cls := .type "list", data := .seq its.toArray n } ∧ xs.length ≤ sizeLine := by
  obtain ⟨z, its, n, r, e⟩ := I.hok p _ h
  exact ⟨its, n, r, e, z⟩
theorem Inv.lstUpd {pins : List (Addr × Obj)} {σ : St} {H : Hp} {s : Shared} {p : Addr} {xs ys : List V} {its its' : List Value} {n n' : Nat} {f : Obj → Obj} (I : Inv X pins σ H s) (h : H p = some (.lst xs))
    (ho : s.heap.get? p = some { cls := .type "list", data := .seq its.toArray n }) (hf : f { cls := .type "list", data := .seq its.toArray n } = { cls := .type "list", data := .seq its'.toArray n' }) (r : Vals ys its') (hz : ys.length ≤ sizeLine) (t : Nat) :
    Inv X pins σ (upd H p (.lst ys)) { s with heap := s.heap.update p f, toks := t } := by
  have e : (s.heap.update p f).get? p = some { cls := .type "list", data := .seq its'.toArray n' } := by
    rw [Heap.get?_update_self f ho (by rw [hf] <;> rfl), hf]
  refine I.write (x := p) (e := p) (by rw [h]; trivial) (.inl rfl) (fun b u hb q => (Heap.get?_update_other _ _ (Ne.symm hb)).trans q) ⟨_, e⟩ ?_
  exact ⟨hz, its', n', r, e⟩
def rSetL : V → V → V → Hp → (Hp → Prop) → Prop := fun o i v H Q => ∃ p xs k j, o = .ref p ∧ i = .int k ∧ H p = some (.lst xs) ∧ ixN xs.length k = some j ∧ Q (upd H p (.lst (xs.set j v)))
theorem set_list : PSet X rSetL := by
  intro pins s σ H o i v ov iv u Q I ro ri rv h
  obtain ⟨p, xs, k, j, rfl, rfl, hp, hj, q⟩ := h
  cases ro
  obtain ⟨t, rfl⟩ := ri
  obtain ⟨its, n, r, ho, hz⟩ := I.lst hp
  obtain ⟨h1, h2, h3, h4⟩ := ixN_seq hj
  have hl := r.length
  have hn := line63
  have I' : Inv X pins σ (upd H p (.lst (xs.set j v))) { s with heap := s.heap.update p (Obj.mapSeq (·.setIfInBounds j u)) } :=
    I.lstUpd hp ho (mapSeq_set its n j u) (r.set rv j) (by rw [List.length_set]; exact hz) s.toks
  by_cases h0 : 0 ≤ k
  · have hk : k.toNat = j := by
      rw [seqIndex_of h0 h4] at h1
      exact Option.some.inj h1
    exact PySem.W.ki_setAt ho h0 (by omega) (by rw [List.size_toArray, ← hl]; exact h4) (by rw [hk]; exact ⟨_, I', q⟩)
  · have hk : (k + (its.toArray.size : Int)).toNat = j := by
      rw [seqIndex_neg (by omega) h3] at h1
      rw [List.size_toArray, ← hl]
      exact Option.some.inj h1
    exact PySem.W.ki_setBack ho (by omega) (by rw [List.size_toArray, ← hl]; exact h3) (by omega) (by rw [hk]; exact ⟨_, I', q⟩)

theorem slice_bounds (lo hi : Option Int) (n : Nat) : (sliceBounds lo hi none n).1 = ((HT.sIx n 0 lo : Nat) : Int) ∧ (sliceBounds lo hi none n).2.1 = ((HT.sIx n n hi : Nat) : Int) ∧ (sliceBounds lo hi none n).2.2 = 1 := by
  refine ⟨?_, ?_, rfl⟩
  · cases lo with
    | none => simp [sliceBounds, HT.sIx]
    | some i =>
      simp only [sliceBounds, HT.sIx, Option.getD_none, show (1 : Int) > 0 by decide, if_true]
      by_cases h : i < 0
      · simp only [h, if_true] <;> omega
      · simp only [h, if_false] <;> omega
  · cases hi with
    | none => simp [sliceBounds, HT.sIx]
    | some i =>
      simp only [sliceBounds, HT.sIx, Option.getD_none, show (1 : Int) > 0 by decide, if_true]
      by_cases h : i < 0
      · simp only [h, if_true] <;> omega
      · simp only [h, if_false] <;> omega
theorem slicePick_cut (its : List Value) (lo hi : Option Int) : slicePick its.toArray lo hi none = ((its.drop (HT.sIx its.length 0 lo)).take (HT.sIx its.length its.length hi - HT.sIx its.length 0 lo)).toArray := by
  obtain ⟨h1, h2, h3⟩ := slice_bounds lo hi its.toArray.size
  unfold slicePick
  rw [h1, h2, h3]
  simp only [sliceRange_one, pick_run, List.size_toArray] <;> rfl
def rSlL (K : PySem.W.Frag) : V → Option Int → Option Int → Hp → VK → Prop := fun x lo hi H Q => ∃ a xs, x = .ref a ∧ SqL K H a xs ∧ ∀ p, H p = none → Q (.ref p) (upd H p (.lst (cutV xs lo hi)))
theorem sl_list : SlR X (rSlL X.K) := by
  intro pins s σ H x v vl vu lo hi sl Q I rx hs pl pu h
  obtain ⟨a, xs, rfl, hx, q⟩ := h
  cases rx
  obtain ⟨its, r, ht, hz⟩ := I.list hx
  have hlen := r.length
  refine ⟨"list", _, slot_list_getitem.lookup, ht.isList.typeIs, ?_⟩
  refine wpAny_getItem_list_slice ht.isList hs pl pu .none (by simp) ?_ (by rw [List.size_toArray] <;> omega)
  rw [slicePick_cut, ← hlen]
  refine ⟨.ref s.heap.objs.size, _, I.laid (t' := s.toks) (o := .lst (cutV xs lo hi)) (fun b ob q => Heap.get?_push_of_some _ q) (Nat.le_refl _) ?_, rfl, q _ (I.hok.fresh (Nat.le_refl _))⟩
  exact ⟨Nat.le_trans (cutV_length xs lo hi) hz, _, 0, (r.drop (HT.sIx xs.length 0 lo)).take (HT.sIx xs.length xs.length hi - HT.sIx xs.length 0 lo), Heap.get?_push_size _ rfl⟩

def flatV : V → Bool
  | .non => true
  | .bl _ => true
  | .int _ => true
  | .str _ => true
  | _ => false
def eqV : V → V → Bool
  | .non, .non => true
  | .bl a, .bl b => a == b
  | .bl a, .int b => (if a then 1 else 0) == b
  | .int a, .bl b => a == (if b then 1 else 0)
  | .int a, .int b => a == b
  | .str a, .str b => a == b
  | _, _ => false
theorem eqAt_V {A : Around} {s : Shared} {y x : V} {u v : Value} (ry : RelV y u) (rx : RelV x v) (fy : flatV y = true) (fx : flatV x = true) : SeqAt.EqAt A s u v (eqV y x) := by
  cases y with
  | non =>
    cases ry
    cases x with
    | non => cases rx; exact SeqAt.EqAt.same _
    | bl b => cases rx; exact SeqAt.EqAt.none_bool b
    | int b => obtain ⟨t, rfl⟩ := rx; exact SeqAt.EqAt.none_int b t
    | str b => obtain ⟨t, rfl⟩ := rx; exact SeqAt.EqAt.none_str b t
    | _ => exact absurd (show false = true from fx) Bool.false_ne_true
  | bl a =>
    cases ry
    cases x with
    | non => cases rx; exact SeqAt.EqAt.bool_none a
    | bl b => cases rx; exact SeqAt.EqAt.bool_bool a b
    | int b => obtain ⟨t, rfl⟩ := rx; exact SeqAt.EqAt.bool_int a b t
    | str b => obtain ⟨t, rfl⟩ := rx; exact SeqAt.EqAt.bool_str a b t
    | _ => exact absurd (show false = true from fx) Bool.false_ne_true
  | int a =>
    obtain ⟨t', rfl⟩ := ry
    cases x with
    | non => cases rx; exact SeqAt.EqAt.int_none a t'
    | bl b => cases rx; exact SeqAt.EqAt.int_bool a t' b
    | int b => obtain ⟨t, rfl⟩ := rx; exact SeqAt.EqAt.int_int a t' b t
    | str b => obtain ⟨t, rfl⟩ := rx; exact SeqAt.EqAt.int_str a t' b t
    | _ => exact absurd (show false = true from fx) Bool.false_ne_true
  | str a =>
    obtain ⟨t', rfl⟩ := ry
    cases x with
    | non => cases rx; exact SeqAt.EqAt.str_none a t'
    | bl b => cases rx; exact SeqAt.EqAt.str_bool a t' b
    | int b => obtain ⟨t, rfl⟩ := rx; exact SeqAt.EqAt.str_int a t' b t
    | str b => obtain ⟨t, rfl⟩ := rx; exact SeqAt.EqAt.str_str a t' b t
    | _ => exact absurd (show false = true from fx) Bool.false_ne_true
  | _ => exact absurd (show false = true from fy) Bool.false_ne_true
def eqU (x : V) (u : Value) : Bool := match u with
  | .none => eqV .non x
  | .bool b => eqV (.bl b) x
  | .int i _ => eqV (.int i) x
  | .str z _ => eqV (.str z) x
  | _ => false
theorem eqU_of {x y : V} {u : Value} (r : RelV y u) (f : flatV y = true) : eqU x u = eqV y x := by
  cases y with
  | non => cases r; rfl
  | bl b => cases r; rfl
  | int i => obtain ⟨t, rfl⟩ := r; rfl
  | str z => obtain ⟨t, rfl⟩ := r; rfl
  | _ => exact absurd (show false = true from f) Bool.false_ne_true
theorem any_eqU {x : V} : ∀ {xs : List V} {us : List Value}, Vals xs us → xs.all flatV = true → us.any (eqU x) = xs.any fun y => eqV y x
  | _, _, .nil, _ => rfl
  | y :: xs, u :: us, .cons r t, f => by
    rw [List.all_cons, Bool.and_eq_true] at f
    rw [List.any_cons, List.any_cons, eqU_of r f.1, any_eqU t f.2]
theorem mem_eqAt {A : Around} {s : Shared} {x : V} {v : Value} (rx : RelV x v) (fx : flatV x = true) : ∀ {xs : List V} {us : List Value}, Vals xs us → xs.all flatV = true → ∀ u ∈ us, SeqAt.EqAt A s u v (eqU x u)
  | _, _, .nil, _ => fun u hu => by cases hu
  | y :: xs, u :: us, .cons r t, f => fun u' hu => by
    rw [List.all_cons, Bool.and_eq_true] at f
    rcases List.mem_cons.mp hu with rfl | hu
    · rw [eqU_of r f.1]; exact eqAt_V r rx f.1 fx
    · exact mem_eqAt rx fx t f.2 u' hu
def inV (x : V) (xs : List V) : Bool := xs.any fun y => eqV y x
def rIn (K : PySem.W.Frag) (neg : Bool) : R2 := fun x y H Q => ∃ p xs, y = .ref p ∧ (SqL K H p xs ∨ SqT K H p xs) ∧ flatV x = true ∧ xs.all flatV = true ∧ Q (.bl (if neg then !inV x xs else inV x xs)) H
theorem op_in_seq : OpR X (compareOp .In) (rIn X.K false) := by
  intro pins s σ H x y v u Q I rx ry h
  obtain ⟨p, xs, rfl, hq, fx, fs, q⟩ := h
  cases ry
  rcases hq with hq | hq
  · obtain ⟨its, r, pl, hz⟩ := I.list hq
    refine SeqAt.in_listAt (eqU x) pl.isList (fun w hw => mem_eqAt rx fx r fs w (by simpa using hw)) ⟨.bl _, H, I, rfl, ?_⟩
    rw [show its.toArray.any (eqU x) = its.any (eqU x) by simp, any_eqU r fs]
    exact q
  · obtain ⟨its, r, pl, hz⟩ := I.tuple hq
    refine SeqAt.in_tupleAt (eqU x) pl (fun w hw => mem_eqAt rx fx r fs w (by simpa using hw)) ⟨.bl _, H, I, rfl, ?_⟩
    rw [show its.toArray.any (eqU x) = its.any (eqU x) by simp, any_eqU r fs]
    exact q
theorem CallR.or {f : Value} {r r' : List V → Hp → VK → Prop} (h : CallR X f r) (h' : CallR X f r') : CallR X f (fun xs H Q => r xs H Q ∨ r' xs H Q) := by
  intro pins s σ H xs us Q I rs q
  rcases q with q | q
  · exact h pins s σ H xs us Q I rs q
  · exact h' pins s σ H xs us Q I rs q
theorem call_tuple_of : CallR X (.type "tuple") (fun xs H Q => ∃ p ys, xs = [.ref p] ∧ ((SqL X.K H p ys ∧ ∀ l, H l = none → Q (.ref l) (upd H l (.tup ys))) ∨ (SqT X.K H p ys ∧ Q (.ref p) H))) := by
  intro pins s σ H xs us Q I r h
  obtain ⟨p, ys, rfl, h⟩ := h
  obtain ⟨u, rfl, rx⟩ := vals1 r
  cases rx
  rcases h with ⟨hq, q⟩ | ⟨hq, q⟩
  · obtain ⟨its, r', pl, hz⟩ := I.list hq
    have hlen := r'.length
    refine call_tuple_list pl.isList (fun h' kp => ?_) (by simp only [List.size_toArray] <;> omega)
    have I1 : Inv X pins σ H { s with heap := h' } := I.kept (t' := s.toks) kp
    have I2 : Inv X pins σ (upd H h'.objs.size (.tup ys)) { s with heap := h'.push { cls := .type "tuple", data := .seq its.toArray } } :=
      I1.laid (t' := s.toks) (fun b o e => Heap.get?_push_of_some _ e) (Nat.le_refl _) (show ObjOk X.prog X.w _ _ _ (.tup ys) from ⟨hz, its, r', IsTup.new _ _⟩)
    exact ⟨.ref h'.objs.size, _, I2, rfl, q _ (I1.hok.fresh (Nat.le_refl _))⟩
  · obtain ⟨its, r', pl, hz⟩ := I.tuple hq
    exact call_tuple_same pl ⟨.ref p, H, I, rfl, q⟩

def tyV (K : PySem.W.Frag) (T : String) (x : V) (H : Hp) : Prop := match x with
  | .str _ => T = "str"
  | .int _ => T = "int"
  | .ref p => (T = "list" ∧ ∃ xs, SqL K H p xs) ∨ (T = "tuple" ∧ ∃ o, K.lookup p = some o ∧ o.cls = .type "tuple" ∧ o.dict = none) ∨
      (T = "dict" ∧ ((∃ kvs, H p = some (.dK kvs)) ∨ ∃ kvs, H p = some (.dT kvs))) ∨ (T = "set" ∧ ∃ S n, H p = some (.set S n))
  | _ => False
theorem tyV_is {pins : List (Addr × Obj)} {σ : St} {H : Hp} {s : Shared} {T : String} {x : V} {v : Value} (I : Inv X pins σ H s) (r : RelV x v) (ty : tyV X.K T x H) :
    s.TypeIs v T ∧ ∀ a, v = .ref a → ∃ ob, s.heap.get? a = some ob ∧ ob.dict = none := by
  cases x with
  | str z =>
    obtain ⟨t, rfl⟩ := r
    cases (show T = "str" from ty)
    exact ⟨typeIs_str s z t, fun _ e => nomatch e⟩
  | int i =>
    obtain ⟨t, rfl⟩ := r
    cases (show T = "int" from ty)
    exact ⟨typeIs_int s i t, fun _ e => nomatch e⟩
  | ref p =>
    cases r
    rcases ty with ⟨rfl, xs, hq⟩ | ⟨rfl, o, hk, hc, hd⟩ | ⟨rfl, hk⟩ | ⟨rfl, S, n, hk⟩
    · obtain ⟨its, _, pl, _⟩ := I.list hq
      refine ⟨pl.isList.typeIs, fun a e => ?_⟩
      cases e
      obtain ⟨o, n, e, c, hd, _⟩ := pl
      exact ⟨o, e, hd⟩
    · refine ⟨⟨o, I.kIn p o hk, hc⟩, fun a e => ?_⟩
      cases e
      exact ⟨o, I.kIn _ o hk, hd⟩
    · have z : ∃ o, s.heap.get? p = some o ∧ o.ExactDict := by
        rcases hk with ⟨kvs, hk⟩ | ⟨kvs, hk⟩
        · obtain ⟨_, _, _, _, o, _, _, e, ex, _⟩ := I.hok p _ hk
          exact ⟨o, e, ex⟩
        · obtain ⟨_, _, _, _, o, _, _, e, ex, _⟩ := I.hok p _ hk
          exact ⟨o, e, ex⟩
      obtain ⟨o, e, ex⟩ := z
      refine ⟨⟨o, e, ex.1⟩, fun a e2 => ?_⟩
      cases e2
      exact ⟨o, e, ex.2.1⟩
    · obtain ⟨o, _, _, _, e, ex, _⟩ := I.hok p _ hk
      refine ⟨⟨o, e, ex.1⟩, fun a e2 => ?_⟩
      cases e2
      exact ⟨o, e, ex.2.1⟩
  | _ => exact False.elim ty
def tBM0 (K : PySem.W.Frag) (T : String) (r : V → List V → Hp → VK → Prop) (to : TE) : TE := fun σ H Q => to σ H fun x H1 => tyV K T x H1 ∧ r x [] H1 Q
def tBM (K : PySem.W.Frag) (T : String) (r : V → List V → Hp → VK → Prop) (to : TE) (t : TA) : TE := fun σ H Q => to σ H fun x H1 => tyV K T x H1 ∧ t σ H1 fun xs H2 => r x xs H2 Q
variable {o e : Expr} {es : List Expr} {to : TE} {t : TA} {name : Str} {apos cpos : Pos} {T id : String} {r : V → List V → Hp → VK → Prop}
theorem pe_bm0 (pa : PlainAttrs T) (slot : Slot T name id) (hty : typeOf (.builtin id) = pure (.type "method_descriptor")) (hm : MtR X id r) (ho : PE X o to)
    (hbase : attributeBase o name X.env (eval o X.env) = eval o X.env := by rfl) (hline : (apos.endLine == cpos.line) = true := by rfl) : PE X (.Call (.Attribute o name apos) [] [] cpos) (tBM0 X.K T r to) := by
  intro pins s σ H Q I h
  refine wpAny_Call_method0_late hbase hline (thn (ho pins s σ H _ I h) fun v s1 ⟨x, H1, I1, r1, ty, q1⟩ => ?_)
  obtain ⟨h1, h2⟩ := tyV_is I1 r1 ty
  exact ⟨T, id, pa, slot, hty, h1, h2, Calls.callWith_builtin rfl (PySem.evalArgs_none (hm pins s1 σ H1 x [] v [] Q I1 r1 .nil q1))⟩
theorem pe_bm (pa : PlainAttrs T) (slot : Slot T name id) (hty : typeOf (.builtin id) = pure (.type "method_descriptor")) (hm : MtR X id r) (ho : PE X o to) (ha : PA X (e :: es) t)
    (hbase : attributeBase o name X.env (eval o X.env) = eval o X.env := by rfl)
    (hfew : ((backTo cpos (starEach (e :: es) X.env)).all (fun x => !x.1) && (backToKw cpos (keywordEach [] X.env)).all (fun x => x.1.isSome)
      && decide ((e :: es).length + ([] : List Keyword).length + (if ([] : List Keyword).isEmpty then 0 else 1) < 30)) = true := by rfl)
    (hline : (apos.endLine == cpos.line) = true := by rfl) (hs : starEach (e :: es) X.env = (false, eval e X.env) :: starEach es X.env := by rfl) (hplain : (backTo cpos (starEach es X.env)).any (·.1) = false := by rfl) :
    PE X (.Call (.Attribute o name apos) (e :: es) [] cpos) (tBM X.K T r to t) := by
  intro pins s σ H Q I h
  refine wpAny_Call_method_late hbase hfew hline rfl (thn (ho pins s σ H _ I h) fun v s1 ⟨x, H1, I1, r1, ty, q1⟩ => ?_)
  obtain ⟨h1, h2⟩ := tyV_is I1 r1 ty
  refine ⟨T, id, pa, slot, hty, h1, h2, ?_⟩
  have hA := ha cpos pins s1 σ H1 _ I1 q1
  rw [hs] at hA ⊢
  refine Calls.callWith_builtin (by show (false || (backTo cpos (starEach es X.env)).any (·.1)) = false; rw [hplain] <;> rfl) (Calls.evalArgs_plain ?_)
  exact thn hA fun us s2 ⟨vs, H2, I2, r2, q2⟩ => hm pins s2 σ H2 x vs v us Q I2 r1 r2 q2
/- xs.append(e), list.index on a module's tuple .. are MtR facts of 06m -/
end
end L2

namespace L2
open PySem PySem.Spec PyProof.Rows

def MtM (X : Cx) (id : String) (r : V → List V → Hp → VK → Prop) : Prop :=
  ∀ (pins : List (Addr × Obj)) (s : Shared) (σ : St) (H : Hp) (x : V) (xs : List V) (v : Value) (us : List Value) (Q : VK), Inv X pins σ H s → RelV x v → Vals xs us → r x xs H Q →
    wpAny (model X.prog X.w) X.A (call (.builtin id) (v :: us)) (EP X pins σ Q) X.xe s

theorem Vals.one : ∀ {x : V} {us : List Value}, Vals [x] us → ∃ u, us = [u] ∧ RelV x u
  | _, _, .cons r .nil => ⟨_, rfl, r⟩
theorem Vals.two : ∀ {x y : V} {us : List Value}, Vals [x, y] us → ∃ u v, us = [u, v] ∧ RelV x u ∧ RelV y v
  | _, _, _, .cons r (.cons q .nil) => ⟨_, _, rfl, r, q⟩
theorem Vals.zero : ∀ {us : List Value}, Vals [] us → us = []
  | _, .nil => rfl
theorem Vals.dropLast {xs : List V} {us : List Value} (h : Vals xs us) : Vals xs.dropLast us.dropLast := by
  induction h with
  | nil => exact .nil
  | cons r t ih =>
    cases t with
    | nil => exact .nil
    | cons q t' => exact .cons r ih
theorem Vals.eraseIdx : ∀ {xs : List V} {us : List Value} (i : Nat), Vals xs us → Vals (xs.eraseIdx i) (us.eraseIdx i)
  | _, _, _, .nil => .nil
  | _, _, 0, .cons _ t => t
  | _, _, i + 1, .cons r t => .cons r (Vals.eraseIdx i t)
theorem Vals.reverse {xs : List V} {us : List Value} (h : Vals xs us) : Vals xs.reverse us.reverse := by
  induction h with
  | nil => exact .nil
  | cons r t ih => rw [List.reverse_cons, List.reverse_cons]; exact Vals.append ih (.cons r .nil)
theorem Vals.rep {xs : List V} {us : List Value} (h : Vals xs us) : ∀ k : Nat, Vals (List.replicate k xs).flatten (List.replicate k us).flatten
  | 0 => .nil
  | k + 1 => by
    rw [List.replicate_succ, List.replicate_succ, List.flatten_cons, List.flatten_cons]
    exact Vals.append h (Vals.rep h k)
theorem erase_last {α : Type} (l : List α) : l.eraseIdx (l.length - 1) = l.dropLast := by
  induction l with
  | nil => rfl
  | cons a r ih =>
    cases r with
    | nil => rfl
    | cons b r =>
      have e : (a :: b :: r).length - 1 = ((b :: r).length - 1) + 1 := by
        have h1 : (a :: b :: r).length = r.length + 2 := rfl
        have h2 : (b :: r).length = r.length + 1 := rfl
        omega
      rw [e, List.eraseIdx_cons_succ, ih]
      all_goals rfl
theorem foldl_rep (its : List Value) : ∀ (k : Nat) (acc : List Value),
    List.foldl (fun x1 x2 => x1 ++ x2) acc.toArray (List.replicate k its.toArray) = (acc ++ (List.replicate k its).flatten).toArray
  | 0, acc => by simp
  | k + 1, acc => by
    have e : acc.toArray ++ its.toArray = (acc ++ its).toArray := by simp
    have e2 : (acc ++ its) ++ (List.replicate k its).flatten = acc ++ (List.replicate (k + 1) its).flatten := by
      rw [List.replicate_succ, List.flatten_cons, List.append_assoc]
    rw [← e2, ← foldl_rep its k (acc ++ its), ← e, List.replicate_succ, List.foldl_cons]

section
variable {X : Cx} {pins : List (Addr × Obj)} {σ : St} {H : Hp} {s : Shared} {l b : Addr} {xs ys zs : List V}

theorem Inv.lset {its its' : List Value} {n : Nat} {f : Array Value → Array Value} {t' : Nat} (I : Inv X pins σ H s) (hH : H l = some (.lst xs))
    (e : s.heap.get? l = some { cls := .type "list", data := .seq its.toArray n }) (hf : f its.toArray = its'.toArray) (hv : Vals ys its') (hz : ys.length ≤ sizeLine) :
    Inv X pins σ (upd H l (.lst ys)) { s with heap := s.heap.update l (Obj.mapSeq f), toks := t' } := by
  have q := PySem.IsL.update e f
  rw [hf] at q
  refine I.write (x := l) (e := l) (by rw [hH]; exact trivial) (.inl rfl) (fun b' u hb hu => (Heap.get?_update_other s.heap (Obj.mapSeq f) (Ne.symm hb)).trans hu) ⟨_, q⟩ ?_
  exact ⟨hz, its', _, hv, q⟩
theorem Inv.lnew {its : List Value} {t' : Nat} (I : Inv X pins σ H s) (hv : Vals ys its) (hz : ys.length ≤ sizeLine) :
    Inv X pins σ (upd H s.heap.objs.size (.lst ys)) { s with heap := s.heap.push { cls := .type "list", data := .seq its.toArray }, toks := t' } :=
  I.laid (fun _ _ q => Heap.get?_push_of_some _ q) (Nat.le_refl _) ⟨hz, its, 0, hv, Heap.get?_push_size _ rfl⟩
theorem Inv.fresh (I : Inv X pins σ H s) : H s.heap.objs.size = none := I.hok.fresh (Nat.le_refl _)
theorem Inv.lstM (I : Inv X pins σ H s) (hH : H l = some (.lst xs)) : xs.length ≤ sizeLine ∧ ∃ (its : List Value) (n : Nat), Vals xs its ∧ xs.length = its.length ∧ s.heap.get? l = some { cls := .type "list", data := .seq its.toArray n } := by
  obtain ⟨z, its, n, r, e⟩ := I.hok l _ hH
  exact ⟨z, its, n, r, r.length, e⟩

theorem notLongL {n : Nat} (h : n ≤ sizeLine) : Builtin.List.listTooLong n = false := by
  unfold Builtin.List.listTooLong
  exact decide_eq_false (by omega)
end

section
variable {X : Cx}

def rAppend : V → List V → Hp → VK → Prop := fun x vs H Q => ∃ l xs y, x = .ref l ∧ vs = [y] ∧ H l = some (.lst xs) ∧ xs.length < sizeLine ∧ Q .non (upd H l (.lst (xs ++ [y])))
theorem mt_append : MtM X "list.append" rAppend := by
  intro pins s σ H x vs v us Q I rx rv h
  obtain ⟨l, xs, y, rfl, rfl, hH, hz, q⟩ := h
  cases rx
  obtain ⟨u, rfl, ru⟩ := rv.one
  obtain ⟨z, its, n, r, hl, e⟩ := I.lstM hH
  refine call_meets F.slot_list_append ⟨_, e, rfl⟩ F.entry_list_append (F.args_list_append_2 _ _) (PySem.list_append l its.toArray n u (by rw [List.size_toArray]; omega)) ⟨e, ?_⟩
  refine ⟨.non, _, I.lset (its' := its ++ [u]) hH e (by simp) (r.append (.cons ru .nil)) ?_, rfl, q⟩
  rw [List.length_append, List.length_singleton]
  omega

def rPop : V → List V → Hp → VK → Prop := fun x vs H Q => ∃ l xs y, x = .ref l ∧ vs = [] ∧ H l = some (.lst xs) ∧ xs[xs.length - 1]? = some y ∧ Q y (upd H l (.lst xs.dropLast))
theorem mt_pop : MtM X "list.pop" rPop := by
  intro pins s σ H x vs v us Q I rx rv h
  obtain ⟨l, xs, y, rfl, rfl, hH, hy, q⟩ := h
  cases rx
  have hus := rv.zero
  subst hus
  obtain ⟨z, its, n, r, hl, e⟩ := I.lstM hH
  obtain ⟨u, hu, ru⟩ := r.get hy
  have hy' : its.toArray[its.toArray.size - 1]? = some u := by
    show its.toArray[its.length - 1]? = some u
    rw [← Array.getElem?_toList, ← hl]
    exact hu
  refine call_meets F.slot_list_pop ⟨_, e, rfl⟩ F.entry_list_pop (F.args_list_pop_1 _) (MeetsSeq.list_pop_last l its.toArray n u hy' (by rw [List.size_toArray]; omega)) ⟨e, ?_⟩
  refine ⟨y, _, I.lset (its' := its.dropLast) hH e ?_ r.dropLast ?_, ru, q⟩
  · show its.toArray.eraseIdxIfInBounds (its.toArray.size - 1) = its.dropLast.toArray
    rw [List.size_toArray, List.eraseIdxIfInBounds_toArray, erase_last]
  · rw [List.length_dropLast]
    omega

def rCat : R2 := fun x y H Q => ∃ l b xs zs, x = .ref l ∧ y = .ref b ∧ H l = some (.lst xs) ∧ H b = some (.lst zs) ∧ xs.length + zs.length ≤ sizeLine ∧ ∀ p, H p = none → Q (.ref p) (upd H p (.lst (xs ++ zs)))
theorem op_cat : OpR X (binaryOp .Add) rCat := by
  intro pins s σ H x y v u Q I rx ry h
  obtain ⟨l, b, xs, zs, rfl, rfl, hH, hB, hz, q⟩ := h
  cases rx
  cases ry
  obtain ⟨z, its, n, r, hl, e⟩ := I.lstM hH
  obtain ⟨z2, its2, n2, r2, hl2, e2⟩ := I.lstM hB
  refine PySem.P.add_list e e2 ?_ (by rw [List.size_toArray, List.size_toArray]; omega)
  have ea : its.toArray ++ its2.toArray = (its ++ its2).toArray := by simp
  rw [ea]
  exact ⟨.ref _, _, I.lnew (t' := s.toks) (r.append r2) (by rw [List.length_append]; omega), rfl, q _ I.fresh⟩
def rRep : R2 := fun x y H Q => ∃ l k xs, x = .ref l ∧ y = .int k ∧ H l = some (.lst xs) ∧ -(2 ^ 63) ≤ k ∧ k < 2 ^ 63 ∧ xs.length * k.toNat ≤ sizeLine ∧
  ∀ p, H p = none → Q (.ref p) (upd H p (.lst (List.replicate k.toNat xs).flatten))
theorem len_rep {α : Type} (xs : List α) (k : Nat) : (List.replicate k xs).flatten.length = k * xs.length := by
  induction k with
  | zero => simp
  | succ k ih => rw [List.replicate_succ, List.flatten_cons, List.length_append, ih, Nat.succ_mul, Nat.add_comm]
theorem op_rep : OpR X (binaryOp .Mult) rRep := by
  intro pins s σ H x y v u Q I rx ry h
  obtain ⟨l, k, xs, rfl, rfl, hH, h1, h2, hz, q⟩ := h
  cases rx
  obtain ⟨t, rfl⟩ := ry
  obtain ⟨z, its, n, r, hl, e⟩ := I.lstM hH
  have hlen : its.toArray.size * k.toNat ≤ sizeLine := by rw [List.size_toArray, ← hl]; exact hz
  have hcap : ¬ its.toArray.size * k.toNat > (2 ^ 63 - 1) / 8 := by
    have : (sizeLine : Nat) ≤ (2 ^ 63 - 1) / 8 := by decide
    omega
  have hfit : ¬ (!Builtin.List.listFitsIndex k) = true := by
    rw [fitsIndex_both h1 h2]
    exact Bool.false_ne_true
  have hlong : ¬ Builtin.List.listTooLong (its.toArray.size * k.toNat) = true := by
    rw [notLongL hlen]
    exact Bool.false_ne_true
  have hnew : List.foldl (fun x1 x2 => x1 ++ x2) #[] (List.replicate (if its.toArray.isEmpty = true then 0 else k.toNat) its.toArray) = (List.replicate k.toNat its).flatten.toArray := by
    have f0 : ∀ m : Nat, List.foldl (fun x1 x2 => x1 ++ x2) #[] (List.replicate m its.toArray) = (List.replicate m its).flatten.toArray := fun m => by
      have := foldl_rep its m []
      rw [List.nil_append] at this
      exact this
    rw [f0]
    cases its with
    | nil => simp
    | cons a r' => rw [if_neg (by simp)]
  refine wpAny_binaryOp_repeat_ref (T := "list") (U := "int") (by decide) ⟨_, e, rfl⟩ (fun s' => typeIs_int s' k t) noFill_list_mul F.fills_int_mul F.slot_int_rmul repeat_list F.slot_int_index.lookup
    (call_meets F.slot_int_rmul (typeIs_int s k t) F.entry_int_rmul (F.args_int_rmul_2 _ _) (int___rmul___int_list k t l its.toArray n)
      ⟨e, rfl, ⟨_, e, rfl⟩, call_meets F.slot_list_mul ⟨_, e, rfl⟩ F.entry_list_mul (F.args_list_mul_2 _ _) (AutoListH.list___mul___list_int_3 l its.toArray n k t hfit hcap hlong) ⟨e, ?_⟩⟩)
  rw [hnew]
  exact ⟨.ref _, _, I.lnew (t' := s.toks) (r.rep k.toNat) (by rw [len_rep, Nat.mul_comm]; exact hz), rfl, q _ I.fresh⟩

end

section
variable {prog : Program} {w : World} {A : Around} {E : Value → Shared → Prop} {s : Shared}
end

section
variable {X : Cx}
end
end L2

namespace Att
open PySem PySem.W PySem.Calls PyProof.Rows

theorem ints_of_wellAll {P : Params} {h : Heap} : ∀ (ns : List Int) (vs : List Value), WellAll P h vs (ns.map WData.int) → IntsAre vs ns := by
  intro ns
  induction ns with
  | nil =>
    intro vs w
    rw [List.map_nil] at w
    cases w
    exact .nil
  | cons n ns ih =>
    intro vs w
    rw [List.map_cons] at w
    cases w with
    | cons a b =>
      cases a
      exact .cons _ _ (ih _ b)

theorem script_of {l : OpenLaw} {n : Nat} (hn : l.most = some n) {P : Params} {h : Heap} {args : List WData} {vals : List Value}
    (hpre : l.row.toRowW.claim.pre args = true) (hwl : WellAll P h vals args) :
    ∃ a vs ns, vals = [Value.ref a] ∧ args = [WData.list (ns.map WData.int)] ∧ h.get? a = some { cls := .type "list", data := .seq vs.toArray } ∧ IntsAre vs ns ∧ ns.length ≤ n := by
  have hsh : WShape.hasAll [] args [.list .int] = true := (pre_splitW hpre).1
  have hc : l.pre.holds [] { args := args } = true := (pre_splitW hpre).2
  obtain ⟨d, r, rfl, h1, h2⟩ := hasAllW_cons hsh
  obtain rfl := hasAllW_nil h2
  obtain ⟨xs, rfl, h3⟩ := hasW_list h1
  obtain ⟨ns, rfl⟩ := items_int h3
  have hlen : ns.length ≤ n := by
    unfold OpenLaw.pre at hc
    have h4 : (WTm.not (.lt (.lit (.int (n : Int))) (.len (.arg 0)))).holds [] { args := [.list (ns.map .int)] } = true := by
      have h4 := (holds_andW hc).1
      rw [hn] at h4
      exact h4
    have h5 := condW_of h4 (w_not (w_lt w_lit (w_len_list (w_arg rfl))))
    rw [List.length_map] at h5
    refine Nat.le_of_not_lt fun q => ?_
    have q' : (n : Int) < ((ns.length : Nat) : Int) := by omega
    first
      | (rw [decide_eq_true q'] at h5; exact absurd h5 (by decide))
      | (simp at h5; omega)
  cases hwl with
  | cons w1 w2 =>
    cases w2
    cases w1 with
    | list ho hall => exact ⟨_, _, ns, rfl, rfl, ho, ints_of_wellAll ns _ hall, hlen⟩

theorem post_true (l : OpenLaw) (args : List WData) : l.row.toRowW.claim.post args (.bool true) args = true :=
  postW_of (r := l.row.toRowW) (X := (true == true))
    (show WShape.has [] (.bool true) .bool = true by first | rfl | decide | simp [WShape.has, WShape.arms, WShape.armsAll])
    (show (WTm.eq .res (.lit (.bool true))).value [] { args := args, res := some (.bool true), after := args } = some (.bool (true == true)) from w_eq_bool (w_res rfl) w_lit) rfl

theorem attach_call {l : OpenLaw} {n : Nat} {q : Program} {loose : List Str} {XP : (Str → Option Value) → Heap → Prop} {YP : World → Heap → Prop} {d : DefRec}
    (hn : l.most = some n) (hdf : d.params.defaults = [])
    (call : ∀ (w : World) (s₀ s₁ : Shared) (mg mb : Str → Option Value) (fa : Addr) (o : Obj) (pm cd doc : Value) (a : Addr) (vs : List Value) (ns : List Int),
      Ground q loose [] XP w s₀ mg mb s₁.heap → YP w s₁.heap →
      s₁.heap.get? fa = some o → o.data = .func (docDef d.name d.params d.body d.scope pm cd doc) → s₁.heap.CodeRec cd d.name → mg d.name = some (.ref fa) →
      s₁.heap.get? a = some { cls := .type "list", data := .seq vs.toArray } → IntsAre vs ns → ns.length ≤ n → s₁.gens = #[] →
      codeAny (model l.prog w) callerA (.call (.ref fa) ⟨[.ref a], []⟩) (fun r s' => r = .ok (.ret (.bool true)) ∧ OldK s₁.heap s'.heap ∧ s'.os = s₁.os ∧ AllBare s'.gens) s₁) :
    WalkO q loose XP YP l.row.toRowW d [] (fun f vs => PySem.call f vs) := by
  intro w s₀ s₁ mg mb G Y fa o pm cd doc dV kV ho hd hcd hD hmg hg args vals as hpre hlay hrd hwl hlo
  obtain rfl : dV = .none := Dflts.none hD hdf
  obtain rfl : kV = .none := Dflts.noKw hD
  obtain ⟨a, vs, ns, rfl, rfl, hobj, hints, hlen⟩ := script_of hn hpre hwl
  refine enter_call (codeAny_mono (call w s₀ s₁ mg mb fa o pm cd doc a vs ns G Y ho (fd_plain hd) hcd hmg hobj hints hlen hg) fun r s' hq => ?_)
  obtain ⟨rfl, h2, h3, h4⟩ := hq
  exact ⟨.inl ⟨.bool true, .bool true, [], rfl, fun _ => rfl, .bool true, post_true l _, fun _ => ⟨List.Pairwise.nil, fun _ hm => (nomatch hm)⟩⟩, h2, h3, h4⟩

section
variable {prog : Program} {w : World} {A : Around} {E : Value → Shared → Prop} {s : Shared} {K : Frag}

end
end Att

namespace L2
open PySem PySem.Spec PyProof.Rows

theorem vals_ints : ∀ {vs : List Value} {ns : List Int}, IntsAre vs ns → Vals (ns.map V.int) vs
  | _, _, .nil => .nil
  | _, _, .cons n t h => .cons ⟨t, rfl⟩ (vals_ints h)

def Only (H : Hp) : Prop := ∀ b, H b = none ∨ ∃ o xs, H b = some (.frz o (.lst xs))

theorem law_call {P : Program} {w : World} {K : PySem.W.Frag} {mg mb : Str → Option Value} {CX : CXT} {k : Nat} {fa a : Addr} {fd : FuncData} {x : Str} {sp : Sp} {s₁ : Shared} {vs : List Value} {ns : List Int}
    (KX : K.In s₁.heap) (hns : s₁.heap.Ns mainGlobals mg) (hb : s₁.heap.Ns builtinsNs mb) (hbb : ∀ x : Str, x ≠ "__name__" → mb x = bootBuiltins x) (hlim : s₁.heap.NoLimit) (hg : s₁.gens = #[])
    (ha : s₁.heap.get? a = some { cls := .type "list", data := .seq vs.toArray }) (hi : IntsAre vs ns) (hl : ns.length ≤ sizeLine) (hr : Room k callerA)
    (F : ∀ base : Heap, K.In base → base.Ns mainGlobals mg → FnOk P w K mg base CX k fa fd [x] sp) (hbind : ∀ (s : Shared) (u : Value), BindsTo s fd ⟨[u], []⟩ [(x, u)])
    (hsp : ∀ H : Hp, Only H → SqL K H a (ns.map V.int) → sp [.ref a] H (fun v _ => v = .bl true) fun _ _ _ => False)
    (hCX : ∀ H e s', CX [] H s₁ (fun _ _ _ => False) e s' → False) :
    codeAny (model P w) callerA (.call (.ref fa) ⟨[.ref a], []⟩) (fun r s' => r = .ok (.ret (.bool true)) ∧ OldK s₁.heap s'.heap ∧ s'.os = s₁.os ∧ AllBare s'.gens) s₁ := by
  have rv := vals_ints hi
  have lenV := hi.length
  -- from an abstract heap in which nothing but the script may be tracked
  have core : ∀ H : Hp, Only H → SqL K H a (ns.map V.int) → HOk P w H s₁.heap → (∀ b, H b ≠ none → b = a) → (H a ≠ none → K.lookup a = none) →
      codeAny (model P w) callerA (.call (.ref fa) ⟨[.ref a], []⟩) (fun r s' => r = .ok (.ret (.bool true)) ∧ OldK s₁.heap s'.heap ∧ s'.os = s₁.os ∧ AllBare s'.gens) s₁ := by
    intro H hO hS hok hA hK
    have base_of : ∀ {b : Addr} {o : Obj}, s₁.heap.get? b = some o → H b = none → (hidT s₁.heap H).get? b = some o := fun e n => hidT_get e n
    have noA : ∀ {b : Addr} {o : Obj} {es : Array DictEntry} {ep : Nat}, s₁.heap.get? b = some o → o.data = .dict es ep → H b = none := fun {b o es ep} e d => by
      cases q : H b with
      | none => rfl
      | some u =>
        have e' : b = a := hA b (by rw [q]; simp)
        subst e'
        rw [ha] at e; cases e
        have d' : Data.seq vs.toArray _ = Data.dict es ep := d
        cases d'
    have nsK : ∀ {b : Addr} {m : Str → Option Value}, s₁.heap.Ns b m → (hidT s₁.heap H).Ns b m := fun {b m} ⟨o, es, ep, e, d, r⟩ => ⟨o, es, ep, base_of e (noA e d), d, r⟩
    have hKb : K.In (hidT s₁.heap H) := fun b o e => base_of (KX b o e) (by
      cases q : H b with
      | none => rfl
      | some u =>
        have e' : b = a := hA b (by rw [q]; simp)
        subst e'
        rw [hK (by rw [q]; simp)] at e; cases e)
    have hM : Mod K mg (hidT s₁.heap H) := ⟨hKb, nsK hns, ⟨mb, nsK hb, hbb⟩, let ⟨mc, h1, h2⟩ := hlim; ⟨mc, nsK h1, h2⟩⟩
    have e0 : Env0 P w K mg (hidT s₁.heap H) callerA [] s₁ H := ⟨rfl, hM, fun b o e => of_hidT e, Nat.le_of_eq (hidT_size _ _), trivial, fun b hb => absurd (show b ∈ ([] : List Addr) from hb) (by simp), hok, .of_eq hg⟩
    refine codeAny_mono ((F _ hKb (nsK hns)).run callerA [] s₁ H ⟨[.ref a], []⟩ [.ref a] [.ref a] _ _ hr e0 (hbind s₁ (.ref a)) (.cons rfl .nil) (hsp H hO hS)) fun r s' h => ?_
    cases r with
    | error e => exact (hCX H e s' h).elim
    | ok fl =>
      cases fl with
      | next => exact False.elim h
      | brk => exact False.elim h
      | cont => exact False.elim h
      | ret u =>
        obtain ⟨v, H', os, bare, un, hok', r', q⟩ := h
        have q' : v = .bl true := q
        subst q'
        obtain rfl : u = Value.bool true := r'
        refine ⟨rfl, OldK.of_keep fun b o e => ?_, os, bare⟩
        cases q : H b with
        | none => exact un.keep b o e q (by intro z; exact absurd (show b ∈ ([] : List Addr) from z) (by simp)) (by simp)
        | some u =>
          rcases hO b with z | ⟨ob, xs, z⟩
          · rw [q] at z; cases z
          · have z2 := un.frzs b ob _ z
            obtain ⟨e1, _⟩ := hok b _ z
            obtain ⟨e2, _⟩ := hok' b _ z2
            rw [e] at e1; cases e1
            exact e2
  cases hk : K.lookup a with
  | some o =>
    -- the script is one of the module's own objects
    have e := KX a o hk
    rw [ha] at e
    cases e
    refine core (fun _ => none) (fun _ => .inl rfl) (.inr ⟨_, vs.toArray, _, hk, rfl, rfl, rfl, by rw [List.size_toArray, lenV]; exact hl, by simpa using rv⟩) (fun b u z => by have z' : (none : Option HO) = some u := z; cases z') (fun b z => absurd rfl z) fun z => absurd rfl z
  | none =>
    refine core (fun b => if b = a then some (.frz { cls := .type "list", data := .seq vs.toArray } (.lst (ns.map V.int))) else none) (fun b => ?_) (.inl (.inr ⟨{ cls := .type "list", data := .seq vs.toArray }, if_pos rfl⟩)) (fun b u z => ?_) (fun b z => ?_) fun _ => hk
    · by_cases hb : b = a
      · exact .inr ⟨_, _, if_pos hb⟩
      · exact .inl (if_neg hb)
    · by_cases hb : b = a
      · have z' := (if_pos hb).symm.trans z
        cases z'
        subst hb
        exact ⟨ha, by rw [List.length_map]; exact hl, vs, _, rv, ha⟩
      · have z' := (if_neg hb).symm.trans z
        cases z'
    · by_cases hb : b = a
      · exact hb
      · exact absurd (if_neg hb) z
end L2

namespace L2
open PySem PySem.Spec PyProof.Rows

theorem walk_of {l : PySem.W.OpenLaw} {n k : Nat} {q : Program} {loose : List Str} {XP : (Str → Option Value) → Heap → Prop} {YP : World → Heap → Prop} {d : DefRec} {K : Params → PySem.W.Frag} {CX : World → CXT} {sp : World → Sp} {x : Str}
    (hn : l.most = some n) (hn2 : n ≤ sizeLine) (hdf : d.params.defaults = []) (hr : Room k callerA)
    (hY : ∀ (w : World) (h : Heap), YP w h → (K w.params).In h)
    (F : ∀ (w : World) (mg : Str → Option Value) (fa : Addr) (h : Heap), (K w.params).In h → h.Ns mainGlobals mg → mg d.name = some (.ref fa) →
      ∃ fd : FuncData, (∀ (s : Shared) (u : Value), BindsTo s fd ⟨[u], []⟩ [(x, u)]) ∧
        ∀ base : Heap, (K w.params).In base → base.Ns mainGlobals mg → FnOk l.prog w (K w.params) mg base (CX w) k fa fd [x] (sp w))
    (hsp : ∀ (w : World) (H : Hp) (a : Addr) (ns : List Int), ns.length ≤ n → Only H → SqL (K w.params) H a (ns.map V.int) → sp w [.ref a] H (fun v _ => v = .bl true) fun _ _ _ => False)
    (hCX : ∀ (w : World) (H : Hp) (s : Shared) (e : Value) (s' : Shared), CX w [] H s (fun _ _ _ => False) e s' → False) :
    PySem.W.WalkO q loose XP YP l.row.toRowW d [] (fun f vs => PySem.call f vs) := by
  refine Att.attach_call hn hdf fun w s₀ s₁ mg mb fa o pm cd doc a vs ns G Y ho hd hcd hmg hobj hints hlen hg => ?_
  have KX := hY w _ Y
  obtain ⟨fd, hb, hF⟩ := F w mg fa _ KX G.T.g hmg
  exact law_call KX G.T.g G.T.b G.T.builtins G.T.nolimit hg hobj hints (Nat.le_trans hlen hn2) hr hF hb (fun H hO hS => hsp w H a ns hlen hO hS) fun H e s' => hCX w H s₁ e s'
end L2

/- THE LAST THEOREM (shape; LID, My.* are yours):
   My.Adr: a structure of the addresses that your layer names (classes, functions); My.Txt K t: a structure (Prop) of the equations over K;
   My.txt_mk : {K} {implicit addresses ..} (e1 : nsIn K mainGlobals "law" = some (some (.ref f))) (e2 : K.lookup f = some ⟨oc, od, .func (fnOf "law" "law" params body scope dV kV doc pm an cdv ct), sl⟩) (e3 : codeIn K cdv "law" = true) .. : ∃ t, My.Txt K t

set_option maxRecDepth 100000 in
set_option maxHeartbeats 0 in
theorem PySem.Challenge.cw_LID_holds : PySem.Challenge.rw_LID.Holds := by
  w_on; o_law; k_head; (case hw => w_witness2)
  k_fill
  refine L2.walk_of (l := PySem.Challenge.rw_LID) (n := 63) (k := 40) (x := "script") (CX := fun w => ..) (sp := fun _ => My.sp_law) rfl (by decide) rfl ⟨rfl, by decide, by decide⟩ (fun w h Y => PySem.W.kIn_of Y) ?F ?S ?C
  case F =>
    intro w mg fa h KX G hmg
    have T : ∃ t, My.Txt (L2.KOf KX) t := by
      dsimp only [L2.KOf]                          -- K must stand as «<heap const> w.params» for k_is
      refine' My.txt_mk ?e1 ?e2 ?e3 ..
      (case e1 => PySem.W.k_is)                    -- in the order: a name -> its address -> its object -> its parts
      (case e2 => PySem.W.k_is)
      ..
    obtain ⟨t, T⟩ := T
    have e0 := hmg.symm.trans (PySem.W.mg_of KX G T.law)
    cases e0                                       -- fa is the law's own address
    exact ⟨_, fun s u => .of_eq rfl, fun base kb nb => My.law_fn T kb nb⟩     -- if «.of_eq rfl» comes too early: refine' ⟨_, ?b, fun base kb nb => My.law_fn T kb nb⟩; exact fun s u => .of_eq rfl
  case S => exact fun w H a ns hl hO hS => ..
  case C => exact ..
(the tactic k_is has no namespace: write k_is) -/

namespace L2
open PySem PySem.Spec PyProof.Rows

def defArgs (s : Stmt) : Arguments := match s with
  | .FunctionDef _ a _ _ _ _ _ _ _ _ => a
  | _ => { posonlyargs := [], args := [], vararg := none, kwonlyargs := [], kw_defaults := [], kwarg := none, defaults := [] }
def defBody (s : Stmt) : List Stmt := match s with
  | .FunctionDef _ _ b _ _ _ _ _ _ _ => b
  | _ => []
def defScope (s : Stmt) : Scope := match s with
  | .FunctionDef _ _ _ _ _ _ sc _ _ _ => sc
  | _ => { kind := .function, names := [], isGenerator := false, isCoroutine := false }

abbrev CX0 : CXT := fun _ _ _ _ _ _ => False
abbrev E0 : XK := fun _ _ _ => False
theorem pass0 {X : Cx} : Passes CX0 X E0 := fun _ _ _ _ _ _ _ h => h.elim

structure Fun (K : PySem.W.Frag) (x qual : Str) (st : Stmt) (f : Addr) (fd : FuncData) : Prop where
  ex : ∃ (oc : Value) (od : Option Addr) (kV doc pm : Value) (an : Option Addr) (cdv ct : Value) (osl : Array (Option Value)),
    fd = PySem.W.fnOf x qual (defArgs st) (defBody st) (defScope st) .none kV doc pm an cdv ct ∧ K.lookup f = some ⟨oc, od, .func fd, osl⟩ ∧ PySem.W.codeIn K cdv qual = true
  kp : PySem.W.keepIn K (.ref f) = true
section
variable {P : Program} {w : World} {K : PySem.W.Frag} {mg : Str → Option Value} {base : Heap}
theorem Fun.ok {x qual : Str} {st : Stmt} {f : Addr} {fd : FuncData} {N ps : List Str} {k : Nat} {sp : Sp} (F : Fun K x qual st f fd) (S : FnScope N ps (defScope st)) (len : ∀ vs H Q E, sp vs H Q E → vs.length = ps.length)
    (hbody : ∀ (cdv : Value) (A : Around) (outer : List Env) (s : Shared) (H : Hp) (vs : List V) (Q : VK) (E : XK), Room k (A.deeper (envOfC qual (defScope st) s.heap.objs.size f cdv)) → sp vs H Q E →
      ∃ t, PSs (cxOf CX0 P w K mg base N qual (defScope st) f cdv A outer s H E).nox (defBody st) t ∧ t { nx := fun _ H' => Q .non H', rt := Q } (start N vs) H) : FnOk P w K mg base CX0 (k + 1) f fd ps sp := by
  obtain ⟨oc, od, kV, doc, pm, an, cdv, ct, osl, rfl, lk, hcd⟩ := F.ex
  refine fn_of lk hcd S len fun A outer s H vs Q E hr hsp => ?_
  obtain ⟨t, h, q⟩ := hbody cdv A outer s H vs Q E hr hsp
  exact ⟨t, h.nox, q⟩
theorem Fun.binds {x qual : Str} {st : Stmt} {f : Addr} {fd : FuncData} {ps : List Str} (F : Fun K x qual st f fd)
    (h : ∀ (kV doc pm : Value) (an : Option Addr) (cdv ct : Value) (us : List Value), us.length = ps.length → bindArgs (PySem.W.fnOf x qual (defArgs st) (defBody st) (defScope st) .none kV doc pm an cdv ct) ⟨us, []⟩ = pure (ps.zip us)) : Binds K fd ps [] := by
  obtain ⟨oc, od, kV, doc, pm, an, cdv, ct, osl, rfl, lk, hcd⟩ := F.ex
  exact .all (h kV doc pm an cdv ct)
theorem fun_mk {x qual : Str} {st : Stmt} {f : Addr} {oc : Value} {od an : Option Addr} {osl : Array (Option Value)} {kV doc pm cdv ct : Value} (l : K.lookup f = some ⟨oc, od, .func (PySem.W.fnOf x qual (defArgs st) (defBody st) (defScope st) .none kV doc pm an cdv ct), osl⟩)
    (c : PySem.W.codeIn K cdv qual = true) (k : PySem.W.keepIn K (.ref f) = true) : Fun K x qual st f (PySem.W.fnOf x qual (defArgs st) (defBody st) (defScope st) .none kV doc pm an cdv ct) := ⟨⟨oc, od, kV, doc, pm, an, cdv, ct, osl, rfl, l, c⟩, k⟩
end
section
variable {X : Cx}
end

theorem iteF {A B : Prop} (h : B) : if false = true then A else B := by
  rw [if_neg Bool.false_ne_true]
  exact h
theorem iteT {A B : Prop} (h : A) : if true = true then A else B := by
  rw [if_pos rfl]
  exact h
theorem ite2 {c A B : Prop} [Decidable c] (h1 : c → A) (h2 : ¬ c → B) : if c then A else B := by
  by_cases h : c
  · rw [if_pos h]
    exact h1 h
  · rw [if_neg h]
    exact h2 h
def Same (H H' : Hp) : Prop := ∀ b o, H b = some o → H' b = some o
theorem Same.refl (H : Hp) : Same H H := fun _ _ h => h
theorem Same.trans {H H1 H2 : Hp} (a : Same H H1) (b : Same H1 H2) : Same H H2 := fun c o h => b c o (a c o h)
theorem Same.free {H H' : Hp} (e : Same H H') {l : Addr} (h : H' l = Option.none) : H l = Option.none := by
  cases q : H l with
  | none => rfl
  | some o =>
    rw [e l o q] at h
    cases h
theorem Same.seq {K : PySem.W.Frag} {H H' : Hp} {a : Addr} {xs : List V} (e : Same H H') (h : SqL K H a xs) : SqL K H' a xs := by
  rcases h with (h | ⟨o, h⟩) | h
  · exact .inl (.inl (e _ _ h))
  · exact .inl (.inr ⟨o, e _ _ h⟩)
  · exact .inr h

end L2

set_option Elab.async false
set_option linter.all false
set_option maxRecDepth 100000
set_option maxHeartbeats 4000000
namespace L2
open PySem PySem.Spec PyProof.Rows

def closL (env : Env) : List (Str × NameKind) → List (Str × Addr) → List (Str × Addr)
  | [], acc => acc
  | (n, k) :: r, acc => closL env r (if k == .free then (match env.cells.lookup n with | some a => (n, a) :: acc | none => acc) else acc)
theorem closL_sub {env : Env} : ∀ {ns : List (Str × NameKind)} {acc : List (Str × Addr)} {x : Str} {c : Addr}, (∀ x c, acc.lookup x = some c → env.cells.lookup x = some c) → (closL env ns acc).lookup x = some c → env.cells.lookup x = some c
  | [], acc, x, c, h, e => h x c e
  | (n, k) :: r, acc, x, c, h, e => by
    refine closL_sub (ns := r) ?_ e
    intro y d
    split
    · split
      · rename_i a ha
        intro q
        rw [List.lookup_cons] at q
        split at q
        · rename_i hy
          have hy' : y = n := by simpa using hy
          subst hy'
          rw [ha]; exact q
        · exact h y d q
      · exact h y d
    · exact h y d
theorem closL_acc {env : Env} : ∀ {ns : List (Str × NameKind)} {acc : List (Str × Addr)} {x : Str}, (acc.lookup x).isSome = true → ((closL env ns acc).lookup x).isSome = true
  | [], acc, x, h => h
  | (n, k) :: r, acc, x, h => by
    refine closL_acc (ns := r) ?_
    split
    · split
      · rw [List.lookup_cons]
        split
        · rfl
        · exact h
      · exact h
    · exact h
theorem closL_has {env : Env} : ∀ {ns : List (Str × NameKind)} {acc : List (Str × Addr)} {x : Str}, (x, NameKind.free) ∈ ns → (env.cells.lookup x).isSome = true → ((closL env ns acc).lookup x).isSome = true
  | [], acc, x, h, _ => by cases h
  | (n, k) :: r, acc, x, h, hc => by
    rcases List.mem_cons.mp h with e | e
    · cases e
      refine closL_acc (ns := r) ?_
      obtain ⟨a, ha⟩ := Option.isSome_iff_exists.mp hc
      rw [if_pos (by rfl), ha]
      show (List.lookup n ((n, a) :: acc)).isSome = true
      rw [List.lookup_cons]
      simp
    · exact closL_has (ns := r) e hc
theorem closureFor_eq {scope : Scope} {env : Env} (h : ∀ x ∈ scope.names, x.2 = .free → (env.cells.lookup x.1).isSome = true) : closureFor scope env = pure (closL env scope.names []) := by
  have all : ∀ (ns : List (Str × NameKind)) (acc : List (Str × Addr)), (∀ x ∈ ns, x.2 = .free → (env.cells.lookup x.1).isSome = true) →
      (forIn ns acc fun (x : Str × NameKind) (cs : List (Str × Addr)) => (if (x.2 == NameKind.free) = true then do let a ← cellOf env x.1; pure (ForInStep.yield ((x.1, a) :: cs)) else pure (ForInStep.yield cs) : Sem (ForInStep (List (Str × Addr))))) = pure (closL env ns acc) := by
    intro ns
    induction ns with
    | nil => intro acc _; rfl
    | cons x r ih =>
      intro acc hx
      obtain ⟨n, k⟩ := x
      rw [List.forIn_cons]
      by_cases hk : (k == NameKind.free) = true
      · obtain ⟨a, ha⟩ := Option.isSome_iff_exists.mp (hx (n, k) List.mem_cons_self (by simpa using hk))
        have ha : env.cells.lookup n = some a := ha
        have hcell : cellOf env n = pure a := by unfold cellOf; rw [ha]
        simp only [hk, if_true, hcell]
        refine Eq.trans (ih ((n, a) :: acc) fun y hy => hx y (List.mem_cons_of_mem _ hy)) ?_
        conv => rhs; unfold closL
        simp only [hk, if_true, ha]
      · simp only [hk]
        refine Eq.trans (ih acc fun y hy => hx y (List.mem_cons_of_mem _ hy)) ?_
        conv => rhs; unfold closL
        simp only [hk]
        rfl
  unfold closureFor
  exact (by
    have := all scope.names [] h
    first | exact this | (simp only [bind_pure] ; exact this) | simpa using this)
def cmpCx (X : Cx) (scope : Scope) (C : Addr) (N : List Str) (s₀ : Shared) (H₀ : Hp) (ex : List Addr) : Cx where
  prog := X.prog
  w := X.w
  K := X.K
  mg := X.mg
  base := X.base
  A := X.A
  N := N
  s₀ := s₀
  H₀ := H₀
  env := compEnvC scope (closL X.env scope.names []) C X.env
  outer := X.stack
  stack := X.stack
  ex := ex
  fn := fun _ => false
  calm := X.calm
  pn := []
  xe := fun _ _ => False
structure CScope (sc : Scope) (env : Env) : Prop where
  kind : sc.kind = .function
  nocell : ∀ y ∈ sc.names, y.2 ≠ .cell
  loc : ∀ y ∈ sc.names, y.2 = .local → sc.names.lookup y.1 = some .local
  free : ∀ x ∈ sc.names, x.2 = .free → (env.cells.lookup x.1).isSome = true
theorem lookup_relabel {env : Env} : ∀ {names : List (Str × NameKind)} {x : Str} {k : NameKind}, ((names.map fun (n, k) => if (k == NameKind.free && env.scope.kind == .function && env.kindOf n == some .cell) then (n, NameKind.cell) else (n, k)).lookup x = some k) →
    ∃ k', names.lookup x = some k' ∧ (k' = k ∨ (k' = .free ∧ k = .cell))
  | [], x, k, h => by simp at h
  | (n, q) :: r, x, k, h => by
    have ih := @lookup_relabel env r x k
    have h : List.lookup x ((if (q == NameKind.free && env.scope.kind == .function && env.kindOf n == some .cell) = true then (n, NameKind.cell) else (n, q)) :: _) = some k := h
    rw [List.lookup_cons]
    cases hx : x == n with
    | true =>
      by_cases hc : (q == NameKind.free && env.scope.kind == .function && env.kindOf n == some .cell) = true
      · rw [if_pos hc] at h
        simp only [List.lookup_cons, hx] at h
        refine ⟨q, rfl, .inr ⟨?_, (Option.some.inj h).symm⟩⟩
        simp only [Bool.and_eq_true] at hc
        simpa using hc.1.1
      · rw [if_neg hc] at h
        simp only [List.lookup_cons, hx] at h
        exact ⟨q, rfl, .inl (Option.some.inj h)⟩
    | false =>
      by_cases hc : (q == NameKind.free && env.scope.kind == .function && env.kindOf n == some .cell) = true
      · rw [if_pos hc] at h
        simp only [List.lookup_cons, hx] at h
        exact ih h
      · rw [if_neg hc] at h
        simp only [List.lookup_cons, hx] at h
        exact ih h
def Takes (X : Cx) (scope : Scope) (N : List Str) (σ σ0 : St) : Prop :=
  σ0.length = N.length ∧ ∀ (i : Nat) (x : Str) (v : V), N[i]? = some x → σ0[i]? = some (some v) → ∃ j : Nat, X.N[j]? = some x ∧ σ[j]? = some (some v) ∧ scope.names.lookup x = some .free ∧ (X.env.kindOf x = some .cell ∨ X.env.kindOf x = some .free)
section
variable {X : Cx}
theorem cmp_start {scope : Scope} {N : List Str} {pins : List (Addr × Obj)} {σ σ0 : St} {H : Hp} {s : Shared} {h' : Heap} {tk : Nat} {fp : List Addr} (I : Inv X pins σ H s) (S : CScope scope X.env) (hf : ∀ b ∈ fp, FpOk X pins H b) (hlt : ∀ b ∈ fp, b < s.heap.objs.size)
    (T : Takes X scope N σ σ0) (hn : h'.Ns s.heap.objs.size (fun _ => none)) (hk : ∀ b o, s.heap.get? b = some o → h'.get? b = some o) :
    Inv (cmpCx X scope s.heap.objs.size N s H fp) [] σ0 H { s with heap := h', toks := tk } := by
  have subC : ∀ x c, (closL X.env scope.names []).lookup x = some c → X.env.cells.lookup x = some c := fun x c e => closL_sub (ns := scope.names) (acc := []) (fun y d z => by simp at z) e
  have hasC : ∀ x, scope.names.lookup x = some .free → ∃ c, (closL X.env scope.names []).lookup x = some c := fun x e => by
    have m := PySem.mem_of_lookup e
    exact Option.isSome_iff_exists.mp (closL_has m (S.free _ m rfl))
  have fsN : ∀ b ∈ fp, b ∉ frs X.stack := fun b hb z => by
    obtain ⟨_, f1, f2, _⟩ := hf b hb
    rcases List.mem_cons.mp (I.stkSub b z) with e | e
    · exact f1 e
    · exact f2 e
  have kinds : ∀ x, ((relabel scope X.env).names.lookup x = some .cell ∨ (relabel scope X.env).names.lookup x = some .free) → scope.names.lookup x = some .free := fun x hx => by
    rcases hx with hx | hx
    · obtain ⟨k', e, q⟩ := lookup_relabel hx
      rcases q with q | ⟨q, _⟩
      · subst q
        exact absurd rfl (S.nocell _ (PySem.mem_of_lookup e))
      · rw [e, q]
    · obtain ⟨k', e, q⟩ := lookup_relabel hx
      rcases q with q | ⟨_, q⟩
      · rw [e, q]
      · cases q
  have noex : ∀ b o, X.base.get? b = some o → b ∉ fp := fun b o e hb => by
    obtain ⟨_, _, _, f3, _⟩ := hf b hb
    rcases f3 with z | z
    · exact I.ok.noex b o e z
    · exact absurd (Nat.lt_of_lt_of_le (Heap.lt_size e) (Nat.le_trans I.ok.bsz z)) (Nat.lt_irrefl _)
  refine ⟨⟨I.ok.mod, S.kind, I.ok.glob, I.ok.blt, Nat.le_refl _, fun x y c e1 e2 => I.ok.inj x y c (subC x c e1) (subC y c e2), fun x hx => hasC x (kinds x hx), fun x c z => absurd (show false = true from z) Bool.false_ne_true, I.ok.hd, I.ok.frames, .inl rfl,
      fun b hb => ⟨Nat.ne_of_lt (hlt b hb), fun x c e => (hf b hb).2.2.2.2.1 x c (subC x c e)⟩, I.bs, Nat.le_trans I.ok.bsz I.sz, noex, fsN, I.stack, I.stkFree⟩,
    rfl, I.bare, Un.kept hk, ⟨_, hn, fun i x v e1 e2 e3 => ?_⟩, fun x c e => ?_, I.hok.fresh (Nat.le_refl _), fun x c e => I.freeC x c (subC x c e), fun p hp => absurd (show p ∈ ([] : List (Addr × Obj)) from hp) (by simp), I.hok.kept hk, T.1⟩
  · obtain ⟨j, hj, hs, hfr, hkd⟩ := T.2 i x v e1 e2
    obtain ⟨m, _, hl⟩ := I.loc
    obtain ⟨u, r, l⟩ := hl j x v hj hs (hkd.elim (fun z => Or.inr (Or.inl z)) fun z => Or.inr (Or.inr z))
    refine ⟨u, r, .inr ⟨?_, ?_⟩⟩
    · show (relabel scope X.env).names.lookup x = some .cell ∨ (relabel scope X.env).names.lookup x = some .free
      rcases e3 with z | z | z
      · obtain ⟨k', e, q⟩ := lookup_relabel (show (relabel scope X.env).names.lookup x = some .local from z)
        rw [hfr] at e
        cases e
        rcases q with q | ⟨_, q⟩ <;> cases q
      · exact .inl z
      · exact .inr z
    · obtain ⟨c, hc⟩ := hasC x hfr
      refine ⟨c, hc, ?_⟩
      rcases l with ⟨k, _⟩ | ⟨_, c', e, z⟩
      · rcases hkd with hkd | hkd <;> (rw [hkd] at k; cases k)
      · have e' := subC x c hc
        rw [e] at e'
        cases e'
        obtain ⟨o, ho, hd⟩ := z
        exact ⟨o, hk _ o ho, hd⟩
  · obtain ⟨v, o, ho, hd⟩ := I.cell x c (subC x c e)
    exact ⟨v, o, hk _ o ho, hd⟩
theorem cmp_end {scope : Scope} {N : List Str} {pins pins' : List (Addr × Obj)} {σ σ' : St} {H H' : Hp} {s s' : Shared} {h' : Heap} {fp : List Addr} (I : Inv X pins σ H s) (hf : ∀ b ∈ fp, FpOk X pins H b)
    (I' : Inv (cmpCx X scope s.heap.objs.size N s H fp) pins' σ' H' s') (hs : Heap.SameBut s.heap.objs.size s'.heap h') : Inv X pins σ H' { s' with heap := h' } := by
  have hC : H' s.heap.objs.size = none := I'.free
  have ne : ∀ b o, s.heap.get? b = some o → b ≠ s.heap.objs.size := fun b o e => Nat.ne_of_lt (Heap.lt_size e)
  have B : Un (frs X.stack) fp H H' s.heap s'.heap := I'.base
  refine I.call' (s' := { s' with heap := h' }) (ch := fp) I'.os ⟨fun b o e n hb hx => ?_, fun b o e n hb hx => ?_, B.free, fun b o e hx => ?_, B.tups, B.frzs, B.tbls⟩ (fun b o e => ?_) I'.bare (fun b hb => ?_)
  · exact (hs.2 b (ne b o e)).trans (B.keep b o e n hb hx)
  · obtain ⟨sl, q⟩ := B.slot b o e n hb hx
    exact ⟨sl, (hs.2 b (ne b o e)).trans q⟩
  · obtain ⟨o', q⟩ := B.there b o e hx
    exact ⟨o', (hs.2 b (ne b o e)).trans q⟩
  · refine (I'.hok b o e).stay (fun c w' hc q => (hs.2 c ?_).trans q) (fun _ q => q) fun _ _ q => q
    rintro rfl
    rcases hc with rfl | hc
    · rw [hC] at e; cases e
    · rw [hC] at hc; cases hc
  · obtain ⟨_, f1, _, f3, f4, f5⟩ := hf b hb
    exact ⟨f3, f1, f4, f5⟩
end
end L2

set_option Elab.async false
set_option linter.all false
set_option maxRecDepth 100000
set_option maxHeartbeats 4000000
namespace L2
open PySem PySem.Spec PyProof.Rows
section
variable {prog : Program} {w : World} {A : Around} {R : Result → Shared → Prop} {s : Shared}
theorem compLoop_any {elt target iter : Expr} {ifs : List Expr} {scope : Scope} {pos : Pos} {it acc : Value} {env : Env} (I : Nat → Shared → Prop)
    (turn : ∀ n s, I n s → wpAny (model prog w) A (pyNext it) (fun r s₁ => match r with
      | none => R (.ok .next) s₁
      | some v => wpAny (model prog w) A (letOwnedTupleGo target it v) (fun _ s₁' => wpAny (model prog w) A (assign target env v) (fun _ s₂ =>
          wpAny (model prog w) A (forIn ifs true fun c r => if r = true then do let ok ← isTrue c env (eval c env); pure (ForInStep.yield ok) else pure (ForInStep.yield r)) (fun ok s₃ =>
            if ok = true then wpAny (model prog w) A (eval elt env) (fun x s₄ =>
              wpAny (model prog w) A (call (.builtin "list.append") [acc, x]) (fun _ s₅ => ∃ m, m < n ∧ I m s₅) (fun _ _ => False) s₄) (fun _ _ => False) s₃
            else ∃ m, m < n ∧ I m s₃) (fun _ _ => False) s₂) (fun _ _ => False) s₁') (fun _ _ => False) s₁) (fun _ _ => False) s)
    (n : Nat) (h : I n s) : codeAny (model prog w) A (.compLoop (.ListComp elt [⟨target, iter, ifs, 0⟩] scope pos) 0 it acc env) R s := by
  refine codeAny_loop rfl I (fun n s hI => ?_) n h
  show wpAny _ A ((compTurn (.ListComp elt [⟨target, iter, ifs, 0⟩] scope pos) 0 it acc env).onRaise (fun x => do noteFrame x env; theTreesLotGoes x)) _ _ s
  refine wpAny_noted ?_
  rw [compTurn_list]
  have up : ∀ {α : Type} {t : Sem α} {Q : α → Shared → Prop} {s : Shared} {E : Value → Shared → Prop}, wpAny (model prog w) A t Q (fun _ _ => False) s → wpAny (model prog w) A t Q E s := fun h => wpAny_noRaise h
  refine wpAny_bind (wpAny_standAt (wpAny_bind (up (thn (turn n s hI) fun r s₁ h₁ => ?_))))
  cases r with
  | none => exact wpAny_pure h₁
  | some v =>
    refine wpAny_bind (up (thn h₁ fun _ s₁' h₁' => ?_))
    refine wpAny_bind (up (thn h₁' fun _ s₂ h₂ => wpAny_bind (up (thn h₂ fun ok s₃ h₃ => ?_))))
    cases ok with
    | false => exact wpAny_pure ⟨rfl, h₃⟩
    | true =>
      exact wpAny_bind (wpAny_bind (up (thn h₃ fun x s₄ h₄ => wpAny_bind (up (thn h₄ fun _ s₅ h₅ => wpAny_pure (wpAny_pure ⟨rfl, h₅⟩))))))
end

def CompW (J : It) (g : TG) (tt : TT) (te : TE) (σ0 : St) (H1 : Hp) (D : Addr) (Q : VK) : Prop :=
  ∃ W : Nat → Nat → St → Hp → Prop, (∃ m, W 0 m σ0 (upd H1 D (.lst []))) ∧ ∀ i m σ' H', W i m σ' H' →
    (J.stop i H' ∧ Q (.ref D) H') ∨ (J.go i H' ∧ ∃ N : St → Hp → Prop, (∀ σ2 H2, N σ2 H2 → ∃ m', m' < m ∧ W (i + 1) m' σ2 H2) ∧ ∀ x H2, J.yld i H' x H2 → g x σ' H2 fun σ2 H3 => tt σ2 H3 fun b H4 =>
      if b = true then te σ2 H4 fun y H5 => ∃ ys, H5 D = some (.lst ys) ∧ ys.length < sizeLine ∧ N σ2 (upd H5 D (.lst (ys ++ [y]))) else N σ2 H4)
def tComp (wi : TI) (σ0 : St → St) (g : TG) (tt : TT) (te : TE) : TE := fun σ H Q => wi σ H fun J H1 => ∀ D, H1 D = none → CompW J g tt te (σ0 σ) H1 D Q
def PTs (X : Cx) (ifs : List Expr) (t : TT) : Prop :=
  ∀ (pins : List (Addr × Obj)) (s : Shared) (σ : St) (H : Hp) (Q : Bool → Hp → Prop), Inv X pins σ H s → t σ H Q →
    wpAny (model X.prog X.w) X.A (forIn ifs true fun c r => if r = true then do let ok ← isTrue c X.env (eval c X.env); pure (ForInStep.yield ok) else pure (ForInStep.yield r)) (TP X pins σ Q) X.xe s
def tYes : TT := fun _ H Q => Q true H
theorem pts_nil {X : Cx} : PTs X [] tYes := fun _ _ _ H _ I h => wpAny_tests_nil ⟨H, I, h⟩
section
variable {X : Cx} {elt target iter : Expr} {ifs : List Expr} {scope : Scope} {pos : Pos} {N : List Str} {wi : TI} {σ0 : St → St} {g : TG} {tt : TT} {te : TE}
theorem comp_block {pins : List (Addr × Obj)} {σ : St} {H : Hp} {s : Shared} {it : Addr} {fp : List Addr} {tn : Nat → Heap → Prop} {J : It} {Q : Addr → Hp → Prop} {RR : Value → Addr → Result → Shared → Prop} {E : Value → Shared → Prop}
    (hc : X.calm = true) (S : CScope scope X.env) (T : Takes X scope N σ (σ0 σ)) (I : Inv X pins σ H s) (Tn : Turn X.prog X.w X.K target J fp it tn) (st : tn 0 s.heap) (hf : ∀ b ∈ fp, FpOk X pins H b)
    (hg : ∀ C s H fp, PG (cmpCx X scope C N s H fp) target g) (ht : ∀ C s H fp, PTs (cmpCx X scope C N s H fp) ifs tt) (he : ∀ C s H fp, PE (cmpCx X scope C N s H fp) elt te)
    (hw : ∀ D, H D = none → ∃ W : Nat → Nat → St → Hp → Prop, (∃ m, W 0 m (σ0 σ) (upd H D (.lst []))) ∧ ∀ i m σ' H', W i m σ' H' →
      (J.stop i H' ∧ Q D H') ∨ (J.go i H' ∧ ∃ N : St → Hp → Prop, (∀ σ2 H2, N σ2 H2 → ∃ m', m' < m ∧ W (i + 1) m' σ2 H2) ∧ ∀ x H2, J.yld i H' x H2 → g x σ' H2 fun σ2 H3 => tt σ2 H3 fun b H4 =>
        if b = true then te σ2 H4 fun y H5 => ∃ ys, H5 D = some (.lst ys) ∧ ys.length < sizeLine ∧ N σ2 (upd H5 D (.lst (ys ++ [y]))) else N σ2 H4))
    (hR : ∀ (D C : Addr) (H' : Hp) (s' : Shared) (m : Str → Option Value), s.heap.objs.size ≤ C → H' C = none → s'.heap.Ns C m → (∀ h', Heap.SameBut C s'.heap h' → Inv X pins σ H' { s' with heap := h' }) → Q D H' → RR (.ref D) C (.ok .next) s') :
    wpAny (model X.prog X.w) X.A (newList []) (fun acc s₃ => wpAny (model X.prog X.w) X.A (newFunctionEnv scope X.env.globals (closL X.env scope.names []) [] X.env.qual none .none (some X.env)) (fun cenv s₄ =>
      codeAny (model X.prog X.w) X.A (.compStart (.ListComp elt [⟨target, iter, ifs, 0⟩] scope pos) 0 (.ref it) acc { cenv with scope := relabel scope X.env }) (RR acc cenv.locals) s₄) E s₃) E s := by
  refine wpAny_newObj_type (wpAny_newFunctionEnv S.nocell (by intro y hy; simp at hy) (fun h₁ hns₁ hsb₁ => ?_) S.kind)
  -- the new list is tracked
  have hD : H s.heap.objs.size = none := I.hok.fresh (Nat.le_refl _)
  have I3 : Inv X pins σ (upd H s.heap.objs.size (.lst [])) { s with heap := s.heap.push { cls := .type "list", dict := none, data := .seq ([] : List Value).toArray } } := I.lnew (ys := []) (its := []) (t' := s.toks) .nil (by simp)
  have hlt : ∀ b ∈ fp, b < s.heap.objs.size := fun b hb => by obtain ⟨o, e, _⟩ := Tn.obj _ _ st b hb; exact Heap.lt_size e
  have hf3 : ∀ b ∈ fp, FpOk X pins (upd H s.heap.objs.size (.lst [])) b := fun b hb => ⟨by rw [upd_ne (Nat.ne_of_lt (hlt b hb))]; exact (hf b hb).1, (hf b hb).2⟩
  have hlt3 : ∀ b ∈ fp, b < ({ s with heap := s.heap.push { cls := .type "list", dict := none, data := .seq ([] : List Value).toArray } } : Shared).heap.objs.size := fun b hb => by
    show b < (s.heap.push _).objs.size
    rw [Heap.size_push]
    exact Nat.lt_succ_of_lt (hlt b hb)
  have hk1 : ∀ b o, ({ s with heap := s.heap.push { cls := .type "list", dict := none, data := .seq ([] : List Value).toArray } } : Shared).heap.get? b = some o → h₁.get? b = some o := fun b o e =>
    hsb₁.extBut b o (Nat.ne_of_lt (Heap.lt_size e)) (Heap.get?_push_of_some _ e)
  have I4 := cmp_start (N := N) (tk := s.toks + ([] : List (Str × Value)).length) I3 S hf3 hlt3 T hns₁ hk1
  have st4 : tn 0 h₁ := Tn.keep _ _ _ st fun b hb o e => hk1 b o (Heap.get?_push_of_some _ e)
  obtain ⟨W, ⟨m0, w0⟩, turn⟩ := hw _ hD
  generalize hX : cmpCx X scope ({ s with heap := s.heap.push { cls := .type "list", dict := none, data := .seq ([] : List Value).toArray } } : Shared).heap.objs.size N { s with heap := s.heap.push { cls := .type "list", dict := none, data := .seq ([] : List Value).toArray } } (upd H s.heap.objs.size (.lst [])) fp = X' at I4
  have eP : X'.prog = X.prog := by rw [← hX]; rfl
  have eW : X'.w = X.w := by rw [← hX]; rfl
  have eK : X'.K = X.K := by rw [← hX]; rfl
  have eA : X'.A = X.A := by rw [← hX]; rfl
  have eC : X'.calm = true := by rw [← hX]; exact hc
  have eX : X'.xe = fun _ _ => False := by rw [← hX]; rfl
  have eEx : X'.ex = fp := by rw [← hX]; rfl
  have hg' : PG X' target g := by rw [← hX]; exact hg _ _ _ _
  have ht' : PTs X' ifs tt := by rw [← hX]; exact ht _ _ _ _
  have he' : PE X' elt te := by rw [← hX]; exact he _ _ _ _
  have eE : X'.env = compEnvC scope (closL X.env scope.names []) ({ s with heap := s.heap.push { cls := .type "list", dict := none, data := .seq ([] : List Value).toArray } } : Shared).heap.objs.size X.env := by rw [← hX]; rfl
  -- the iterator's objects, inside
  have fpIn : ∀ {H' : Hp}, (∀ b ∈ fp, H' b = none) → ∀ b ∈ fp, FpOk X' [] H' b := fun {H'} hn b hb => by
    obtain ⟨f0, f1, f2, f3, f4, f5⟩ := hf3 b hb
    rw [← hX]
    refine ⟨hn b hb, Nat.ne_of_lt (hlt3 b hb), fun z => ?_, .inl hb, fun x c e => f4 x c (closL_sub (ns := scope.names) (acc := []) (fun y d z => by simp at z) e), fun p hp => absurd (show p ∈ ([] : List (Addr × Obj)) from hp) (by simp)⟩
    rcases List.mem_cons.mp (I3.stkSub b z) with e | e
    · exact f1 e
    · exact f2 e
  have fr0 : ∀ b ∈ fp, upd H s.heap.objs.size (.lst []) b = none := fun b hb => (hf3 b hb).1
  have loop : codeAny (model X.prog X.w) X.A (.compLoop (.ListComp elt [⟨target, iter, ifs, 0⟩] scope pos) 0 (.ref it) (.ref s.heap.objs.size) X'.env)
      (RR (.ref s.heap.objs.size) ({ s with heap := s.heap.push { cls := .type "list", dict := none, data := .seq ([] : List Value).toArray } } : Shared).heap.objs.size)
      { s with heap := h₁, toks := s.toks + ([] : List (Str × Value)).length } := by
    refine compLoop_any (fun n s' => ∃ i σ' H', Inv X' [] σ' H' s' ∧ tn i s'.heap ∧ (∀ b ∈ fp, H' b = none) ∧ W i n σ' H') ?_ m0 ⟨0, σ0 σ, _, I4, st4, fr0, w0⟩
    rintro n s5 ⟨i, σ5, H5, I5, st5, fr5, w5⟩
    rcases turn i n σ5 H5 w5 with ⟨stop, qn⟩ | ⟨go, Nx, hN, step⟩
    · have q := Tn.done X' eP eW eK eC i [] s5 σ5 H5 (fun _ _ => False) I5 (fpIn fr5) st5 stop
      rw [eA] at q
      refine thn q fun r s6 ⟨hr, I6⟩ => ?_
      subst hr
      obtain ⟨mm, hns6, _⟩ := I6.loc
      rw [eE] at hns6
      have fr6 := I6.free
      rw [eE] at fr6
      refine hR _ _ H5 s6 mm ?_ fr6 hns6 (fun h' hs => ?_) qn
      · show s.heap.objs.size ≤ (s.heap.push _).objs.size
        rw [Heap.size_push]
        exact Nat.le_succ _
      · rw [← hX] at I6
        exact cmp_end I3 hf3 I6 hs
    · have q := Tn.item X' eP eW eK eC i [] s5 σ5 H5 (fun _ _ => False) I5 (fpIn fr5) st5 go
      rw [eA] at q
      refine thn q fun r s6 ⟨u, hr, h6⟩ => ?_
      subst hr
      refine thn h6 fun _ s7 ⟨x, H7, I7, r7, y7, st7, fr7⟩ => ?_
      have I7' := I7.pinned (fpIn fr7) (Tn.obj _ _ st7)
      have q8 := hg' _ s7 σ5 H7 x u _ I7' r7 (step x H7 y7)
      rw [eP, eW, eA, eX] at q8
      refine thn q8 fun _ s8 ⟨σ8, H8, I8, q8⟩ => ?_
      have q9 := ht' _ s8 σ8 H8 _ I8 q8
      rw [eP, eW, eA, eX] at q9
      refine thn q9 fun ok s9 ⟨H9, I9, q9⟩ => ?_
      have again : ∀ {σ10 : St} {H10 : Hp} {s10 : Shared}, Inv X' ([] ++ pinsAt fp s7.heap) σ10 H10 s10 → Nx σ10 H10 → ∃ m, m < n ∧ ∃ i σ' H', Inv X' [] σ' H' s10 ∧ tn i s10.heap ∧ (∀ b ∈ fp, H' b = none) ∧ W i m σ' H' := fun {σ10 H10 s10} J10 n10 => by
        obtain ⟨m', hm, w10⟩ := hN σ10 H10 n10
        refine ⟨m', hm, i + 1, σ10, H10, J10.unpinned, Tn.keep _ _ _ st7 fun b hb o e => (J10.pin (b, o) (List.mem_append_right _ (List.mem_append_right _ (mem_pinsAt hb e)))).1, fun b hb => ?_, w10⟩
        obtain ⟨o, e, d⟩ := Tn.obj _ _ st7 b hb
        exact (J10.pin (b, o) (List.mem_append_right _ (List.mem_append_right _ (mem_pinsAt hb e)))).2.1
      cases ok with
      | false =>
        have q9' : Nx σ8 H9 := q9
        exact again I9 q9'
      | true =>
        have q9' : te σ8 H9 _ := q9
        have q10 := he' _ s9 σ8 H9 _ I9 q9'
        rw [eP, eW, eA, eX] at q10
        refine thn q10 fun y s10 ⟨yv, H10, I10, r10, ys, hys, hz, n10⟩ => ?_
        have q11 := (mt_append (X := X')) _ s10 σ8 H10 (.ref s.heap.objs.size) [yv] (.ref s.heap.objs.size) [y] (fun _ H11 => Nx σ8 H11) I10 rfl (.cons r10 .nil) ⟨_, ys, yv, rfl, rfl, hys, hz, n10⟩
        rw [eP, eW, eA, eX] at q11
        exact thn q11 fun _ s11 ⟨_, H11, I11, _, n11⟩ => again I11 n11
  rw [eE] at loop
  exact codeAny_compStart_list loop (Tn.self _ 0 _ _ _ st4 loop)

theorem pe_comp (hc : X.calm = true) (S : CScope scope X.env) (hi : PI X target iter wi) (T : ∀ σ, σ.length = X.N.length → Takes X scope N σ (σ0 σ))
    (hg : ∀ C s H fp, PG (cmpCx X scope C N s H fp) target g) (ht : ∀ C s H fp, PTs (cmpCx X scope C N s H fp) ifs tt) (he : ∀ C s H fp, PE (cmpCx X scope C N s H fp) elt te)
    (hs : ∀ x, foldedSetIterable iter X.env x = pure x := by intro _; rfl) : PE X (.ListComp elt [⟨target, iter, ifs, 0⟩] scope pos) (tComp wi σ0 g tt te) := by
  intro pins s σ H Q I h
  rw [eval_ListComp]
  refine wpAny_comprehension_free (use := none) rfl hs (closureFor_eq S.free) S.kind S.loc (thn (hi pins s σ H _ I h) fun xv s₁ h₁ => thn h₁ fun itv s₂ h₂ => ?_)
  obtain ⟨it, fp, tn, J, H2, rfl, I2, Tn, st2, f2, hw⟩ := h₂
  refine comp_block (Q := fun D H' => Q (.ref D) H') (RR := fun acc C => compPost (model X.prog X.w) X.A X.xe none (EP X pins σ Q) acc C) hc S (T σ I.len) I2 Tn st2 f2 hg ht he hw ?_
  intro D C H' s' m hC _ hn hI hq
  exact ⟨m, hn, fun h' hs' => ⟨.ref D, H', hI h' hs', rfl, hq⟩⟩
theorem ps_setC {i : Nat} {y : Str} {py spos : Pos} (hc : X.calm = true) (S : CScope scope X.env) (hi : PI X target iter wi) (T : ∀ σ, σ.length = X.N.length → Takes X scope N σ (σ0 σ))
    (hg : ∀ C s H fp, PG (cmpCx X scope C N s H fp) target g) (ht : ∀ C s H fp, PTs (cmpCx X scope C N s H fp) ifs tt) (he : ∀ C s H fp, PE (cmpCx X scope C N s H fp) elt te)
    (hN : X.N.Nodup) (hy : X.N[i]? = some y) (hx : Loc X.env.scope y)
    (hsw : swapsWith (.ListComp elt [⟨target, iter, ifs, 0⟩] scope pos) (some (.Name y py)) spos.line X.env = pure true := by rfl)
    (hf : X.fn y = true ∨ X.env.scope.names.lookup y = some .local := by first | exact .inl rfl | exact .inr rfl | assumption)
    (hs : ∀ x, foldedSetIterable iter X.env x = pure x := by intro _; rfl) : PS X (.Assign [.Name y py] (.ListComp elt [⟨target, iter, ifs, 0⟩] scope pos) spos) (tAsg (tComp wi σ0 g tt te) (gName i)) := by
  intro pins s σ H D I h
  rw [exec_Assign_Name_used _ _ _ _ hsw]
  refine wpAny_bind (wpAny_standAt (wpAny_bind ?_))
  show wpAny _ X.A (do let _ ← comprehension (.ListComp elt [⟨target, iter, ifs, 0⟩] scope pos) scope X.env _ (newList []) false (eval iter X.env) (some (assign (.Name y py) X.env))) _ _ s
  refine wpAny_bind (thn (wpAny_comprehension_free (use := some (assign (.Name y py) X.env)) (Q := fun _ s' => SP X pins D .next s') rfl hs (closureFor_eq S.free) S.kind S.loc
    (thn (hi pins s σ H _ I h) fun xv s₁ h₁ => thn h₁ fun itv s₂ h₂ => ?_)) fun _ s' hq => wpAny_pure (wpAny_pure hq))
  obtain ⟨it, fp, tn, J, H2, rfl, I2, Tn, st2, f2, hw⟩ := h₂
  refine comp_block (Q := fun L H' => D.nx (σ.set i (some (.ref L))) H') (RR := fun acc C => compPost (model X.prog X.w) X.A X.xe (some (assign (.Name y py) X.env)) (fun _ s' => SP X pins D .next s') acc C) hc S (T σ I.len) I2 Tn st2 f2 hg ht he hw ?_
  intro L C H' s' m hC hfree hn hI hq
  have I3 : Inv X pins σ H' s' := hI s'.heap (.refl ..)
  refine wpAny_assign_Name (store_ok2 I3 hN hy hx (v := .ref L) rfl (fun s4 I4 hch => ?_) hf)
  obtain ⟨a, hsb, ha⟩ := hch
  have haC : C ≠ a := by
    rintro rfl
    rcases ha with e | e
    · have := I2.lt
      rw [← e] at this
      exact absurd (Nat.lt_of_lt_of_le this hC) (Nat.lt_irrefl _)
    · obtain ⟨v, z⟩ := I2.cell y _ e
      exact absurd (Nat.lt_of_lt_of_le z.lt hC) (Nat.lt_irrefl _)
  refine ⟨m, hn.sameBut hsb haC, fun h' hs' => ⟨_, H', ?_, hq⟩⟩
  have e4 : ({ s4 with heap := h' } : Shared) = { s4 with heap := h', toks := s4.toks } := rfl
  rw [e4]
  refine I4.turned (it := C) (fun b o hb e => (hs'.2 b hb).trans e) hfree ?_ (.inr (Nat.le_trans I2.sz hC)) ?_ ?_
  · exact Nat.ne_of_gt (Nat.lt_of_lt_of_le I2.lt hC)
  · rintro x c e rfl
    obtain ⟨v, z⟩ := I2.cell x _ e
    exact absurd (Nat.lt_of_lt_of_le z.lt hC) (Nat.lt_irrefl _)
  · rintro p hp e
    exact absurd (Nat.lt_of_lt_of_le (Heap.lt_size (I2.pin p hp).1) (by rw [e]; exact hC)) (Nat.lt_irrefl _)
end
end L2

set_option Elab.async false
set_option linter.all false
set_option maxRecDepth 100000
set_option maxHeartbeats 4000000
namespace L2
open PySem PySem.Spec PyProof.Rows
section
variable {X : Cx}
theorem kit_same {K : PySem.W.Frag} {T : String} : PySem.W.kitOne K (.type T) (.type T) = some true := by
  unfold PySem.W.kitOne
  rw [if_pos (by simp)]
theorem kit_of {K : PySem.W.Frag} {T U : String} {b : Bool} {l : List Value} (hm : PySem.W.kitMeta U = true) (hn : ¬ T = U) (hl : fastBuiltinMro T = some l) (hb : l.contains (.type U) = b) : PySem.W.kitOne K (.type T) (.type U) = some b := by
  unfold PySem.W.kitOne
  rw [if_neg (by simp [hn])]
  show (if PySem.W.kitMeta U = true then PySem.W.subIn K (.type T) (.type U) else none) = some b
  rw [if_pos hm]
  show (fastBuiltinMro T).map (·.contains (.type U)) = some b
  rw [hl, ← hb]
  rfl
theorem op_le_str : OpR X (compareOp .LtE) (fun x y H Q => ∃ i j, x = .str i ∧ y = .str j ∧ Q (.bl (!(decide (j.cps.toList < i.cps.toList)))) H) := by
  intro pins s σ H x y v u Q I rx ry h
  obtain ⟨i, j, rfl, rfl, q⟩ := h
  obtain ⟨t, rfl⟩ := rx
  obtain ⟨t', rfl⟩ := ry
  exact PySem.P.le_str (fin_bl I q rfl)
theorem op_in_sign : OpR X (compareOp .In) (fun x y H Q => ∃ (c : Nat) (j : Str), x = .str ⟨#[c]⟩ ∧ y = .str j ∧ Q (.bl (decide (c ∈ j.cps.toList))) H) := by
  intro pins s σ H x y v u Q I rx ry h
  obtain ⟨c, j, rfl, rfl, q⟩ := h
  exact op_in_str pins s σ H _ _ v u Q I rx ry ⟨_, _, rfl, rfl, by rw [StrLaws.found_one]; exact q⟩
def rSlS : V → Option Int → Option Int → Hp → VK → Prop := fun x lo hi H Q => ∃ z, x = .str z ∧ z.length ≤ sizeLine ∧ Q (.str (Txt.slice z lo hi)) H
theorem sl_str : SlR X rSlS := by
  intro pins s σ H x v vl vu lo hi sl Q I rx hs pl pu h
  obtain ⟨z, rfl, hz, q⟩ := h
  obtain ⟨t, rfl⟩ := rx
  obtain ⟨o, ho, hc, hd⟩ := hs
  refine ⟨"str", _, slot_str_getitem.lookup, typeIs_str _ _ _, ?_⟩
  cases pl with
  | none =>
    cases pu with
    | none => exact wpAny_getItem_str_slice (l := none) (u := none) (st := none) ⟨_, ho, hc, hd⟩ rfl (post_val_or_str ⟨Nat.le_trans (Txt.slice_le z _ _) hz, fun t' k => ⟨.str (Txt.slice z _ _), H, I.tok k, ⟨t', rfl⟩, q⟩⟩)
    | int j u => exact wpAny_getItem_str_slice (l := none) (u := some (j, u)) (st := none) ⟨_, ho, hc, hd⟩ rfl (post_val_or_str ⟨Nat.le_trans (Txt.slice_le z _ _) hz, fun t' k => ⟨.str (Txt.slice z _ _), H, I.tok k, ⟨t', rfl⟩, q⟩⟩)
  | int i ti =>
    cases pu with
    | none => exact wpAny_getItem_str_slice (l := some (i, ti)) (u := none) (st := none) ⟨_, ho, hc, hd⟩ rfl (post_val_or_str ⟨Nat.le_trans (Txt.slice_le z _ _) hz, fun t' k => ⟨.str (Txt.slice z _ _), H, I.tok k, ⟨t', rfl⟩, q⟩⟩)
    | int j u => exact wpAny_getItem_str_slice (l := some (i, ti)) (u := some (j, u)) (st := none) ⟨_, ho, hc, hd⟩ rfl (post_val_or_str ⟨Nat.le_trans (Txt.slice_le z _ _) hz, fun t' k => ⟨.str (Txt.slice z _ _), H, I.tok k, ⟨t', rfl⟩, q⟩⟩)
theorem strsAre_of : ∀ {ys : List Str} {us : List Value}, Vals (ys.map V.str) us → StrsAre us ys
  | [], _, .nil => .nil
  | y :: ys, _, .cons r t => by
    obtain ⟨tk, rfl⟩ := r
    exact .cons y tk (strsAre_of t)
def rJoin (K : PySem.W.Frag) : V → List V → Hp → VK → Prop := fun x vs H Q => ∃ sep p ys, x = .str sep ∧ vs = [.ref p] ∧ SqL K H p (ys.map V.str) ∧ (ys.map (·.length)).sum + ys.length * sep.length ≤ 16777216 ∧ Q (.str (Txt.join sep ys)) H
theorem mt_join : MtR X "str.join" (rJoin X.K) := by
  intro pins s σ H x vs v us Q I rx rv h
  obtain ⟨sep, p, ys, rfl, rfl, hq, hz, q⟩ := h
  obtain ⟨t, rfl⟩ := rx
  obtain ⟨u, rfl, ru⟩ := rv.one
  cases ru
  obtain ⟨its, r, pl, _⟩ := I.list hq
  exact join_list pl.isList (by simpa using strsAre_of r) hz fun t' k => ⟨.str (Txt.join sep ys), H, I.tok k, ⟨t', rfl⟩, q⟩
end
end L2

set_option Elab.async false
set_option linter.all false
set_option maxRecDepth 100000
set_option maxHeartbeats 4000000
namespace L2
open PySem PySem.Spec PyProof.Rows
def Its (z : Str) : It := ⟨fun i _ => i < z.cps.size, fun i H x H' => H' = H ∧ ∃ c, z.cps.toList[i]? = some c ∧ x = .str ⟨#[c]⟩, fun i _ => i = z.cps.size⟩
theorem strIter_ty (z : Str) : ["enumerate", "zip", "dict_itemiterator", "dict_reverseitemiterator", "odict_iterator", "itertools.zip_longest", "itertools.pairwise"].contains (strIterType z) = false := by
  unfold strIterType
  cases z.cps.all (· < 128) <;> decide
theorem walks_str {P : Program} {w : World} {A : Around} (hh : A.handled = none) (it : Addr) (z : Str) (t : Tok) : Walks P w A it [it] [it] z.cps.size (SignAt z) (fun i h => h.IsStrIter it (strIterType z) z t i) := by
  unfold strIterType
  cases z.cps.all (· < 128)
  · exact Walks.strWide hh it z t
  · exact Walks.strAscii hh it z t
theorem turn_str {P : Program} {w : World} {K : PySem.W.Frag} {tg : Expr} (it : Addr) (z : Str) (t : Tok) : Turn P w K tg (Its z) [it] it (fun i h => h.IsStrIter it (strIterType z) z t i) where
  mem := by simp
  obj := fun i h st b hb => by
    have e : b = it := by simpa using hb
    subst e
    obtain ⟨o, e, c, d⟩ := st
    exact ⟨o, e, fun v z => by rw [d] at z; cases z⟩
  keep := fun i h h' st k => let ⟨o, e, r⟩ := st; ⟨o, k it (by simp) o e, r⟩
  item := by
    intro X hP hw hK hc i pins s σ H E I hf st hg
    subst hP hw hK
    obtain ⟨f0, f1, f2, f3, f4, f5⟩ := hf it (by simp)
    refine (walks_str (P := X.prog) (w := X.w) (I.ok.hd hc) it z t).item i s _ _ hg st fun v h' tk hv st' kk => ?_
    obtain ⟨c, u, hcu, rfl⟩ := hv
    have I1 : Inv X pins σ H { s with heap := h', toks := tk } := I.turned (fun b o hb e => kk b o (by simpa using hb) e) f0 f1 f3 f4 f5
    obtain ⟨o, e, cc, d⟩ := id st'
    exact ⟨_, rfl, go_of (s := { s with heap := h', toks := tk }) e cc d (strIter_ty z) ⟨.str ⟨#[c]⟩, H, I1, ⟨u, rfl⟩, ⟨rfl, c, by simpa using hcu, rfl⟩, st', fun b hb => (hf b hb).1⟩⟩
  done := by
    intro X hP hw hK hc i pins s σ H E I hf st hg
    subst hP hw hK
    obtain ⟨f0, f1, f2, f3, f4, f5⟩ := hf it (by simp)
    have hg : i = z.cps.size := hg
    subst hg
    exact (walks_str (P := X.prog) (w := X.w) (I.ok.hd hc) it z t).done s _ _ st fun h' tk kk => ⟨rfl, I.turned (fun b o hb e => kk b o (by simpa using hb) e) f0 f1 f3 f4 f5⟩
  self := fun A i s Q E st h => by
    obtain ⟨o, e, c, d⟩ := st
    unfold strIterType at c
    cases ha : z.cps.all (· < 128)
    · rw [ha] at c; exact wpAny_pyIter_striter_wide ⟨o, e, c, d⟩ h
    · rw [ha] at c; exact wpAny_pyIter_striter_ascii ⟨o, e, c, d⟩ h
section
variable {X : Cx} {tg : Expr}
end

section
variable {g : TG} {tt : TT} {te : TE} {σ0 : St} {H1 : Hp} {D : Addr} {Q : VK}
def CompT (g : TG) (tt : TT) (te : TE) (D : Addr) (Nx : List V → St → Hp → Prop) (x : V) (σ : St) (H : Hp) : Prop :=
  g x σ H fun σ2 H3 => tt σ2 H3 fun b H4 => if b = true then te σ2 H4 fun y H5 => ∃ ys, H5 D = some (.lst ys) ∧ ys.length < sizeLine ∧ (∃ zs, upd H5 D (.lst (ys ++ [y])) D = some (.lst zs) ∧ Nx zs σ2 (upd H5 D (.lst (ys ++ [y])))) else ∃ zs, H4 D = some (.lst zs) ∧ Nx zs σ2 H4
theorem comp_range {lo : Int} {n : Nat} (Pv : Nat → List V → St → Hp → Prop) (h0 : Pv 0 [] σ0 (upd H1 D (.lst [])))
    (hs : ∀ i ys σ H, i < n → H D = some (.lst ys) → Pv i ys σ H → CompT g tt te D (Pv (i + 1)) (.int (lo + i)) σ H)
    (hd : ∀ ys σ H, H D = some (.lst ys) → Pv n ys σ H → Q (.ref D) H) : CompW (Itr lo n) g tt te σ0 H1 D Q := by
  refine ⟨fun i m σ H => m = n - i ∧ i ≤ n ∧ ∃ ys, H D = some (.lst ys) ∧ Pv i ys σ H, ⟨n, by simp, Nat.zero_le _, [], upd_same, h0⟩, ?_⟩
  rintro i m σ H ⟨rfl, hi, ys, hD, p⟩
  by_cases hlt : i < n
  · refine .inr ⟨hlt, fun σ2 H2 => ∃ zs, H2 D = some (.lst zs) ∧ Pv (i + 1) zs σ2 H2, fun σ' H' p' => ⟨n - (i + 1), by omega, rfl, hlt, p'⟩, fun x H' y => ?_⟩
    obtain ⟨e, y⟩ := y
    subst e y
    exact hs i ys σ _ hlt hD p
  · have e : i = n := by omega
    subst e
    exact .inl ⟨Nat.le_refl _, hd ys σ H hD p⟩
theorem comp_list {K : PySem.W.Frag} {a : Addr} {xs : List V} (Pv : Nat → List V → St → Hp → Prop) (h0 : Pv 0 [] σ0 (upd H1 D (.lst []))) (hl : ∀ i ys σ H, i ≤ xs.length → Pv i ys σ H → SqL K H a xs)
    (hs : ∀ i x ys σ H, xs[i]? = some x → H D = some (.lst ys) → Pv i ys σ H → CompT g tt te D (Pv (i + 1)) x σ H)
    (hd : ∀ ys σ H, H D = some (.lst ys) → Pv xs.length ys σ H → Q (.ref D) H) : CompW (Itl K a) g tt te σ0 H1 D Q := by
  refine ⟨fun i m σ H => m = xs.length - i ∧ i ≤ xs.length ∧ ∃ ys, H D = some (.lst ys) ∧ Pv i ys σ H, ⟨xs.length, by simp, Nat.zero_le _, [], upd_same, h0⟩, ?_⟩
  rintro i m σ H ⟨rfl, hi, ys, hD, p⟩
  have q := hl i ys σ H hi p
  by_cases hlt : i < xs.length
  · refine .inr ⟨⟨xs, xs[i], q, by simp [hlt]⟩, fun σ2 H2 => ∃ zs, H2 D = some (.lst zs) ∧ Pv (i + 1) zs σ2 H2, fun σ' H' p' => ⟨xs.length - (i + 1), by omega, rfl, hlt, p'⟩, fun x H' y => ?_⟩
    obtain ⟨e, y⟩ := y
    subst e
    exact hs i x ys σ _ (y xs q) hD p
  · have e : i = xs.length := by omega
    subst e
    exact .inl ⟨⟨xs, q, Nat.le_refl _⟩, hd ys σ H hD p⟩
end

section
variable {X : Cx}
end
end L2

set_option Elab.async false
set_option linter.all false
set_option maxRecDepth 100000
set_option maxHeartbeats 4000000
namespace L2
open PySem PySem.Spec PyProof.Rows
theorem Same.upd {H : Hp} {p : Addr} {o : HO} (h : H p = none) : Same H (upd H p o) := fun b u e => by rw [upd_ne (ne_of_none e h)]; exact e
theorem Same.put {H0 H : Hp} {p : Addr} {o : HO} (s : Same H0 H) (h : H p = none) : Same H0 (L2.upd H p o) := s.trans (Same.upd h)
theorem Same.over {H0 H : Hp} {p : Addr} {o : HO} (s : Same H0 H) (h : H0 p = none) : Same H0 (L2.upd H p o) := fun b u e => by rw [upd_ne (ne_of_none e h)]; exact s b u e
theorem Same.tup {K : PySem.W.Frag} {H H' : Hp} {a : Addr} {xs : List V} (e : Same H H') (h : SqT K H a xs) : SqT K H' a xs := by
  rcases h with (h | ⟨o, h⟩) | h
  · exact .inl (.inl (e _ _ h))
  · exact .inl (.inr ⟨o, e _ _ h⟩)
  · exact .inr h
theorem cscope_fn {sc out : Scope} {qual : Str} {n : Nat} {f : Addr} {cd : Value} (hk : sc.kind = .function) (hc : (sc.names.all fun y => y.2 != .cell) = true)
    (hl : (sc.names.all fun y => y.2 != .local || sc.names.lookup y.1 == some .local) = true) (hf : (sc.names.all fun y => y.2 != .free || out.names.lookup y.1 == some .cell) = true) : CScope sc (envOfC qual out n f cd) where
  kind := hk
  nocell := fun y hy e => by have := List.all_eq_true.mp hc y hy; rw [e] at this; cases this
  loc := fun y hy e => by
    have := List.all_eq_true.mp hl y hy
    rw [e] at this
    simpa using this
  free := fun y hy e => by
    have h := List.all_eq_true.mp hf y hy
    rw [e] at h
    have h : out.names.lookup y.1 = some .cell := by simpa using h
    obtain ⟨c, hc⟩ := cell_has (n := n + 1) h
    show ((cellsFrom (n + 1) out.names []).lookup y.1).isSome = true
    rw [hc]
    rfl
def capSt (k : Nat) (cap : List Nat) (σ : St) : St := List.replicate k none ++ cap.map fun j => (σ[j]?).join
theorem takes_of {X : Cx} {scope : Scope} {N : List Str} {k : Nat} {cap : List Nat} {σ : St} (hl : k + cap.length = N.length)
    (h : ∀ (i j : Nat) (x : Str), cap[i]? = some j → N[k + i]? = some x → X.N[j]? = some x ∧ scope.names.lookup x = some .free ∧ (X.env.kindOf x = some .cell ∨ X.env.kindOf x = some .free)) : Takes X scope N σ (capSt k cap σ) := by
  refine ⟨by unfold capSt; simp [hl], fun i x v hx hv => ?_⟩
  unfold capSt at hv
  by_cases hi : i < k
  · rw [List.getElem?_append_left (by simpa using hi), List.getElem?_replicate, if_pos hi] at hv
    cases hv
  · rw [List.getElem?_append_right (by simpa using hi), List.length_replicate, List.getElem?_map] at hv
    cases hj : cap[i - k]? with
    | none => rw [hj] at hv; cases hv
    | some j =>
      rw [hj] at hv
      have hv : (σ[j]?).join = some v := Option.some.inj hv
      obtain ⟨h1, h2, h3⟩ := h (i - k) j x hj (by rw [show k + (i - k) = i by omega]; exact hx)
      refine ⟨j, h1, ?_, h2, h3⟩
      cases e : σ[j]? with
      | none => rw [e] at hv; cases hv
      | some o => rw [e] at hv; exact congrArg some hv
theorem takes_in {X : Cx} {scope : Scope} {N : List Str} {k : Nat} {cap : List Nat} (hl : k + cap.length = N.length)
    (h : ((cap.zip (N.drop k)).all fun p => X.N[p.1]? == some p.2 && scope.names.lookup p.2 == some .free && (X.env.kindOf p.2 == some .cell || X.env.kindOf p.2 == some .free)) = true) : ∀ σ, σ.length = X.N.length → Takes X scope N σ (capSt k cap σ) := fun σ _ =>
  takes_of hl fun i j x hj hx => by
    have m : (j, x) ∈ cap.zip (N.drop k) := by
      refine List.mem_of_getElem? (i := i) ?_
      rw [List.getElem?_zip_eq_some]
      exact ⟨hj, by rw [List.getElem?_drop]; exact hx⟩
    have := List.all_eq_true.mp h _ m
    simp only [Bool.and_eq_true, Bool.or_eq_true, beq_iff_eq] at this
    exact ⟨this.1.1, this.1.2, this.2⟩
theorem atI_in {α : Type} {xs : List α} {i : Int} (h0 : 0 ≤ i) (h1 : i < xs.length) : ∃ v, atI xs i = some v ∧ v ∈ xs := by
  have hj : i.toNat < xs.length := by omega
  refine ⟨xs[i.toNat], ?_, List.getElem_mem hj⟩
  have := atI_nat (xs := xs) (j := i.toNat) (v := xs[i.toNat]) (by simp [hj])
  rwa [Int.toNat_of_nonneg h0] at this
def constV : Expr → Option V
  | .Constant (.str x) _ _ => some (.str x)
  | .Constant (.int i) _ _ => some (.int i)
  | .Constant (.bool b) _ _ => some (.bl b)
  | .Constant .none _ _ => some .non
  | _ => none
def constsV : List Expr → Option (List V)
  | [] => some []
  | e :: es => match constV e, constsV es with
    | some v, some vs => some (v :: vs)
    | _, _ => none
def tVals (xs : List V) : TA := fun _ H Q => Q xs H
theorem constV_ok {X : Cx} {e : Expr} {v : V} (h : constV e = some v) : PE X e (tC v) ∧ ∀ es, starEach (e :: es) X.env = (false, eval e X.env) :: starEach es X.env := by
  unfold constV at h
  split at h
  · cases h; exact ⟨pe_str, fun _ => rfl⟩
  · cases h; exact ⟨pe_int, fun _ => rfl⟩
  · cases h; exact ⟨pe_bl, fun _ => rfl⟩
  · cases h; exact ⟨pe_non, fun _ => rfl⟩
  · cases h
theorem pa_consts {X : Cx} : ∀ {es : List Expr} {xs : List V}, constsV es = some xs → PA X es (tVals xs)
  | [], xs, h => by
    have h : some [] = some xs := h
    cases h
    exact pa_nil
  | e :: es, xs, h => by
    unfold constsV at h
    split at h
    · rename_i v vs h1 h2
      cases h
      obtain ⟨p, hs⟩ := constV_ok (X := X) h1
      exact pa_cons p (pa_consts h2) (hs es)
    · cases h
structure Callee (P : Program) (w : World) (K : PySem.W.Frag) (mg : Str → Option Value) (base : Heap) (k : Nat) (x : Str) (ps : List Str) (sp : Sp) : Prop where
  ex : ∃ (f : Addr) (fd : FuncData), FnOk P w K mg base CX0 k f fd ps sp ∧ mg x = some (.ref f) ∧ PySem.W.keepIn K (.ref f) = true ∧ Binds K fd ps []
section
variable {X : Cx} {k : Nat} {x : Str} {ps : List Str} {sp : Sp} {p pos : Pos} {e : Expr} {es : List Expr} {t : TA}
theorem pe_fn (C : Callee X.prog X.w X.K X.mg X.base k x ps sp) (hr : Room k X.A) (ha : PA X (e :: es) t) (hg : Gl X x := by rfl) (hdb : (x == ("__debug__" : Str)) = false := by decide)
    (he : starEach (e :: es) X.env = (false, eval e X.env) :: starEach es X.env := by rfl) (hpl : (backTo pos (starEach es X.env)).any (·.1) = false := by rfl) : PE X (.Call (.Name x p) (e :: es) [] pos) (tCall sp [] E0 t) := by
  obtain ⟨f, fd, F, hm, hk, hb⟩ := C.ex
  exact pe_call F hr hg hm hk hb .nil pass0 ha hdb he hpl
end
end L2

set_option Elab.async false
set_option linter.all false
set_option maxRecDepth 100000
set_option maxHeartbeats 4000000
namespace L2
open PySem
theorem callee_of {P : Program} {w : World} {K : PySem.W.Frag} {mg : Str → Option Value} {base : Heap} {k : Nat} {x : Str} {ps : List Str} {sp : Sp} {f : Addr} {fd : FuncData} (F : FnOk P w K mg base CX0 k f fd ps sp) (m : mg x = some (.ref f)) (kp : PySem.W.keepIn K (.ref f) = true) (b : Binds K fd ps []) : Callee P w K mg base k x ps sp := ⟨f, fd, F, m, kp, b⟩
section
variable {P : Program} {w : World} {K : PySem.W.Frag} {mg : Str → Option Value} {base : Heap}
end
end L2

set_option Elab.async false
set_option linter.all false
set_option maxRecDepth 100000
set_option maxHeartbeats 4000000
set_option autoImplicit true
namespace L2
open PySem PySem.Spec PyProof.Rows
structure QE (X : Cx) (e : Expr) (t : TE) : Prop where
  run : PE X e t
structure QT (X : Cx) (e : Expr) (t : TT) : Prop where
  run : PT X e t
structure QW (X : Cx) (e : Expr) (t : TT) : Prop where
  run : PW X e t
structure QA (X : Cx) (es : List Expr) (t : TA) : Prop where
  run : PA X es t
structure QS (X : Cx) (st : Stmt) (t : TS) : Prop where
  run : PS X st t
structure QSs (X : Cx) (sts : List Stmt) (t : TS) : Prop where
  run : PSs X sts t
structure QG (X : Cx) (e : Expr) (g : TG) : Prop where
  run : PG X e g
structure QGs (X : Cx) (es : List Expr) (g : TGs) : Prop where
  run : PGs X es g
structure QI (X : Cx) (tg iter : Expr) (wi : TI) : Prop where
  run : PI X tg iter wi
structure QC (X : Cx) (op : CmpOp) (a b : Expr) (t : TE) : Prop where
  run : PC X op a b t
structure QO (X : Cx) (e : Option Expr) (t : TO) : Prop where
  run : PO X e t
structure QTs (X : Cx) (ifs : List Expr) (t : TT) : Prop where
  run : PTs X ifs t
theorem qe_int {i j pos} : QE X (.Constant (.int i) j pos) (tC (.int i)) := ⟨pe_int⟩
theorem qe_bl {b j pos} : QE X (.Constant (.bool b) j pos) (tC (.bl b)) := ⟨pe_bl⟩
theorem qe_non {j pos} : QE X (.Constant .none j pos) (tC .non) := ⟨pe_non⟩
theorem qe_str {x j pos} : QE X (.Constant (.str x) j pos) (tC (.str x)) := ⟨pe_str⟩
theorem qe_glob {x : Str} {v : V} {u : Value} {pos : Pos} (hg : Gl X x) (hm : X.mg x = some u) (r : RelV v u) (hd : (x == ("__debug__" : Str)) = false := by decide) : QE X (.Name x pos) (tC v) := ⟨pe_glob hg hm r hd⟩
theorem qe_bltn {x : Str} {v : V} {u : Value} {pos : Pos} (hg : Gl X x) (hm : X.mg x = none) (hv : bootBuiltins x = some u) (r : RelV v u) (hn : x ≠ "__name__" := by decide) (hd : (x == ("__debug__" : Str)) = false := by decide) : QE X (.Name x pos) (tC v) := ⟨pe_bltn hg hm hv r hn hd⟩
theorem qe_op {op : Operator} {r : R2} (ho : OpR X (binaryOp op) r) (ha : QE X a ta) (hb : QE X b tb) : QE X (.BinOp a op b pos) (tOp r ta tb) := ⟨pe_op ho ha.run hb.run⟩
theorem qe_un {op : UnaryOp} {r : V → Hp → VK → Prop} (ho : UnR X (unaryOp op) r) (ha : QE X a ta) : QE X (.UnaryOp op a pos) (tUn r ta) := ⟨pe_un ho ha.run⟩
theorem qe_cmpR {op : CmpOp} {r : R2} (ho : OpR X (compareOp op) r) (ha : QE X a ta) (hb : QE X b tb) (hm : behindInMarks op b = false) : QE X (.Compare a [op] [b] pos) (tOp r ta tb) := ⟨pe_cmpR ho ha.run hb.run hm⟩
theorem qt_cmpR {op : CmpOp} {r : R2} (ho : OpR X (compareOp op) r) (ha : QE X a ta) (hb : QE X b tb) (hm : behindInMarks op b = false) : QT X (.Compare a [op] [b] pos) (tTest (tOp r ta tb)) := ⟨pt_cmpR ho ha.run hb.run hm⟩
theorem qe_chain {op op' : CmpOp} {r r' : R2} (ho : OpR X (compareOp op) r) (ho' : OpR X (compareOp op') r') (ha : QE X a ta) (hb : QE X b tb) (hc : QE X c tc) (hm : lastMarks [op, op'] [b, c] = false := by with_unfolding_all rfl) : QE X (.Compare a [op, op'] [b, c] pos) (tChain r r' ta tb tc) := ⟨pe_chain ho ho' ha.run hb.run hc.run hm⟩
theorem qt_val {e : Expr} {t : TE} (h : QE X e t) (he : ∀ whole, isTrue e X.env whole = (do let v ← whole; standAt e.pos; holding [v] (truthy v)) := by intro _; rfl) : QT X e (tB t) := ⟨pt_val h.run he⟩
theorem qw_and1 (ha : QT X a tA) : QW X (.BoolOp .And [a] pos) tA := ⟨pw_and1 ha.run⟩
theorem qw_or1 (ha : QT X a tA) : QW X (.BoolOp .Or [a] pos) tA := ⟨pw_or1 ha.run⟩
theorem qw_and {rest : List Expr} (ha : QT X a tA) (hb : QW X (.BoolOp .And (b :: rest) pos) tB') : QW X (.BoolOp .And (a :: b :: rest) pos) (tAnd tA tB') := ⟨pw_and ha.run hb.run⟩
theorem qw_or {rest : List Expr} (ha : QT X a tA) (hb : QW X (.BoolOp .Or (b :: rest) pos) tB') : QW X (.BoolOp .Or (a :: b :: rest) pos) (tOr tA tB') := ⟨pw_or ha.run hb.run⟩
theorem qt_not (ha : QT X a tA) : QT X (.UnaryOp .Not a pos) (tNot tA) := ⟨pt_not ha.run⟩
theorem qe_one {op} {t : TE} (h : QE X a t) : QE X (.BoolOp op [a] pos) t := ⟨pe_one h.run⟩
theorem qe_and {rest : List Expr} (ha : QE X a ta) (hb : QE X (.BoolOp .And (b :: rest) pos) tb) : QE X (.BoolOp .And (a :: b :: rest) pos) (tAndV ta tb) := ⟨pe_and ha.run hb.run⟩
theorem qe_or {rest : List Expr} (ha : QE X a ta) (hb : QE X (.BoolOp .Or (b :: rest) pos) tb) : QE X (.BoolOp .Or (a :: b :: rest) pos) (tOrV ta tb) := ⟨pe_or ha.run hb.run⟩
theorem qe_not (ha : QE X a ta) : QE X (.UnaryOp .Not a pos) (tNotV ta) := ⟨pe_not ha.run⟩
theorem qss_nil  : QSs X [] tNext := ⟨pss_nil⟩
theorem qss_cons {st : Stmt} {rest : List Stmt} {t u : TS} (h1 : QS X st t) (h2 : QSs X rest u) : QSs X (st :: rest) (tSeq t u) := ⟨pss_cons h1.run h2.run⟩
theorem qss_one {st : Stmt} {t : TS} (h1 : QS X st t) : QSs X [st] t := ⟨pss_one h1.run⟩
theorem qs_expr {e : Expr} {te : TE} (he : QE X e te) (hs : swapsWith e none pos.line X.env = pure false := by rfl) : QS X (.Expr e pos) (tDrop te) := ⟨ps_expr he.run hs⟩
theorem qs_ret {e : Expr} {te : TE} (he : QE X e te) : QS X (.Return (some e) pos) (tRet te) := ⟨ps_ret he.run⟩
theorem qs_if {t u : TS} {c : Expr} {a b : List Stmt} {tc : TT} (hc : QT X c tc) (ha : QSs X a t) (hb : QSs X b u) : QS X (.If c a b pos) (tIfS tc t u) := ⟨ps_if hc.run ha.run hb.run⟩
theorem qgs_nil  : QGs X [] gNil := ⟨pgs_nil⟩
theorem qgs_cons {e : Expr} {es : List Expr} {t : TG} {u : TGs} (h1 : QG X e t) (h2 : QGs X es u) (hs : (assignEach (e :: es) X.env).map (·.2) = assign e X.env :: (assignEach es X.env).map (·.2) := by rfl) : QGs X (e :: es) (gCons t u) := ⟨pgs_cons h1.run h2.run hs⟩
theorem qg_name {i : Nat} {x : Str} (hN : X.N.Nodup) (hi : X.N[i]? = some x) (hx : Loc X.env.scope x) (hf : X.fn x = true ∨ X.env.scope.names.lookup x = some .local := by first | exact .inl rfl | exact .inr rfl | assumption) : QG X (.Name x pos) (gName i) := ⟨pg_name hN hi hx hf⟩
theorem qg_tup {es : List Expr} {k : Nat} {t : TGs} {n : Nat} (hc : X.calm = true) (h : QGs X es t) (hn : (assignEach es X.env).length = n := by rfl) (hst : (assignEach es X.env).findIdx? (·.1) = none := by rfl) : QG X (.Tuple es k pos) (gTup X.K n t) := ⟨pg_tup hc h.run hn hst⟩
theorem qg_sub {o i : Expr} {to ti : TE} {t : TSet} (ho : QE X o to) (hi : QE X i ti) (hs : PSet X t) (ha : ∀ v, assign (.Subscript o i pos) X.env v = (do
      let ov ← holding [v] (eval o X.env)
      let iv ← holding [v, ov] (eval i X.env)
      standAt pos
      holding [v, ov, iv] (setItem ov iv v)
      release [v, ov, iv] []) := by intro _; rfl) : QG X (.Subscript o i pos) (gSub to ti t) := ⟨pg_sub ho.run hi.run hs ha⟩
theorem qs_asg {tg e : Expr} {te : TE} {g : TG} (he : QE X e te) (hg : QG X tg g) (hs : swapsWithSole [tg] e pos.line X.env = pure false := by rfl) (hw : swappedStores [tg] e X.env = pure none := by rfl) (h1 : (assignEach [tg] X.env).map (·.2) = [assign tg X.env] := by rfl) : QS X (.Assign [tg] e pos) (tAsg te g) := ⟨ps_asg he.run hg.run hs hw h1⟩
theorem qs_set {i : Nat} {x : Str} {e : Expr} {te : TE} {pos' : Pos} (hN : X.N.Nodup) (hi : X.N[i]? = some x) (hx : Loc X.env.scope x) (he : QE X e te) (hs : swapsWith e (some (.Name x pos')) pos.line X.env = pure false := by rfl) (hf : X.fn x = true ∨ X.env.scope.names.lookup x = some .local := by first | exact .inl rfl | exact .inr rfl | assumption) : QS X (.Assign [.Name x pos'] e pos) (tAsg te (gName i)) := ⟨ps_set hN hi hx he.run hs hf⟩
theorem qs_while {c : Expr} {body : List Stmt} {tc : TT} {tb : TS} (hp : PassesOwn (model X.prog X.w) X.A X.env X.xe) (hc : QT X c tc) (hb : QSs X body tb) : QS X (.While c body [] pos) (tWhile tc tb) := ⟨ps_while hp hc.run hb.run⟩
theorem qi_range1 {a : Expr} {ta : TA} {p pos : Pos} (hg : Gl X "range") (hm : X.mg "range" = none) (ha : QA X [a] ta) (hs : starEach [a] X.env = [(false, eval a X.env)] := by rfl) : QI X tg (.Call (.Name "range" p) [a] [] pos) (iRng1 ta) := ⟨pi_range1 hg hm ha.run hs⟩
theorem qs_for {iter : Expr} {body : List Stmt} {wi : TI} {g : TG} {tb : TS} {pos : Pos} (hp : PassesOwn (model X.prog X.w) X.A X.env X.xe) (hc : X.calm = true) (hi : QI X tg iter wi) (hg : QG X tg g) (hb : QSs X body tb) (hs : ∀ x, foldedSetIterable iter X.env x = pure x := by intro _; rfl) : QS X (.For tg iter body [] pos) (tFor wi g tb) := ⟨ps_for hp hc hi.run hg.run hb.run hs⟩
theorem qa_nil  : QA X [] tNil := ⟨pa_nil⟩
theorem qa_cons (ha : QE X e te) (hr : QA X es t) (hs : starEach (e :: es) X.env = (false, eval e X.env) :: starEach es X.env := by rfl) : QA X (e :: es) (tCons te t) := ⟨pa_cons ha.run hr.run hs⟩
theorem qe_tup {x1} (h : QA X es t) : QE X (.Tuple es x1 pos) (tTup t) := ⟨pe_tup h.run⟩
theorem qe_lst (h : QA X es t) : QE X (.List es pos) (tLst t) := ⟨pe_lst h.run⟩
theorem qe_fn (C : Callee X.prog X.w X.K X.mg X.base k x ps sp) (hr : Room k X.A) (ha : QA X (e :: es) t) (hg : Gl X x := by rfl) (hdb : (x == ("__debug__" : Str)) = false := by decide) (he : starEach (e :: es) X.env = (false, eval e X.env) :: starEach es X.env := by rfl) (hpl : (backTo pos (starEach es X.env)).any (·.1) = false := by rfl) : QE X (.Call (.Name x p) (e :: es) [] pos) (tCall sp [] E0 t) := ⟨pe_fn C hr ha.run hg hdb he hpl⟩
theorem qe_callB {id : String} (hc : CallR X (.builtin id) r) (hg : Gl X x) (hm : X.mg x = none) (hv : bootBuiltins x = some (.builtin id)) (ha : QA X (e :: es) t) (hn : x ≠ "__name__" := by decide) (hdb : (x == ("__debug__" : Str)) = false := by decide) (he : starEach (e :: es) X.env = (false, eval e X.env) :: starEach es X.env := by rfl) (hpl : (backTo pos (starEach es X.env)).any (·.1) = false := by rfl) : QE X (.Call (.Name x p) (e :: es) [] pos) (tCB r t) := ⟨pe_callB hc hg hm hv ha.run hn hdb he hpl⟩
theorem qe_callTy {T : String} (hc : CallR X (.type T) r) (hg : Gl X x) (hm : X.mg x = none) (hv : bootBuiltins x = some (.type T)) (ha : QA X (e :: es) t) (hn : x ≠ "__name__" := by decide) (hdb : (x == ("__debug__" : Str)) = false := by decide) (he : starEach (e :: es) X.env = (false, eval e X.env) :: starEach es X.env := by rfl) (hpl : (backTo pos (starEach es X.env)).any (·.1) = false := by rfl) : QE X (.Call (.Name x p) (e :: es) [] pos) (tCB r t) := ⟨pe_callTy hc hg hm hv ha.run hn hdb he hpl⟩
theorem qo_none  : QO X none tNoPart := ⟨po_none⟩
theorem qo_some (h : QE X e te) : QO X (some e) (tPart te) := ⟨po_some h.run⟩
theorem qe_slice {lo hi : Option Expr} {r : V → Option Int → Option Int → Hp → VK → Prop} (hr : SlR X r) (he : QE X e te) (hl : QO X lo tl) (hu : QO X hi th) : QE X (.Subscript e (.Slice lo hi none p2) pos) (tSl r te tl th) := ⟨pe_slice hr he.run hl.run hu.run⟩
theorem qe_ix {r : R2} (hr : IxR X r) (ha : QE X a ta) (hb : QE X b tb) (hs : PlainIx b) : QE X (.Subscript a b pos) (tOp r ta tb) := ⟨pe_ix hr ha.run hb.run hs⟩
theorem qe_bm {T id : String} (pa : PlainAttrs T) (slot : Slot T name id) (hty : typeOf (.builtin id) = pure (.type "method_descriptor")) (hm : MtR X id r) (ho : QE X o to) (ha : QA X (e :: es) t) (hbase : attributeBase o name X.env (eval o X.env) = eval o X.env := by rfl) (hfew : ((backTo cpos (starEach (e :: es) X.env)).all (fun x => !x.1) && (backToKw cpos (keywordEach [] X.env)).all (fun x => x.1.isSome)
      && decide ((e :: es).length + ([] : List Keyword).length + (if ([] : List Keyword).isEmpty then 0 else 1) < 30)) = true := by rfl) (hline : (apos.endLine == cpos.line) = true := by rfl) (hs : starEach (e :: es) X.env = (false, eval e X.env) :: starEach es X.env := by rfl) (hplain : (backTo cpos (starEach es X.env)).any (·.1) = false := by rfl) : QE X (.Call (.Attribute o name apos) (e :: es) [] cpos) (tBM X.K T r to t) := ⟨pe_bm pa slot hty hm ho.run ha.run hbase hfew hline hs hplain⟩
theorem qe_bm0 {T id : String} (pa : PlainAttrs T) (slot : Slot T name id) (hty : typeOf (.builtin id) = pure (.type "method_descriptor")) (hm : MtR X id r) (ho : QE X o to) (hbase : attributeBase o name X.env (eval o X.env) = eval o X.env := by rfl) (hline : (apos.endLine == cpos.line) = true := by rfl) : QE X (.Call (.Attribute o name apos) [] [] cpos) (tBM0 X.K T r to) := ⟨pe_bm0 pa slot hty hm ho.run hbase hline⟩
theorem qe_comp (hc : X.calm = true) (S : CScope scope X.env) (hi : QI X target iter wi) (T : ∀ σ, σ.length = X.N.length → Takes X scope N σ (σ0 σ)) (hg : ∀ C s H fp, QG (cmpCx X scope C N s H fp) target g) (ht : ∀ C s H fp, QTs (cmpCx X scope C N s H fp) ifs tt) (he : ∀ C s H fp, QE (cmpCx X scope C N s H fp) elt te) (hs : ∀ x, foldedSetIterable iter X.env x = pure x := by intro _; rfl) : QE X (.ListComp elt [⟨target, iter, ifs, 0⟩] scope pos) (tComp wi σ0 g tt te) := ⟨pe_comp hc S hi.run T (fun C s H fp => (hg C s H fp).run) (fun C s H fp => (ht C s H fp).run) (fun C s H fp => (he C s H fp).run) hs⟩
theorem qs_setC {i : Nat} {y : Str} {py spos : Pos} (hc : X.calm = true) (S : CScope scope X.env) (hi : QI X target iter wi) (T : ∀ σ, σ.length = X.N.length → Takes X scope N σ (σ0 σ)) (hg : ∀ C s H fp, QG (cmpCx X scope C N s H fp) target g) (ht : ∀ C s H fp, QTs (cmpCx X scope C N s H fp) ifs tt) (he : ∀ C s H fp, QE (cmpCx X scope C N s H fp) elt te) (hN : X.N.Nodup) (hy : X.N[i]? = some y) (hx : Loc X.env.scope y) (hsw : swapsWith (.ListComp elt [⟨target, iter, ifs, 0⟩] scope pos) (some (.Name y py)) spos.line X.env = pure true := by rfl) (hf : X.fn y = true ∨ X.env.scope.names.lookup y = some .local := by first | exact .inl rfl | exact .inr rfl | assumption) (hs : ∀ x, foldedSetIterable iter X.env x = pure x := by intro _; rfl) : QS X (.Assign [.Name y py] (.ListComp elt [⟨target, iter, ifs, 0⟩] scope pos) spos) (tAsg (tComp wi σ0 g tt te) (gName i)) := ⟨ps_setC hc S hi.run T (fun C s H fp => (hg C s H fp).run) (fun C s H fp => (ht C s H fp).run) (fun C s H fp => (he C s H fp).run) hN hy hx hsw hf hs⟩
theorem qts_nil {X : Cx} : QTs X [] tYes := ⟨pts_nil⟩
end L2

set_option Elab.async false
set_option linter.all false
set_option maxRecDepth 100000
set_option maxHeartbeats 4000000
namespace L2
open PySem PySem.Spec PyProof.Rows
theorem qa_consts {X : Cx} {es : List Expr} {xs : List V} (h : constsV es = some xs) : QA X es (tVals xs) := ⟨pa_consts h⟩
theorem qv {X : Cx} (i : Nat) {x : Str} {pos : Pos} (hN : X.N[i]? = some x := by rfl) (hv : Vis X.env.scope x := by first | exact Or.inl rfl | exact Or.inr (Or.inl rfl) | exact Or.inr (Or.inr rfl)) (hd : (x == ("__debug__" : Str)) = false := by decide)
    (hcd : (x == ("__classdict__" : Str)) = false := by decide) : QE X (.Name x pos) (tVar i) := ⟨pe_var hN hv hd hcd⟩
theorem QW.qt {X : Cx} {e : Expr} {t : TT} (h : QW X e t) : QT X e t := ⟨h.run.pt⟩
section
variable {P : Program} {w : World} {K : PySem.W.Frag} {mg : Str → Option Value} {base : Heap}
theorem Fun.okq {x qual : Str} {st : Stmt} {f : Addr} {fd : FuncData} {N ps : List Str} {k : Nat} {sp : Sp} (F : Fun K x qual st f fd) (S : FnScope N ps (defScope st)) (len : ∀ vs H Q E, sp vs H Q E → vs.length = ps.length)
    (hbody : ∀ (cdv : Value) (A : Around) (outer : List Env) (s : Shared) (H : Hp) (vs : List V) (Q : VK) (E : XK), Room k (A.deeper (envOfC qual (defScope st) s.heap.objs.size f cdv)) → sp vs H Q E →
      ∃ t, QSs (cxOf CX0 P w K mg base N qual (defScope st) f cdv A outer s H E).nox (defBody st) t ∧ t { nx := fun _ H' => Q .non H', rt := Q } (start N vs) H) : FnOk P w K mg base CX0 (k + 1) f fd ps sp :=
  F.ok S len fun cdv A outer s H vs Q E hr h => by
    obtain ⟨t, q, r⟩ := hbody cdv A outer s H vs Q E hr h
    exact ⟨t, q.run, r⟩
end
end L2

set_option Elab.async false
set_option linter.all false
set_option maxRecDepth 100000
set_option maxHeartbeats 4000000
namespace L2
open PySem PySem.Spec PyProof.Rows
section
variable {X : Cx}
def rAddS : R2 := fun x y H Q => ∃ i j, x = .str i ∧ y = .str j ∧ i.length + j.length ≤ sizeLine ∧ Q (.str (i ++ j)) H
def rCatA (K : PySem.W.Frag) : R2 := fun x y H Q => ∃ a b xs ys, x = .ref a ∧ y = .ref b ∧ SqT K H a xs ∧ SqT K H b ys ∧ xs.length + ys.length ≤ sizeLine ∧
  ∀ r H', Same H H' → SqT K H' r (xs ++ ys) → Q (.ref r) H'
theorem op_catA : OpR X (binaryOp .Add) (rCatA X.K) := by
  intro pins s σ H x y v u Q I rx ry h
  obtain ⟨a, b, xs, ys, rfl, rfl, ha, hb, hz, q⟩ := h
  by_cases hx : xs = []
  · subst hx
    cases rx
    cases ry
    obtain ⟨its, r1, p1, _⟩ := I.tuple ha
    obtain ⟨its2, r2, p2, _⟩ := I.tuple hb
    cases r1
    obtain ⟨⟨cls, dd, data, sl⟩, ho, hc, n, hd⟩ := id p1
    obtain ⟨⟨cls2, dd2, data2, sl2⟩, ho2, hc2, n2, hd2⟩ := id p2
    simp only at hc hd hc2 hd2
    subst hc hd hc2 hd2
    exact concat_meets ⟨_, ho, rfl⟩ ⟨_, ho2, rfl⟩ noFill_tuple_add seq_tuple_add PySem.F.slot_tuple_add PySem.F.entry_tuple_add (PySem.F.args_tuple_add_2 _ _)
      (tuple_addW0 a b _ _ n n2 dd dd2 sl sl2 (by simp)) ⟨ho, ho2, ⟨.ref b, H, I, rfl, q b H (Same.refl H) hb⟩⟩
  · refine op_catT pins s σ H _ _ v u Q I rx ry ⟨a, b, xs, ys, rfl, rfl, ha, hb, hx, hz, fun e => ?_, fun _ p hp => q p _ (fun c o e => by rw [upd_ne (ne_of_none e hp)]; exact e) (.inl (.inl upd_same))⟩
    subst e
    exact q a H (Same.refl H) (by rw [List.append_nil]; exact ha)
def rAddA (K : PySem.W.Frag) : R2 := fun x y H Q => rI0 (fun i j => .int (i + j)) x y H Q ∨ rAddS x y H Q ∨ rCat x y H Q ∨ rCatA K x y H Q
theorem op_addA : OpR X (binaryOp .Add) (rAddA X.K) := op_add.or (op_add_str.or (op_cat.or op_catA))
theorem s_add_int {K : PySem.W.Frag} {i j : Int} {H : Hp} {Q : VK} (h : Q (.int (i + j)) H) : rAddA K (.int i) (.int j) H Q := .inl ⟨i, j, rfl, rfl, h⟩
theorem s_add_str {K : PySem.W.Frag} {i j : Str} {H : Hp} {Q : VK} (hl : i.length + j.length ≤ sizeLine) (h : Q (.str (i ++ j)) H) : rAddA K (.str i) (.str j) H Q := .inr (.inl ⟨i, j, rfl, rfl, hl, h⟩)
theorem s_add_lst {K : PySem.W.Frag} {a b : Addr} {xs ys : List V} {H : Hp} {Q : VK} (ha : H a = some (.lst xs)) (hb : H b = some (.lst ys)) (hz : xs.length + ys.length ≤ sizeLine) (h : ∀ p, H p = none → Q (.ref p) (upd H p (.lst (xs ++ ys)))) : rAddA K (.ref a) (.ref b) H Q := .inr (.inr (.inl ⟨a, b, xs, ys, rfl, rfl, ha, hb, hz, h⟩))
theorem s_add_tup {K : PySem.W.Frag} {a b : Addr} {xs ys : List V} {H : Hp} {Q : VK} (ha : SqT K H a xs) (hb : SqT K H b ys) (hz : xs.length + ys.length ≤ sizeLine) (h : ∀ r H', Same H H' → SqT K H' r (xs ++ ys) → Q (.ref r) H') : rAddA K (.ref a) (.ref b) H Q := .inr (.inr (.inr ⟨a, b, xs, ys, rfl, rfl, ha, hb, hz, h⟩))
def rMulA : R2 := fun x y H Q => rI CMul (fun i j => .int (i * j)) x y H Q ∨ rRep x y H Q
theorem op_mulA : OpR X (binaryOp .Mult) rMulA := op_mul.or op_rep
theorem s_mul_l {i j : Int} {H : Hp} {Q : VK} (h1 : -(2 ^ 64) < i) (h2 : i < 2 ^ 64) (h : Q (.int (i * j)) H) : rMulA (.int i) (.int j) H Q := .inl ⟨i, j, rfl, rfl, .inl ⟨h1, h2⟩, h⟩
theorem s_mul_r {i j : Int} {H : Hp} {Q : VK} (h1 : -(2 ^ 64) < j) (h2 : j < 2 ^ 64) (h : Q (.int (i * j)) H) : rMulA (.int i) (.int j) H Q := .inl ⟨i, j, rfl, rfl, .inr ⟨h1, h2⟩, h⟩
theorem s_rI {C : Int → Int → Prop} {g : Int → Int → V} {i j : Int} {H : Hp} {Q : VK} (hc : C i j) (h : Q (g i j) H) : rI C g (.int i) (.int j) H Q := ⟨i, j, rfl, rfl, hc, h⟩
theorem s_rI0 {g : Int → Int → V} {i j : Int} {H : Hp} {Q : VK} (h : Q (g i j) H) : rI0 g (.int i) (.int j) H Q := ⟨i, j, rfl, rfl, h⟩
theorem s_rU {g : Int → V} {i : Int} {H : Hp} {Q : VK} (h : Q (g i) H) : rU g (.int i) H Q := ⟨i, rfl, h⟩
def rLtA : R2 := fun x y H Q => rI0 (fun i j => .bl (decide (i < j))) x y H Q ∨ ∃ i j, x = .str i ∧ y = .str j ∧ Q (.bl (decide (i.cps.toList < j.cps.toList))) H
theorem op_ltA : OpR X (compareOp .Lt) rLtA := op_lt.or op_lt_str
def rLeA : R2 := fun x y H Q => rI0 (fun i j => .bl (decide (i ≤ j))) x y H Q ∨ ∃ i j, x = .str i ∧ y = .str j ∧ Q (.bl (!(decide (j.cps.toList < i.cps.toList)))) H
theorem op_leA : OpR X (compareOp .LtE) rLeA := op_le.or op_le_str
theorem s_lt {i j : Int} {H : Hp} {Q : VK} (h : Q (.bl (decide (i < j))) H) : rLtA (.int i) (.int j) H Q := .inl ⟨i, j, rfl, rfl, h⟩
theorem s_le {i j : Int} {H : Hp} {Q : VK} (h : Q (.bl (decide (i ≤ j))) H) : rLeA (.int i) (.int j) H Q := .inl ⟨i, j, rfl, rfl, h⟩
def rInS (neg : Bool) : R2 := fun x y H Q => ∃ (c : Nat) (j : Str), x = .str ⟨#[c]⟩ ∧ y = .str j ∧ Q (.bl (if neg then !decide (c ∈ j.cps.toList) else decide (c ∈ j.cps.toList))) H
theorem op_inS : OpR X (compareOp .In) (rInS false) := op_in_sign
def rInA (K : PySem.W.Frag) (neg : Bool) : R2 := fun x y H Q => rIn K neg x y H Q ∨ rInS neg x y H Q
theorem op_inA : OpR X (compareOp .In) (rInA X.K false) := op_in_seq.or op_inS
theorem s_in_seq {K : PySem.W.Frag} {neg : Bool} {x : V} {p : Addr} {xs : List V} {H : Hp} {Q : VK} (hq : SqL K H p xs ∨ SqT K H p xs) (hx : flatV x = true) (hxs : xs.all flatV = true) (h : Q (.bl (if neg then !inV x xs else inV x xs)) H) : rInA K neg x (.ref p) H Q := .inl ⟨p, xs, rfl, hq, hx, hxs, h⟩
def rSlA (K : PySem.W.Frag) : V → Option Int → Option Int → Hp → VK → Prop := fun x lo hi H Q => rSlL K x lo hi H Q ∨ rSlS x lo hi H Q ∨ rSlT K x lo hi H Q
theorem sl_any : SlR X (rSlA X.K) := sl_list.or (sl_str.or sl_tup)
theorem s_sl_lst {K : PySem.W.Frag} {a : Addr} {xs : List V} {lo hi : Option Int} {H : Hp} {Q : VK} (ha : SqL K H a xs) (h : ∀ p, H p = none → Q (.ref p) (upd H p (.lst (cutV xs lo hi)))) : rSlA K (.ref a) lo hi H Q := .inl ⟨a, xs, rfl, ha, h⟩
theorem s_sl_str {K : PySem.W.Frag} {z : Str} {lo hi : Option Int} {H : Hp} {Q : VK} (hl : z.length ≤ sizeLine) (h : Q (.str (Txt.slice z lo hi)) H) : rSlA K (.str z) lo hi H Q := .inr (.inl ⟨z, rfl, hl, h⟩)
theorem s_ix_lst {K : PySem.W.Frag} {a : Addr} {xs : List V} {i : Int} {v : V} {H : Hp} {Q : VK} (ha : SqL K H a xs) (hv : atI xs i = some v) (h : Q v H) : rIx K (.ref a) (.int i) H Q := .inl ⟨a, xs, i, v, rfl, rfl, ha, hv, h⟩
theorem s_ix_tup {K : PySem.W.Frag} {a : Addr} {xs : List V} {i : Int} {v : V} {H : Hp} {Q : VK} (ha : SqT K H a xs) (hv : atI xs i = some v) (h : Q v H) : rIx K (.ref a) (.int i) H Q := .inr (.inl ⟨a, xs, i, v, rfl, rfl, ha, hv, h⟩)
theorem s_ix_str {K : PySem.W.Frag} {z : Str} {i : Int} {c : Nat} {H : Hp} {Q : VK} (hl : z.length ≤ sizeLine) (hv : atI z.cps.toList i = some c) (h : Q (.str ⟨#[c]⟩) H) : rIx K (.str z) (.int i) H Q := .inr (.inr ⟨z, i, c, rfl, rfl, hl, hv, h⟩)
def rLen (K : PySem.W.Frag) : List V → Hp → VK → Prop := fun xs H Q => ∃ x n, xs = [x] ∧ LenV K x H n ∧ Q (.int n) H
theorem call_lenA : CallR X (.builtin "len") (rLen X.K) := call_len
theorem s_len_lst {K : PySem.W.Frag} {a : Addr} {xs : List V} {H : Hp} {Q : VK} (ha : SqL K H a xs) (h : Q (.int xs.length) H) : rLen K [.ref a] H Q := ⟨_, _, rfl, .inl ⟨xs, ha, rfl⟩, h⟩
theorem s_len_tup {K : PySem.W.Frag} {a : Addr} {xs : List V} {H : Hp} {Q : VK} (ha : SqT K H a xs) (h : Q (.int xs.length) H) : rLen K [.ref a] H Q := ⟨_, _, rfl, .inr ⟨xs, ha, rfl⟩, h⟩
theorem s_len_str {K : PySem.W.Frag} {z : Str} {H : Hp} {Q : VK} (hl : z.length ≤ sizeLine) (h : Q (.int z.length) H) : rLen K [.str z] H Q := ⟨_, _, rfl, ⟨hl, rfl⟩, h⟩
structure Glob (mg : Str → Option Value) (x : Str) (v : V) : Prop where
  ex : ∃ u, mg x = some u ∧ RelV v u
def iAny (K : PySem.W.Frag) (tl : TE) : TI := fun σ H R => tl σ H fun x H1 => (∃ a, x = .ref a ∧ (∃ xs, SqL K H1 a xs) ∧ R (Itl K a) H1) ∨ (∃ a, x = .ref a ∧ (∃ xs, SqT K H1 a xs) ∧ R (Itt K a) H1) ∨ ∃ z, x = .str z ∧ R (Its z) H1
theorem qi_any {tg l : Expr} {tl : TE} (hl : QE X l tl) : QI X tg l (iAny X.K tl) := by
  refine ⟨fun pins s σ H R I h => ?_⟩
  refine thn (hl.run pins s σ H _ I h) fun v s1 ⟨x, H1, I1, r1, q1⟩ => ?_
  have one : ∀ (l : Expr) (t : TE), PE X l t → True := fun _ _ _ => trivial
  rcases q1 with ⟨a, e, ⟨xs, hq⟩, q⟩ | ⟨a, e, ⟨xs, hq⟩, q⟩ | ⟨z, e, q⟩
  · subst e
    cases r1
    obtain ⟨its, rv, p, hz⟩ := I1.list hq
    refine wpAny_pyIter_list p.isList ?_
    refine ⟨s1.heap.objs.size, [s1.heap.objs.size], _, _, H1, rfl, I1.kept (t' := s1.toks) fun b o e => Heap.get?_push_of_some _ e, turn_list a _, ⟨_, Heap.get?_push_size _ rfl, rfl, rfl⟩, fun b hb => ?_, q⟩
    have e : b = s1.heap.objs.size := by simpa using hb
    subst e
    exact I1.fpOk (Nat.le_refl _) (I1.hok.fresh (Nat.le_refl _))
  · subst e
    cases r1
    obtain ⟨its, rv, p, hz⟩ := I1.tuple hq
    refine wpAny_pyIter_tuple (show s1.heap.IsTuple a its.toArray from p) ?_
    refine ⟨s1.heap.objs.size, [s1.heap.objs.size], _, _, H1, rfl, I1.kept (t' := s1.toks) fun b o e => Heap.get?_push_of_some _ e, turn_tuple a _, ⟨_, Heap.get?_push_size _ rfl, rfl, rfl⟩, fun b hb => ?_, q⟩
    have e : b = s1.heap.objs.size := by simpa using hb
    subst e
    exact I1.fpOk (Nat.le_refl _) (I1.hok.fresh (Nat.le_refl _))
  · subst e
    obtain ⟨t, rfl⟩ := r1
    refine wpAny_pyIter_strU ?_
    refine ⟨s1.heap.objs.size, [s1.heap.objs.size], _, _, H1, rfl, I1.kept (t' := s1.toks) fun b o e => Heap.get?_push_of_some _ e, turn_str _ z t, ⟨_, Heap.get?_push_size _ rfl, rfl, rfl⟩, fun b hb => ?_, q⟩
    have e : b = s1.heap.objs.size := by simpa using hb
    subst e
    exact I1.fpOk (Nat.le_refl _) (I1.hok.fresh (Nat.le_refl _))
end
end L2

set_option Elab.async false
set_option linter.all false
set_option maxRecDepth 100000
set_option maxHeartbeats 4000000
namespace L2
open PySem PySem.Spec PyProof.Rows
def Itd (hi : Int) (n : Nat) : It := ⟨fun i _ => i < n, fun i H x H' => H' = H ∧ x = .int (hi - i), fun i _ => n ≤ i⟩
theorem rangeSize_down (a b : Int) : Builtin.Range.rangeSize a b (-1) = if b < a then a - b else 0 := by
  unfold Builtin.Range.rangeSize
  simp only [show ¬ ((-1 : Int) > 0) by decide, if_false, Int.neg_neg, Int.ediv_one]
  split <;> omega
theorem small_down {a b : Int} (ha : -(2 ^ 62) ≤ a) (ha' : a < 2 ^ 62) (hb : -(2 ^ 62) ≤ b) (hb' : b < 2 ^ 62) : Builtin.Range.small a b (-1) = true := by
  unfold Builtin.Range.small
  rw [rangeSize_down]
  simp only [Builtin.Range.rangeFitsLong, Bool.and_eq_true, Bool.or_eq_true, decide_eq_true_eq, beq_iff_eq, show ¬ ((-1 : Int) > 0) by decide, if_false]
  split <;> omega
theorem turn_down {P : Program} {w : World} {K : PySem.W.Frag} {tg : Expr} (it : Addr) (hi : Int) (n : Nat) : Turn P w K tg (Itd hi n) [it] it (fun i h => IsRangeIter h it (hi + (i : Nat) * (-1)) ((n : Int) - (i : Nat)) (-1)) where
  mem := by simp
  obj := fun i h st b hb => by
    have e : b = it := by simpa using hb
    subst e
    exact ⟨_, st, fun v z => by
      have z' : Data.fields _ = Data.cell v := z
      cases z'⟩
  keep := fun i h h' st k => k it (by simp) _ st
  item := by
    intro X hP hw hK hc i pins s σ H E I hf st hg
    subst hP hw hK
    obtain ⟨f0, f1, f2, f3, f4, f5⟩ := hf it (by simp)
    have W := Walks.range (prog := X.prog) (w := X.w) (I.ok.hd hc) it hi (-1) n
    refine W.item i s _ _ hg st fun v h' tk hv st' kk => ?_
    obtain ⟨t, rfl⟩ := hv
    have I1 : Inv X pins σ H { s with heap := h', toks := tk } := I.turned (fun b o hb e => kk b o (by simpa using hb) e) f0 f1 f3 f4 f5
    refine ⟨_, rfl, go_of (s := { s with heap := h', toks := tk }) (n := "range_iterator") st' rfl rfl (by decide) ⟨.int (hi - i), H, I1, ⟨t, ?_⟩, ⟨rfl, rfl⟩, st', fun b hb => (hf b hb).1⟩⟩
    rw [Int.mul_neg_one, Int.sub_eq_add_neg]
  done := by
    intro X hP hw hK hc i pins s σ H E I hf st hg
    subst hP hw hK
    obtain ⟨f0, f1, f2, f3, f4, f5⟩ := hf it (by simp)
    exact wpAny_pyNext_range_end (I.ok.hd hc) st (by have : n ≤ i := hg; omega) fun h' eb => ⟨rfl, I.turned (t' := s.toks) (fun b o hb e => eb b o hb e) f0 f1 f3 f4 f5⟩
  self := fun _ _ _ _ _ st h => wpAny_pyIter_rangeiter st h
section
variable {X : Cx} {tg : Expr}
def iRng3 (ta : TA) : TI := fun σ H R => ta σ H fun vs H1 => ∃ i j : Int, vs = [.int i, .int j, .int (-1)] ∧ (-(2 ^ 62) ≤ i ∧ i < 2 ^ 62 ∧ -(2 ^ 62) ≤ j ∧ j < 2 ^ 62) ∧ R (Itd i (i - j).toNat) H1
theorem qi_range3 {a b c : Expr} {ta : TA} {p pos : Pos} (hg : Gl X "range") (hm : X.mg "range" = none) (ha : QA X [a, b, c] ta) (hs : starEach [a, b, c] X.env = [(false, eval a X.env), (false, eval b X.env), (false, eval c X.env)] := by rfl) (hs2 : starEach [b, c] X.env = [(false, eval b X.env), (false, eval c X.env)] := by rfl) :
    QI X tg (.Call (.Name "range" p) [a, b, c] [] pos) (iRng3 ta) := by
  refine ⟨fun pins s σ H R I h => ?_⟩
  refine Call_ (ld_blt I hg hm boot_range (PyProof.Rows.callWith_type1 (thn (ha.run pos pins s σ H _ I h) fun us s1 ⟨vs, H1, I1, r1, q1⟩ => ?_) (by rw [hs, hs2]) (by rw [hs2]; rfl)))
  obtain ⟨i, j, e, ⟨q1, q2, q3, q4⟩, q⟩ := q1
  subst e
  cases r1 with
  | cons r rr =>
    cases rr with
    | cons r' rr =>
      cases rr with
      | cons r'' rr =>
        cases rr
        obtain ⟨t, rfl⟩ := r
        obtain ⟨t', rfl⟩ := r'
        obtain ⟨t'', rfl⟩ := r''
        refine call_range_3 (by decide) ?_ (.inl (PyProof.noPylong_small (by omega)))
        refine wpAny_pyIter_range (IsRange.new ..) (small_down q1 q2 q3 q4) ?_
        have I2 : Inv X pins σ H1 { s1 with heap := s1.heap.push { cls := .type "range", data := .fields #[.int i t, .int j t', .int (-1) t''] }, toks := s1.toks } := I1.kept fun b o e => Heap.get?_push_of_some _ e
        refine ⟨(s1.heap.push { cls := .type "range", data := .fields #[.int i t, .int j t', .int (-1) t''] }).objs.size, [(s1.heap.push { cls := .type "range", data := .fields #[.int i t, .int j t', .int (-1) t''] }).objs.size], _, _, H1, rfl,
          I2.kept (t' := s1.toks) fun b o e => Heap.get?_push_of_some _ e, turn_down _ i (i - j).toNat, ?_, fun b hb => ?_, q⟩
        · have e1 : i + ((0 : Nat) : Int) * (-1) = i := by simp
          have e2 : (((i - j).toNat : Nat) : Int) - ((0 : Nat) : Int) = Builtin.Range.rangeSize i j (-1) := by rw [rangeSize_down]; split <;> omega
          show IsRangeIter _ _ (i + ((0 : Nat) : Int) * (-1)) ((((i - j).toNat : Nat) : Int) - ((0 : Nat) : Int)) (-1)
          rw [e1, e2]
          exact Heap.get?_push_size _ rfl
        · have e : b = (s1.heap.push { cls := .type "range", data := .fields #[.int i t, .int j t', .int (-1) t''] }).objs.size := by simpa using hb
          subst e
          exact I2.fpOk (Nat.le_refl _) (I2.hok.fresh (Nat.le_refl _))
theorem for_down {hi : Int} {n : Nat} {g : TG} {tb : TS} {D : Ends} {σ : St} {H : Hp} (Pv : Nat → St → Hp → Prop) (h0 : Pv 0 σ H)
    (hs : ∀ i σ H, i < n → Pv i σ H → g (.int (hi - i)) σ H fun σ2 H2 => tb { D with nx := Pv (i + 1), ct := Pv (i + 1), bk := D.nx } σ2 H2) (hd : ∀ σ H, Pv n σ H → D.nx σ H) :
    ∃ W : Nat → Nat → St → Hp → Prop, (∃ m, W 0 m σ H) ∧ ∀ i m σ H, W i m σ H →
      ((Itd hi n).stop i H ∧ D.nx σ H) ∨ ((Itd hi n).go i H ∧ ∃ N : St → Hp → Prop, (∀ σ' H', N σ' H' → ∃ m', m' < m ∧ W (i + 1) m' σ' H') ∧ ∀ x H', (Itd hi n).yld i H x H' → g x σ H' fun σ2 H2 => tb { D with nx := N, ct := N, bk := D.nx } σ2 H2) := by
  refine ⟨fun i m σ H => m = n - i ∧ i ≤ n ∧ Pv i σ H, ⟨n, by simp, Nat.zero_le _, h0⟩, ?_⟩
  rintro i m σ H ⟨rfl, hi', p⟩
  by_cases hlt : i < n
  · refine .inr ⟨hlt, Pv (i + 1), fun σ' H' p' => ⟨n - (i + 1), by omega, rfl, hlt, p'⟩, fun x H' y => ?_⟩
    obtain ⟨e, y⟩ := y
    subst e y
    exact hs i σ _ hlt p
  · have e : i = n := by omega
    subst e
    exact .inl ⟨Nat.le_refl _, hd σ H p⟩
end
def Itv (K : PySem.W.Frag) (a : Addr) (n : Nat) : It :=
  ⟨fun i H => ∃ xs, SqL K H a xs ∧ xs.length = n ∧ i < n, fun i H x H' => H' = H ∧ ∀ xs, SqL K H a xs → xs[n - 1 - i]? = some x, fun i _ => i = n⟩
theorem turn_rev {P : Program} {w : World} {K : PySem.W.Frag} {tg : Expr} (a it : Addr) (n : Nat) : Turn P w K tg (Itv K a n) [it] it (fun i h => i ≤ n ∧ h.IsRevIter it a ((n : Int) - 1 - (i : Int))) where
  mem := by simp
  obj := fun i h st b hb => by
    have e : b = it := by simpa using hb
    subst e
    obtain ⟨o, e, c, d⟩ := st.2
    exact ⟨o, e, fun v z => by rw [d] at z; cases z⟩
  keep := fun i h h' st k => ⟨st.1, st.2.at fun o e => k it (by simp) o e⟩
  item := by
    intro X hP hw hK hc i pins s σ H E I hf st hg
    subst hP hw hK
    obtain ⟨xs, hq, hl, hi⟩ := hg
    obtain ⟨its, rv, p, hz⟩ := I.list hq
    have hx : xs[n - 1 - i]? = some (xs[n - 1 - i]'(by omega)) := List.getElem?_eq_getElem (by omega)
    obtain ⟨u, hu, ru⟩ := rv.get hx
    obtain ⟨f0, f1, f2, f3, f4, f5⟩ := hf it (by simp)
    have e : (n : Int) - 1 - (i : Int) = ((n - 1 - i : Nat) : Int) := by omega
    have hit := st.2
    rw [e] at hit
    refine wpAny_pyNext_rev_item hit p.isList (x := u) (by simpa using hu) fun h' st' sb => ?_
    have I1 : Inv X pins σ H { s with heap := h' } := I.turned (t' := s.toks) (fun b o hb e => (sb.2 b hb).trans e) f0 f1 f3 f4 f5
    have e2 : ((n - 1 - i : Nat) : Int) - 1 = (n : Int) - 1 - ((i + 1 : Nat) : Int) := by omega
    rw [e2] at st'
    obtain ⟨o, eo, c, d⟩ := id st'
    exact ⟨u, rfl, go_of (s := { s with heap := h' }) eo c d (by decide) ⟨_, H, I1, ru, ⟨rfl, fun ys hy => by rw [I.list_inj hy hq]; exact hx⟩, ⟨hi, st'⟩, fun b hb => (hf b hb).1⟩⟩
  done := by
    intro X hP hw hK hc i pins s σ H E I hf st hg
    subst hP hw hK
    have hg : i = n := hg
    subst hg
    obtain ⟨f0, f1, f2, f3, f4, f5⟩ := hf it (by simp)
    have e : (i : Int) - 1 - (i : Int) = -1 := by omega
    have hit := st.2
    rw [e] at hit
    exact wpAny_pyNext_rev_end (I.ok.hd hc) hit fun h' eb => ⟨rfl, I.turned (t' := s.toks) (fun b o hb e => eb b o hb e) f0 f1 f3 f4 f5⟩
  self := fun _ _ _ _ _ st h => wpAny_pyIter_revIter st.2 h
theorem boot_rev : bootBuiltins "reversed" = some (.type "reversed") := by decide +kernel
section
variable {X : Cx} {tg : Expr}
def iRev (K : PySem.W.Frag) (ta : TA) : TI := fun σ H R => ta σ H fun vs H1 => ∃ a xs, vs = [.ref a] ∧ SqL K H1 a xs ∧ R (Itv K a xs.length) H1
theorem qi_rev {a : Expr} {ta : TA} {p pos : Pos} (hg : Gl X "reversed") (hm : X.mg "reversed" = none) (ha : QA X [a] ta) (hs : starEach [a] X.env = [(false, eval a X.env)] := by rfl) : QI X tg (.Call (.Name "reversed" p) [a] [] pos) (iRev X.K ta) := by
  refine ⟨fun pins s σ H R I h => ?_⟩
  refine Call_ (ld_blt I hg hm boot_rev (PyProof.Rows.callWith_type1 (thn (ha.run pos pins s σ H _ I h) fun us s1 ⟨vs, H1, I1, r1, q1⟩ => ?_) hs rfl))
  obtain ⟨l, xs, e, hq, q⟩ := q1
  subst e
  cases r1 with
  | cons r rr =>
    cases rr
    cases r
    obtain ⟨its, rv, pl, hz⟩ := I1.list hq
    refine call_reversed_list pl.isList ?_
    have hl := rv.length
    have st0 : (s1.heap.push (PySem.revObj l (((its.toArray).size : Int) - 1))).IsRevIter s1.heap.objs.size l ((xs.length : Int) - 1 - ((0 : Nat) : Int)) := by
      refine ⟨_, Heap.get?_push_size _ rfl, rfl, ?_⟩
      have e : ((its.toArray).size : Int) - 1 = (xs.length : Int) - 1 - ((0 : Nat) : Int) := by simp [hl]
      rw [← e]
      rfl
    refine wpAny_pyIter_revIter (it := s1.heap.objs.size) (l := l) (i := (xs.length : Int) - 1 - ((0 : Nat) : Int)) st0 ?_
    refine ⟨s1.heap.objs.size, [s1.heap.objs.size], _, _, H1, rfl, I1.kept (t' := s1.toks) fun b o e => Heap.get?_push_of_some _ e, turn_rev l _ xs.length, ⟨Nat.zero_le _, st0⟩, fun b hb => ?_, q⟩
    have e : b = s1.heap.objs.size := by simpa using hb
    subst e
    exact I1.fpOk (Nat.le_refl _) (I1.hok.fresh (Nat.le_refl _))
theorem for_rev {K : PySem.W.Frag} {a : Addr} {xs : List V} {g : TG} {tb : TS} {D : Ends} {σ : St} {H : Hp} (Pv : Nat → St → Hp → Prop) (h0 : Pv 0 σ H) (hl : ∀ i σ H, i ≤ xs.length → Pv i σ H → SqL K H a xs)
    (hs : ∀ i x σ H, i < xs.length → xs[xs.length - 1 - i]? = some x → Pv i σ H → g x σ H fun σ2 H2 => tb { D with nx := Pv (i + 1), ct := Pv (i + 1), bk := D.nx } σ2 H2) (hd : ∀ σ H, Pv xs.length σ H → D.nx σ H) :
    ∃ W : Nat → Nat → St → Hp → Prop, (∃ m, W 0 m σ H) ∧ ∀ i m σ H, W i m σ H →
      ((Itv K a xs.length).stop i H ∧ D.nx σ H) ∨ ((Itv K a xs.length).go i H ∧ ∃ N : St → Hp → Prop, (∀ σ' H', N σ' H' → ∃ m', m' < m ∧ W (i + 1) m' σ' H') ∧ ∀ x H', (Itv K a xs.length).yld i H x H' → g x σ H' fun σ2 H2 => tb { D with nx := N, ct := N, bk := D.nx } σ2 H2) := by
  refine ⟨fun i m σ H => m = xs.length - i ∧ i ≤ xs.length ∧ Pv i σ H, ⟨xs.length, by simp, Nat.zero_le _, h0⟩, ?_⟩
  rintro i m σ H ⟨rfl, hi, p⟩
  have q := hl i σ H hi p
  by_cases hlt : i < xs.length
  · refine .inr ⟨⟨xs, q, rfl, hlt⟩, Pv (i + 1), fun σ' H' p' => ⟨xs.length - (i + 1), by omega, rfl, hlt, p'⟩, fun x H' y => ?_⟩
    obtain ⟨e, y⟩ := y
    subst e
    exact hs i x σ _ hlt (y xs q) p
  · have e : i = xs.length := by omega
    subst e
    exact .inl ⟨rfl, hd σ H p⟩
end
end L2

set_option Elab.async false
set_option linter.all false
set_option maxRecDepth 100000
set_option maxHeartbeats 4000000
namespace L2
open PySem PySem.Spec PyProof.Rows
section
variable {prog : Program} {w : World} {A : Around} {E : Value → Shared → Prop} {s : Shared}
theorem nextOf_tup_item {it t : Addr} {i : Nat} {items : Array Value} {x : Value} {Q : Value → Shared → Prop} (hit : s.heap.IsTupleIter it t i) (ht : s.heap.IsTuple t items) (hx : items[i]? = some x)
    (hQ : ∀ h', h'.IsTupleIter it t (i + 1) → Heap.SameBut it s.heap h' → Q x { s with heap := h' }) : wpAny (model prog w) A (Builtin.SmallTypes.nextOf (.ref it)) Q E s := by
  obtain ⟨o, ho, hc, hd⟩ := id hit
  obtain ⟨ol, hol, _, nl, hdl⟩ := ht
  unfold Builtin.SmallTypes.nextOf
  refine wpAny_bind (wpAny_callSpecial?_slot (name := Str.ofString "__next__") hit.typeIs PySem.F.slot_tuple_iterator_next
    (wpAny_call_entry PySem.F.slot_tuple_iterator_next hit.typeIs PySem.F.entry_tuple_iterator_next ?_ (PySem.F.args_tuple_iterator_next_1 _)))
  show wpAny _ _ (field (.ref it) 0 >>= _) _ _ s
  refine wpAny_bind (wpAny_field ho hd (x := .ref t) rfl ?_)
  show wpAny _ _ (if (Value.ref t == Value.none) = true then _ else _) _ _ s
  rw [if_neg (show ¬ ((Value.ref t == Value.none) = true) from Bool.false_ne_true)]
  show wpAny _ _ (field (.ref it) 1 >>= _) _ _ s
  refine wpAny_bind (wpAny_field ho hd (x := .int i 0) rfl ?_)
  show wpAny _ _ (seqItems? (.ref t) >>= _) _ _ s
  refine wpAny_bind (wpAny_seqItems hol hdl ?_)
  simp only [Int.toNat_natCast, hx]
  refine wpAny_bind (wpAny_setField ho hd (by simp) (wpAny_pure ⟨x, rfl, wpAny_pure (hQ _ ?_ (Heap.SameBut.update ..))⟩))
  exact ⟨_, Heap.get?_update_self _ ho (Obj.isFreed_of_fields (Obj.data_mapFields hd _)), (Obj.cls_mapFields ..).trans hc, by
    rw [Obj.data_mapFields hd]; simp [rawInt]⟩
theorem nextOf_tup_end {it t : Addr} {i : Nat} {items : Array Value} {Q : Value → Shared → Prop} (hh : A.handled = none) (hit : s.heap.IsTupleIter it t i) (ht : s.heap.IsTuple t items) (hx : items[i]? = none)
    (hE : ∀ h' e, Heap.ExtBut it s.heap h' → (∃ o, h'.get? e = some o ∧ o.cls = .type "StopIteration") → E (.ref e) { s with heap := h' }) : wpAny (model prog w) A (Builtin.SmallTypes.nextOf (.ref it)) Q E s := by
  obtain ⟨o, ho, hc, hd⟩ := id hit
  obtain ⟨ol, hol, _, nl, hdl⟩ := ht
  unfold Builtin.SmallTypes.nextOf
  refine wpAny_bind (wpAny_callSpecial?_slot (name := Str.ofString "__next__") hit.typeIs PySem.F.slot_tuple_iterator_next
    (wpAny_call_entry PySem.F.slot_tuple_iterator_next hit.typeIs PySem.F.entry_tuple_iterator_next ?_ (PySem.F.args_tuple_iterator_next_1 _)))
  show wpAny _ _ (field (.ref it) 0 >>= _) _ _ s
  refine wpAny_bind (wpAny_field ho hd (x := .ref t) rfl ?_)
  show wpAny _ _ (if (Value.ref t == Value.none) = true then _ else _) _ _ s
  rw [if_neg (show ¬ ((Value.ref t == Value.none) = true) from Bool.false_ne_true)]
  show wpAny _ _ (field (.ref it) 1 >>= _) _ _ s
  refine wpAny_bind (wpAny_field ho hd (x := .int i 0) rfl ?_)
  show wpAny _ _ (seqItems? (.ref t) >>= _) _ _ s
  refine wpAny_bind (wpAny_seqItems hol hdl ?_)
  simp only [Int.toNat_natCast, hx]
  refine wpAny_bind (wpAny_rule (wpAny_bind (wpAny_setField ho hd (by simp) ?_)))
  show wpAny _ _ (newExc (.type "StopIteration") [] >>= _) _ _ _
  refine wpAny_bind ?_
  simp only [newExc, newTuple]
  refine wpAny_bind (wpAny_newObj_type ?_ (by size_fits))
  refine wpAny_bind (m := firstArgMember _ _) (wpAny_of_eq (a := Value.none) (by first | rfl | (simp only [firstArgMember]; rfl)) ?_)
  refine wpAny_newObj_type ?_ (by size_fits)
  simp only [raiseNew]
  refine wpAny_bind (wpAny_handled ?_)
  first | rw [show A.in1.handled = none from hh] | rw [hh]
  refine wpAny_bind (wpAny_pure (wpAny_throw ?_))
  exact hE _ _ (((Heap.SameBut.update ..).extBut.push _).push _) ⟨_, Heap.get?_push_size _ rfl, rfl⟩
end
theorem draws_tup {prog : Program} {w : World} {A : Around} (hh : A.handled = none) (it l : Addr) (hne : l ≠ it) (items : Array Value) :
    Draws prog w A it [it, l] items.size (fun i v => items[i]? = some v) (fun i h => h.IsTupleIter it l i ∧ h.IsTuple l items) where
  live := fun _ _ st => let ⟨o, ho, _⟩ := st.1; ⟨o, ho⟩
  frame := fun _ _ _ st hk => ⟨st.1.at fun o e => hk it (by simp) o e, let ⟨o, e, r⟩ := st.2; ⟨o, hk l (by simp) o e, r⟩⟩
  item := fun i s Q E hi st hQ => by
    refine nextOf_tup_item st.1 st.2 (x := items[i]) (by simp [hi]) fun h' hit' hs' => ?_
    exact hQ _ h' s.toks (by simp [hi]) ⟨hit', st.2.extBut hs'.extBut hne⟩ hs'
  done := fun s Q E st hE => nextOf_tup_end hh st.1 st.2 (by simp) hE
section
variable {prog : Program} {w : World} {A : Around} {E : Value → Shared → Prop} {s : Shared}
def EnLate (h : Heap) (e it : Addr) (i : Int) : Prop := ∃ (a : Addr) (oa : Obj) (f1 old : Value), h.get? e = some { cls := .type "enumerate", dict := none, data := .fields #[rawInt a, f1, .ref it, rawInt i, .none, old], slots := #[] } ∧ h.get? a = some oa ∧ a ≠ e ∧ a ≠ it
theorem wpAny_loadAlive {a : Addr} {Q : Option Obj → Shared → Prop} (h : Q (s.heap.get? a) s) : wpAny (model prog w) A (loadIfAlive a) Q E s := by
  intro Γ p hΓ
  show Sem.wp _ Γ (.loadIfAlive a .pure) _ _ p s
  rw [Sem.wp_loadIfAlive]
  exact h
end
end L2

set_option Elab.async false
set_option linter.all false
set_option maxRecDepth 100000
set_option maxHeartbeats 4000000
namespace L2
open PySem PySem.Spec PyProof.Rows
section
variable {prog : Program} {w : World} {A : Around} {E : Value → Shared → Prop} {s : Shared}
def EnSt (h : Heap) (e it : Addr) (i : Nat) : Prop := (i = 0 ∧ ∃ old, IsEnum h e it 0 old) ∨ (0 < i ∧ EnLate h e it i)
theorem EnSt.obj {h : Heap} {e it : Addr} {i : Nat} (x : EnSt h e it i) : ∃ vs, h.get? e = some { cls := .type "enumerate", dict := none, data := .fields vs, slots := #[] } := by
  rcases x with ⟨_, old, x⟩ | ⟨_, _, _, _, _, x, _⟩
  · exact ⟨_, x⟩
  · exact ⟨_, x⟩
end
end L2

set_option Elab.async false
set_option linter.all false
set_option maxRecDepth 100000
set_option maxHeartbeats 4000000
namespace L2
open PySem PySem.Spec PyProof.Rows
structure Src (X : Cx) (pins : List (Addr × Obj)) (σ : St) (it : Addr) (T : String) (n : Nat) (H0 : Hp) (J : Nat → List V → Hp → Heap → Prop) : Prop where
  ty : ∀ i ys H h, J i ys H h → ∃ o, h.get? it = some o ∧ o.cls = .type T
  nl : (Value.type T == Value.type "list") = false ∧ (Value.type T == Value.type "tuple") = false
  nolen : typeLookup (.type T) "__len__" = pure none
  nohint : typeLookup (.type T) "__length_hint__" = pure none
  self : ∀ (A : Around) (s : Shared) (ys : List V) (H : Hp) (Q : Value → Shared → Prop) (E : Value → Shared → Prop), J 0 ys H s.heap → Q (.ref it) s → wpAny (model X.prog X.w) A (pyIter (.ref it)) Q E s
  keep : ∀ i ys H h h' S zs zs', H0 S = none → H S = some (.lst zs) → J i ys H h → (∀ b o, b ≠ S → h.get? b = some o → h'.get? b = some o) → (∃ o, h'.get? S = some o) → J i ys (upd H S (.lst zs')) h'
  fresh : ∀ i ys H h, J i ys H h → H it = none
  item : ∀ (A : Around) (i : Nat) (s : Shared) (H : Hp) (ys : List V) (E : Value → Shared → Prop), A.handled = none → i < n → Inv X pins σ H s → J i ys H s.heap →
    wpAny (model X.prog X.w) A (pyNext (.ref it)) (fun r s' => ∃ u x H', r = some u ∧ RelV x u ∧ Inv X pins σ H' s' ∧ J (i + 1) (ys ++ [x]) H' s'.heap ∧ ∀ S zs, H S = some (.lst zs) → H' S = some (.lst zs)) E s
  done : ∀ (A : Around) (s : Shared) (H : Hp) (ys : List V) (E : Value → Shared → Prop), A.handled = none → Inv X pins σ H s → J n ys H s.heap →
    wpAny (model X.prog X.w) A (pyNext (.ref it)) (fun r s' => r = none ∧ Inv X pins σ H s') E s
section
variable {X : Cx} {pins : List (Addr × Obj)} {σ : St} {it : Addr} {T : String} {n : Nat} {H0 : Hp} {J : Nat → List V → Hp → Heap → Prop}
theorem src_loop (C : Src X pins σ it T n H0 J) (hn : n ≤ sizeLine) {A : Around} (hh : A.handled = none) {R : Result → Shared → Prop} (S : Addr) (hS0 : H0 S = none) (res : Value)
    (fin : ∀ s' H' ys', Inv X pins σ H' s' → H' S = some (.lst ys') → ys'.length = n → (∃ h, J n ys' H' h) → R (.ok (.ret res)) s') :
    ∀ (k i : Nat) (s : Shared) (H : Hp) (ys : List V), n - i = k → i ≤ n → Inv X pins σ H s → J i ys H s.heap → H S = some (.lst ys) → ys.length = i →
    codeAny (model X.prog X.w) A (.builtin "list.extend.loop" ⟨[.ref S, .ref it, res], []⟩) R s := by
  intro k
  induction k with
  | zero =>
    intro i s H ys hk hi I j hS hl
    have hin : i = n := by omega
    subst hin
    refine codeAny_builtin PySem.F.entry_extend_loop ?_
    rw [Around.under_plainId PySem.F.plain_extend_loop _]
    show wpAny _ A.in1 (pyNext (.ref it) >>= _) _ _ s
    refine wpAny_bind (thn (C.done A.in1 s H ys _ hh I j) fun r s' ⟨hr, I'⟩ => ?_)
    subst hr
    exact wpAny_pure (fin s' H ys I' hS hl ⟨_, j⟩)
  | succ k ih =>
    intro i s H ys hk hi I j hS hl
    have hlt : i < n := by omega
    refine codeAny_builtin PySem.F.entry_extend_loop ?_
    rw [Around.under_plainId PySem.F.plain_extend_loop _]
    show wpAny _ A.in1 (pyNext (.ref it) >>= _) _ _ s
    refine wpAny_bind (thn (C.item A.in1 i s H ys _ hh hlt I j) fun r s' ⟨u, x, H', hr, rx, I', j', kS⟩ => ?_)
    subst hr
    have hS' := kS S ys hS
    obtain ⟨z, its, m, rv, hl', e⟩ := I'.lstM hS'
    show wpAny _ A.in1 (updateSeq S (·.push u) >>= _) _ _ _
    refine wpAny_bind ?_
    have hu : (its.toArray.push u) = (its ++ [u]).toArray := by simp
    have I2 := I'.lset (f := (·.push u)) (its' := its ++ [u]) (ys := ys ++ [x]) (t' := s'.toks) hS' e hu (rv.append (.cons rx .nil)) (by rw [List.length_append, List.length_singleton]; omega)
    refine wpAny_updateSeq e rfl (wpAny_pure ⟨plainId_quiet PySem.F.plain_extend_loop _, ih (i + 1) _ _ (ys ++ [x]) (by omega) hlt I2 ?_ upd_same (by simp [hl])⟩)
      (by rw [List.size_toArray]; omega) (by show (its.toArray.push u).size ≤ sizeLine + 1; rw [Array.size_push, List.size_toArray]; omega)
    exact C.keep _ _ _ _ _ S ys (ys ++ [x]) hS0 hS' j' (fun b o hb eb => (Heap.get?_update_other _ _ (Ne.symm hb)).trans eb) ⟨_, Heap.get?_update_self _ e rfl⟩
theorem call_list_src {H : Hp} (C : Src X pins σ it T n H J) (hn : n ≤ sizeLine) {A : Around} (hh : A.handled = none) {s : Shared} {Q : VK} {E : Value → Shared → Prop} (I : Inv X pins σ H s) (j : J 0 [] H s.heap)
    (jn : ∀ S, s.heap.objs.size ≤ S → H S = none → ∀ h', (∀ b o, s.heap.get? b = some o → h'.get? b = some o) → J 0 [] (upd H S (.lst [])) h')
    (q : ∀ S H' ys, H S = none → H' S = some (.lst ys) → ys.length = n → (∃ h, J n ys H' h) → Q (.ref S) H') :
    wpAny (model X.prog X.w) A (call (.type "list") [.ref it]) (EP X pins σ Q) E s := by
  have hf : H s.heap.objs.size = none := I.hok.fresh (Nat.le_refl _)
  have hne : s.heap.objs.size ≠ it := by
    obtain ⟨o, e, _⟩ := C.ty _ _ _ _ j
    exact Nat.ne_of_gt (Heap.lt_size e)
  refine callType_codes (Q₁ := fun obj s₁ => obj = .ref s.heap.objs.size ∧ s₁ = { s with heap := s.heap.push { cls := .type "list", data := .seq #[] } }) PySem.F.called_list (PySem.F.typeCall_list_1 _) PySem.F.entry_list_init
    (code_list_new _ ⟨rfl, rfl⟩) fun obj s₁ h₁ => ?_
  obtain ⟨rfl, rfl⟩ := h₁
  have hS : (s.heap.push { cls := .type "list", data := .seq #[] }).get? s.heap.objs.size = some { cls := .type "list", data := .seq #[] } := Heap.get?_push_size _ rfl
  have I1 : Inv X pins σ (upd H s.heap.objs.size (.lst [])) { s with heap := s.heap.push { cls := .type "list", data := .seq ([] : List Value).toArray } } := I.lnew (ys := []) (its := []) (t' := s.toks) .nil (by simp)
  have j1 : J 0 [] (upd H s.heap.objs.size (.lst [])) (s.heap.push { cls := .type "list", data := .seq ([] : List Value).toArray })   := jn _ (Nat.le_refl _) hf _ fun b o e => Heap.get?_push_of_some _ e
  refine ⟨⟨_, hS, rfl⟩, PySem.F.args_list_init_2 _ _, ?_⟩
  generalize hs1 : ({ s with heap := s.heap.push { cls := .type "list", data := .seq ([] : List Value).toArray } } : Shared) = s1 at I1
  have hS1 : s1.heap.get? s.heap.objs.size = some { cls := .type "list", data := .seq ([] : List Value).toArray } := by rw [← hs1]; exact hS
  replace j1 : J 0 [] (upd H s.heap.objs.size (.lst [])) s1.heap := by rw [← hs1]; exact j1
  have hs1' : ({ s with heap := s.heap.push { cls := .type "list", data := .seq #[] } } : Shared) = s1 := hs1
  first | rw [hs1'] | skip
  show wpAny _ A.in1.in1 (do let old ← Builtin.List.listItems (.ref s.heap.objs.size); Builtin.List.listUpdate (.ref s.heap.objs.size) (fun _ => #[]); letGo old.toList.reverse; Builtin.List.listExtendWith (.ref s.heap.objs.size) (.ref it) .none) _ _ s1
  generalize s.heap.objs.size = S at *
  refine wpAny_bind ?_
  unfold Builtin.List.listItems
  refine wpAny_bind (wpAny_seqItems hS1 rfl (wpAny_pure ?_))
  show wpAny _ A.in1.in1 (updateSeq S (fun _ => #[]) >>= fun _ => letGo (#[] : Array Value).toList.reverse >>= fun _ => Builtin.List.listExtendWith (.ref S) (.ref it) .none) _ _ s1
  refine wpAny_bind (wpAny_updateSeq hS1 rfl ?_)
  have I2 := I1.lset (f := fun _ => #[]) (its' := []) (ys := []) (t' := s1.toks) upd_same hS1 rfl .nil (by simp)
  have hS2 := Heap.get?_update_self (Obj.mapSeq (fun _ => (#[] : Array Value))) hS1 rfl
  have j2 := C.keep _ _ _ _ (s1.heap.update S (Obj.mapSeq fun _ => #[])) S [] [] hf upd_same j1 (fun b o hb eb => (Heap.get?_update_other _ _ (Ne.symm hb)).trans eb) ⟨_, hS2⟩
  rw [upd_upd] at I2 j2
  generalize hs2 : ({ s1 with heap := s1.heap.update S (Obj.mapSeq fun _ => #[]), toks := s1.toks } : Shared) = s2 at I2
  replace j2 : J 0 [] (upd H S (.lst [])) s2.heap := by rw [← hs2]; exact j2
  have hs2' : ({ s1 with heap := s1.heap.update S (Obj.mapSeq fun _ => #[]) } : Shared) = s2 := hs2
  first | rw [hs2'] | skip
  refine wpAny_bind (wpAny_letGo ?_)
  obtain ⟨oi, ei, ci⟩ := C.ty _ _ _ _ j2
  have hT : s2.TypeIs (.ref it) T := ⟨oi, ei, ci⟩
  unfold Builtin.List.listExtendWith
  refine wpAny_bind (wpAny_typeOf hT ?_)
  have h1 : Builtin.List.listSameRef (.ref S) (.ref it) = false := by simp [Builtin.List.listSameRef, hne]
  have h2 := C.nl.1
  have h3 := C.nl.2
  simp only [h1, h2, h3, Bool.or_false, Bool.false_eq_true, if_false]
  refine wpAny_bind (C.self _ s2 _ _ _ _ j2 ?_)
  refine wpAny_bind (wpAny_holding ?_)
  unfold Builtin.List.listLengthHint
  refine wpAny_bind (wpAny_specialOf hT C.nolen ?_)
  show wpAny _ A.in1.in1 (specialOf (Value.ref it) (Str.ofString "__length_hint__") >>= _) _ _ _
  refine wpAny_bind (wpAny_specialOf hT C.nohint ?_)
  refine wpAny_pure ?_
  show wpAny _ A.in1.in1 (rule "list.extend.makes-room" >>= fun _ => Builtin.List.listTouch (.ref S) >>= fun _ =>
    again (.builtin "list.extend.loop" ⟨[.ref S, .ref it, .none], []⟩)) _ _ _
  refine wpAny_bind (wpAny_rule ?_)
  refine wpAny_bind ?_
  show wpAny _ A.in1.in1 (updateSeq S (·.push .none) >>= fun _ => updateSeq S (·.pop)) _ _ _
  obtain ⟨_, its2, m2, rv2, _, e2⟩ := I2.lstM upd_same
  cases rv2
  refine wpAny_bind (wpAny_updateSeq e2 rfl ?_)
  have I3 := I2.lset (f := (·.push Value.none)) (its' := [.none]) (ys := [.non]) (t' := s2.toks) upd_same e2 (by simp) (.cons rfl .nil) (by show 1 ≤ sizeLine; decide)
  have hS3 := Heap.get?_update_self (Obj.mapSeq (·.push Value.none)) e2 rfl
  have j3 := C.keep _ _ _ _ (s2.heap.update S (Obj.mapSeq (·.push Value.none))) S [] [.non] hf upd_same j2 (fun b o hb eb => (Heap.get?_update_other _ _ (Ne.symm hb)).trans eb) ⟨_, hS3⟩
  rw [upd_upd] at I3 j3
  generalize hs3 : ({ s2 with heap := s2.heap.update S (Obj.mapSeq (·.push Value.none)), toks := s2.toks } : Shared) = s3 at I3
  replace j3 : J 0 [] (upd H S (.lst [.non])) s3.heap := by rw [← hs3]; exact j3
  have hs3' : ({ s2 with heap := s2.heap.update S (Obj.mapSeq (·.push Value.none)) } : Shared) = s3 := hs3
  first | rw [hs3'] | skip
  obtain ⟨_, its3, m3, rv3, hl3, e3⟩ := I3.lstM upd_same
  have hl3' : its3.length = 1 := hl3.symm
  refine wpAny_updateSeq e3 rfl ?_ (by rw [List.size_toArray, hl3']; decide) (by show its3.toArray.pop.size ≤ sizeLine + 1; rw [Array.size_pop, List.size_toArray, hl3']; decide)
  have I4 := I3.lset (f := (·.pop)) (its' := []) (ys := []) (t' := s3.toks) upd_same e3 (by
    cases its3 with
    | nil => simp at hl3'
    | cons a r => cases r with
      | nil => simp
      | cons b r' => simp at hl3') .nil (by simp)
  have hS4 := Heap.get?_update_self (Obj.mapSeq (·.pop)) e3 rfl
  have j4 := C.keep _ _ _ _ (s3.heap.update S (Obj.mapSeq (·.pop))) S [.non] [] hf upd_same j3 (fun b o hb eb => (Heap.get?_update_other _ _ (Ne.symm hb)).trans eb) ⟨_, hS4⟩
  rw [upd_upd] at I4 j4
  refine wpAny_pure ⟨plainId_quiet PySem.F.plain_extend_loop _, src_loop C hn (A := A.in1) hh S hf .none ?_ n 0 _ _ [] rfl (Nat.zero_le _) I4 j4 upd_same rfl⟩
  intro s' H' ys' I' hS' hl' hj'
  exact ⟨rfl, .ref S, H', I', rfl, q S H' ys' hf hS' hl' hj'⟩
end
end L2

set_option Elab.async false
set_option linter.all false
set_option maxRecDepth 100000
set_option maxHeartbeats 4000000
namespace L2
open PySem PySem.Spec PyProof.Rows
section
variable {X : Cx} {pins : List (Addr × Obj)} {σ : St} {H : Hp} {s : Shared} {h' : Heap}
theorem Inv.turned2 {t' : Nat} {i1 i2 : Addr} (I : Inv X pins σ H s) (k : ∀ b o, b ≠ i1 → b ≠ i2 → s.heap.get? b = some o → h'.get? b = some o) (f1 : FpOk X pins H i1) (f2 : FpOk X pins H i2) : Inv X pins σ H { s with heap := h', toks := t' } := by
  obtain ⟨n1, l1, _, e1, c1, p1⟩ := f1
  obtain ⟨n2, l2, _, e2, c2, p2⟩ := f2
  have nit : ∀ b u, H b = some u → b ≠ i1 ∧ b ≠ i2 := fun b u e => ⟨(fun z => by rw [z, n1] at e; exact nomatch e), (fun z => by rw [z, n2] at e; exact nomatch e)⟩
  refine I.step (g' := s.gens) (d' := s.drawn) (ch := [i1, i2]) (fun b hb => ?_) (fun b o _ _ hc e _ => k b o (fun z => hc (by simp [z])) (fun z => hc (by simp [z])) e) (fun b o _ _ hc e _ => ⟨o.slots, k b o (fun z => hc (by simp [z])) (fun z => hc (by simp [z])) e⟩) (fun _ _ _ _ n => n)
    (fun b o hc e => ⟨o, k b o (fun z => hc (by simp [z])) (fun z => hc (by simp [z])) e⟩) (fun _ _ e => e) (fun _ _ _ e => e) (fun b ps e => ⟨#[], by rw [e]; simp⟩) (fun m hm => ?_) (fun b u e => ?_) I.bare
  · rcases List.mem_cons.mp hb with rfl | hb
    · exact ⟨e1, l1, c1, p1⟩
    · rw [List.mem_singleton.mp hb]
      exact ⟨e2, l2, c2, p2⟩
  · obtain ⟨o, es, ep, ho, r⟩ := hm
    exact ⟨o, es, ep, k _ o (Ne.symm l1) (Ne.symm l2) ho, r⟩
  · refine (I.hok b u e).stay (fun c v hc q => k c v ?_ ?_ q) (fun _ q => q) fun _ _ q => q
    · rcases hc with z | z
      · rw [z]; exact (nit b u e).1
      · exact (nit c _ z).1
    · rcases hc with z | z
      · rw [z]; exact (nit b u e).2
      · exact (nit c _ z).2
end
theorem FpOk.of {X : Cx} {pins : List (Addr × Obj)} {H H' : Hp} {b : Addr} (f : FpOk X pins H b) (h : H' b = none) : FpOk X pins H' b := ⟨h, f.2⟩
theorem SqT.kept {K : PySem.W.Frag} {H : Hp} {S a : Addr} {zs zs' xs : List V} (hS : H S = some (.lst zs)) (h : SqT K H a xs) : SqT K (upd H S (.lst zs')) a xs := by
  rcases h with (h | ⟨o, h⟩) | h
  · exact .inl (.inl (by rw [upd_ne (ne_of h hS (by intro z; cases z))]; exact h))
  · exact .inl (.inr ⟨o, by rw [upd_ne (ne_of h hS (by intro z; cases z))]; exact h⟩)
  · exact .inr h
theorem SqT.same {K : PySem.W.Frag} {H H' : Hp} {a : Addr} {xs : List V} (h : SqT K H a xs) (e : Same H H') : SqT K H' a xs := e.tup h
def Pairs (H : Hp) (xs : List V) (ys : List V) : Prop := ∀ (j : Nat) (y : V), ys[j]? = some y → ∃ (t : Addr) (x : V), y = V.ref t ∧ xs[j]? = some x ∧ H t = some (.tup [.int j, x])
section
variable {X : Cx}
theorem boot_list' : bootBuiltins "list" = some (.type "list") := by decide +kernel
def tListEn (K : PySem.W.Frag) (ta : TA) : TE := fun σ H Q => ta σ H fun vs H1 => ∃ a xs, vs = [.ref a] ∧ SqT K H1 a xs ∧
  ∀ (S : Addr) (ys : List V) (H2 : Hp), H1 S = none → Same H1 H2 → ys.length = xs.length → Pairs H2 xs ys → H2 S = some (.lst ys) → Q (.ref S) H2
end
end L2

set_option Elab.async false
set_option linter.all false
set_option maxRecDepth 100000
set_option maxHeartbeats 4000000
namespace L2
open PySem PySem.Spec PyProof.Rows
def Ite (K : PySem.W.Frag) (a : Addr) (n : Nat) : It :=
  ⟨fun i H => ∃ xs, SqL K H a xs ∧ xs.length = n ∧ i < n, fun i H x H' => ∃ (t : Addr) (y : V), H t = none ∧ (∀ xs, SqL K H a xs → xs[i]? = some y) ∧ x = .ref t ∧ H' = upd H t (.tup [.int i, y]), fun i H => i = n ∧ ∃ xs, SqL K H a xs ∧ xs.length = n⟩
theorem Inv.pair {X : Cx} {pins : List (Addr × Obj)} {σ : St} {H : Hp} {s : Shared} {h' : Heap} {tk : Nat} {i1 i2 T : Addr} {xs : List V} {its : List Value} (I : Inv X pins σ H s) (f1 : FpOk X pins H i1) (f2 : FpOk X pins H i2)
    (kk : ∀ b o, b ≠ i1 → b ≠ i2 → s.heap.get? b = some o → h'.get? b = some o) (hT : s.heap.objs.size ≤ T) (rv : Vals xs its) (hz : xs.length ≤ sizeLine) (ht : h'.IsTuple T its.toArray) : Inv X pins σ (upd H T (.tup xs)) { s with heap := h', toks := tk } := by
  have hf : H T = none := I.hok.fresh hT
  have I1 : Inv X pins σ H { s with heap := h', toks := tk } := I.turned2 kk f1 f2
  have hokN : HOk X.prog X.w (upd H T (.tup xs)) h' := fun b o e => by
    by_cases hb : b = T
    · subst hb
      rw [upd_same] at e
      cases e
      exact ⟨hz, its, rv, ht⟩
    · rw [upd_ne hb] at e
      refine (I1.hok b o e).stay (fun c v _ q => q) (fun c q => ?_) fun c zs q => ?_
      · rw [upd_ne (ne_of_none q hf)]; exact q
      · rw [upd_ne (ne_of_none q hf)]; exact q
  have u : Un (frs X.stack) [i1, i2] H (upd H T (.tup xs)) s.heap h' := {
    keep := fun b o e n _ hx => kk b o (fun z => hx (by simp [z])) (fun z => hx (by simp [z])) e
    slot := fun b o e n _ hx => ⟨o.slots, kk b o (fun z => hx (by simp [z])) (fun z => hx (by simp [z])) e⟩
    free := fun b o e n _ => by rw [upd_ne (Nat.ne_of_lt (Nat.lt_of_lt_of_le (Heap.lt_size e) hT))]; exact n
    there := fun b o e hx => ⟨o, kk b o (fun z => hx (by simp [z])) (fun z => hx (by simp [z])) e⟩
    tups := fun b zs e => by rw [upd_ne (ne_of_none e hf)]; exact e
    frzs := fun b o u e => by rw [upd_ne (ne_of_none e hf)]; exact e
    tbls := fun b ps e => ⟨#[], by rw [upd_ne (ne_of_none e hf), e]; simp⟩ }
  refine I.call (g' := s.gens) (d' := s.drawn) (t' := tk) u hokN I.bare fun b hb => ?_
  rcases List.mem_cons.mp hb with rfl | hb
  · exact ⟨f1.2.2.2.1, f1.2.1, f1.2.2.2.2.1, f1.2.2.2.2.2⟩
  · rw [List.mem_singleton.mp hb]
    exact ⟨f2.2.2.2.1, f2.2.1, f2.2.2.2.2.1, f2.2.2.2.2.2⟩
theorem turn_enum {P : Program} {w : World} {K : PySem.W.Frag} {elts : List Expr} {kt : Nat} {pt : Pos} (a en it : Addr) (n : Nat) (hne : en ≠ it) (hae : a ≠ en) (hai : a ≠ it) : Turn P w K (.Tuple elts kt pt) (Ite K a n) [en, it] en (fun i h => (∃ old, IsEnum h en it i old) ∧ h.IsListIter it a i) where
  mem := by simp
  obj := fun i h st b hb => by
    rcases List.mem_cons.mp hb with rfl | hb
    · obtain ⟨old, e⟩ := st.1
      exact ⟨_, e, fun v z => by
        have z' : Data.fields _ = Data.cell v := z
        cases z'⟩
    · rw [List.mem_singleton.mp hb]
      obtain ⟨o, e, c, d⟩ := st.2
      exact ⟨o, e, fun v z => by rw [d] at z; cases z⟩
  keep := fun i h h' st k => ⟨let ⟨old, e⟩ := st.1; ⟨old, k en (by simp) _ e⟩, st.2.at fun o e => k it (by simp) o e⟩
  item := by
    intro X hP hw hK hc i pins s σ H E I hf st hg
    subst hP hw hK
    obtain ⟨xs, hq, hl, hi⟩ := hg
    obtain ⟨its, rv, p, hz⟩ := I.list hq
    have hlen := rv.length
    have fe := hf en (by simp)
    have fi := hf it (by simp)
    have W := WalksT.enumerateD (prog := X.prog) (w := X.w) (A := X.A) (Draws.list (A := X.A.in1) (I.ok.hd hc) it a hai its.toArray) en hne (by simp [hne, Ne.symm hae]) (by simp)
    refine W.item i s _ _ (by rw [List.size_toArray]; omega) ⟨st.1, st.2, p.isList⟩ fun T vals h1 tk hP hT ht mid k1 => ?_
    obtain ⟨t, x, hx, rfl⟩ := hP
    refine ⟨_, rfl, W.go elts kt pt i T _ _ _ mid fun h2 st2 k2 => ?_⟩
    have hx' : its[i]? = some x := by simpa using hx
    have hxs : i < xs.length := by omega
    obtain ⟨u, hu, ru⟩ := rv.get (List.getElem?_eq_getElem hxs)
    rw [hx'] at hu
    cases hu
    have hTw : T ∉ [en, it] := W.apart i T _ mid
    have ht2 : h2.IsTuple T ([.int i t, x] : List Value).toArray := by
      obtain ⟨o, eo, r⟩ := ht
      exact ⟨o, k2 T o hTw eo, r⟩
    have kk : ∀ b o, b ≠ en → b ≠ it → s.heap.get? b = some o → h2.get? b = some o := fun b o h1 h3 e => k2 b o (by simp [h1, h3]) (k1 b o (by simp [h1, h3]) e)
    have I2 := I.pair (tk := tk) (T := T) (xs := [.int i, xs[i]]) fe fi kk hT (.cons ⟨t, rfl⟩ (.cons ru .nil)) (by show 2 ≤ sizeLine; decide) ht2
    refine ⟨.ref T, _, I2, rfl, ⟨T, xs[i], I.hok.fresh hT, fun ys hy => by rw [I.list_inj hy hq]; exact List.getElem?_eq_getElem hxs, rfl, rfl⟩, ⟨st2.1, st2.2.1⟩, fun b hb => ?_⟩
    have hb' : b ≠ T := fun z => hTw (z ▸ hb)
    rw [upd_ne hb']
    exact (hf b hb).1
  done := by
    intro X hP hw hK hc i pins s σ H E I hf st hg
    subst hP hw hK
    obtain ⟨rfl, xs, hq, hl⟩ := hg
    obtain ⟨its, rv, p, hz⟩ := I.list hq
    have hlen := rv.length
    have fe := hf en (by simp)
    have fi := hf it (by simp)
    have W := WalksT.enumerateD (prog := X.prog) (w := X.w) (A := X.A) (Draws.list (A := X.A.in1) (I.ok.hd hc) it a hai its.toArray) en hne (by simp [hne, Ne.symm hae]) (by simp)
    have e : i = its.toArray.size := by rw [List.size_toArray]; omega
    rw [e] at st
    exact W.done s _ _ ⟨st.1, st.2, p.isList⟩ fun h' tk kk => ⟨rfl, I.turned2 (fun b o h1 h2 e => kk b o (by simp [h1, h2]) e) fe fi⟩
  self := fun A i s Q E st h => by
    obtain ⟨old, e⟩ := st.1
    exact wpAny_pyIter_enum e h
section
variable {X : Cx}
def iEnum (K : PySem.W.Frag) (ta : TA) : TI := fun σ H R => ta σ H fun vs H1 => ∃ a xs, vs = [.ref a] ∧ SqL K H1 a xs ∧ R (Ite K a xs.length) H1
theorem qi_enum {elts : List Expr} {kt : Nat} {pt : Pos} {e : Expr} {ta : TA} {p pos : Pos} (hg : Gl X "enumerate") (hm : X.mg "enumerate" = none) (ha : QA X [e] ta) (hs : starEach [e] X.env = [(false, eval e X.env)] := by rfl) : QI X (.Tuple elts kt pt) (.Call (.Name "enumerate" p) [e] [] pos) (iEnum X.K ta) := by
  refine ⟨fun pins s σ H R I h => ?_⟩
  refine Call_ (ld_blt I hg hm PyProof.Rows.boot_enumerate (PyProof.Rows.callWith_type1 (thn (ha.run pos pins s σ H _ I h) fun us s1 ⟨vs, H1, I1, r1, q1⟩ => ?_) hs rfl))
  obtain ⟨l, xs, e1, hq, q⟩ := q1
  subst e1
  cases r1 with
  | cons r rr =>
    cases rr
    cases r
    obtain ⟨its, rv, pl, hz⟩ := I1.list hq
    have hlt : l < s1.heap.objs.size := by obtain ⟨o, e, _⟩ := pl.isList; exact Heap.lt_size e
    refine call_enumerate_list pl.isList fun h' hen hit hsz hk => ?_
    refine wpAny_pyIter_enum hen ?_
    have fe := I1.fpOk (b := s1.heap.objs.size + 1) (Nat.le_succ _) (I1.hok.fresh (Nat.le_succ _))
    have fi := I1.fpOk (b := s1.heap.objs.size) (Nat.le_refl _) (I1.hok.fresh (Nat.le_refl _))
    refine ⟨s1.heap.objs.size + 1, [s1.heap.objs.size + 1, s1.heap.objs.size], _, _, H1, rfl, I1.kept (t' := s1.toks) hk, turn_enum l _ _ xs.length (Nat.succ_ne_self _) (Nat.ne_of_lt (Nat.lt_succ_of_lt hlt)) (Nat.ne_of_lt hlt), ⟨⟨_, hen⟩, hit⟩, fun b hb => ?_, q⟩
    rcases List.mem_cons.mp hb with rfl | hb
    · exact fe
    · rw [List.mem_singleton.mp hb]
      exact fi
theorem for_enum {K : PySem.W.Frag} {a : Addr} {xs : List V} {g : TG} {tb : TS} {D : Ends} {σ : St} {H : Hp} (Pv : Nat → St → Hp → Prop) (h0 : Pv 0 σ H) (hl : ∀ i σ H, i ≤ xs.length → Pv i σ H → SqL K H a xs)
    (hs : ∀ i x t σ H, xs[i]? = some x → H t = none → Pv i σ H → g (.ref t) σ (upd H t (.tup [.int i, x])) fun σ2 H2 => tb { D with nx := Pv (i + 1), ct := Pv (i + 1), bk := D.nx } σ2 H2) (hd : ∀ σ H, Pv xs.length σ H → D.nx σ H) :
    ∃ W : Nat → Nat → St → Hp → Prop, (∃ m, W 0 m σ H) ∧ ∀ i m σ H, W i m σ H →
      ((Ite K a xs.length).stop i H ∧ D.nx σ H) ∨ ((Ite K a xs.length).go i H ∧ ∃ N : St → Hp → Prop, (∀ σ' H', N σ' H' → ∃ m', m' < m ∧ W (i + 1) m' σ' H') ∧ ∀ x H', (Ite K a xs.length).yld i H x H' → g x σ H' fun σ2 H2 => tb { D with nx := N, ct := N, bk := D.nx } σ2 H2) := by
  refine ⟨fun i m σ H => m = xs.length - i ∧ i ≤ xs.length ∧ Pv i σ H, ⟨xs.length, by simp, Nat.zero_le _, h0⟩, ?_⟩
  rintro i m σ H ⟨rfl, hi, p⟩
  have q := hl i σ H hi p
  by_cases hlt : i < xs.length
  · refine .inr ⟨⟨xs, q, rfl, hlt⟩, Pv (i + 1), fun σ' H' p' => ⟨xs.length - (i + 1), by omega, rfl, hlt, p'⟩, fun x H' y => ?_⟩
    obtain ⟨t, y, ht, hy, rfl, rfl⟩ := y
    exact hs i y t σ _ (hy xs q) ht p
  · have e : i = xs.length := by omega
    subst e
    exact .inl ⟨⟨rfl, xs, q, rfl⟩, hd σ H p⟩
end
end L2

set_option Elab.async false
set_option linter.all false
set_option maxRecDepth 100000
set_option maxHeartbeats 4000000
namespace L2
open PySem PySem.SeqAt
open PySem.AutoSeq1 (wpAny_loadPart')
open PySem.MeetsSeq PySem.MeetsSeq2 PySem.MeetsSeq3 PySem.SeqRoads2
theorem ne_loopAt (l b : Addr) (items items2 : Array Value) (n n2 : Nat) (dd dd2 : Option Addr) (sl sl2 : Array (Option Value)) (hsz : items.size = items2.size) (e : Nat → Bool) (k : Nat) :
    ∀ i : Nat, items.size - i = k → Meets (Builtin.«list.__eq__.loop» ⟨[.ref l, .ref b, rawInt i, rawInt 3], []⟩)
      (fun A R s => s.heap.get? l = some { cls := .type "list", dict := dd, data := .seq items n, slots := sl } ∧ s.heap.get? b = some { cls := .type "list", dict := dd2, data := .seq items2 n2, slots := sl2 } ∧
        (∀ j (h1 : j < items.size) (h2 : j < items2.size), EqAt A.in1 s items[j] items2[j] (e j)) ∧
        R (.ok (.ret (.bool (!((List.range items.size).drop i).all e)))) s) := by
  induction k with
  | zero =>
    intro i hk prog w A R s h
    obtain ⟨hp, g, d, tk, os⟩ := s; obtain ⟨hl, hb, he, h⟩ := h
    wp_walk using wpAny_loadPart' hl, wpAny_loadPart' hb
    have hi1 : items[((i : Nat) : Int).toNat]? = none := by simp; omega
    have hi2 : items2[((i : Nat) : Int).toNat]? = none := by simp; omega
    have hd : (List.range items.size).drop i = [] := by simp; omega
    rw [hd] at h
    rw [hi1, hi2]
    wp_walk using wpAny_loadPart' hl, wpAny_loadPart' hb
    show R (.ok (.ret (.bool (items.size != items2.size)))) _
    rw [hsz]
    simpa using h
  | succ k ih =>
    intro i hk prog w A R s h
    obtain ⟨hp, g, d, tk, os⟩ := s; obtain ⟨hl, hb, he, h⟩ := h
    wp_walk using wpAny_loadPart' hl, wpAny_loadPart' hb
    have hlt : i < items.size := by omega
    have hlt2 : i < items2.size := by omega
    have hi1 : items[((i : Nat) : Int).toNat]? = some items[i] := by simp [hlt]
    have hi2 : items2[((i : Nat) : Int).toNat]? = some items2[i] := by simp [hlt2]
    have hd : (List.range items.size).drop i = i :: (List.range items.size).drop (i + 1) := by simp [List.drop_eq_getElem_cons, hlt]
    have hc : ((i : Int) + 1) = ((i + 1 : Nat) : Int) := by push_cast; rfl
    rw [hd, List.all_cons] at h
    rw [hi1, hi2]
    refine wpAny_bind (he i hlt hlt2 prog w _ _ ?_)
    cases hb' : e i with
    | true =>
      rw [hb'] at h
      wp_walk
      rw [hc]
      exact ⟨plainId_quiet plain_eq_loop _, codeAny_builtin entry_eq_loop (by
        rw [Around.under_plainId plain_eq_loop _]
        exact ih (i + 1) (by omega) prog w A R _ ⟨hl, hb, he, by simpa using h⟩)⟩
    | false =>
      rw [hb'] at h
      wp_walk using wpAny_loadPart' hl, wpAny_loadPart' hb
      rw [hi1, hi2]
      wp_walk
      simpa using h
theorem list_neAt (l b : Addr) (items items2 : Array Value) (n n2 : Nat) (dd dd2 : Option Addr) (sl sl2 : Array (Option Value)) (hsz : items.size = items2.size) (e : Nat → Bool) :
    Meets (Builtin.«list.__ne__» ⟨[.ref l, .ref b], []⟩)
      (fun A R s => s.heap.get? l = some { cls := .type "list", dict := dd, data := .seq items n, slots := sl } ∧ s.heap.get? b = some { cls := .type "list", dict := dd2, data := .seq items2 n2, slots := sl2 } ∧
        (∀ j (h1 : j < items.size) (h2 : j < items2.size), EqAt A.in1 s items[j] items2[j] (e j)) ∧
        R (.ok (.ret (.bool (!(List.range items.size).all e)))) s) := by
  intro prog w A R s h
  obtain ⟨hp, g, d, tk, os⟩ := s; obtain ⟨hl, hb, he, h⟩ := h
  have f3 := PySem.AutoSeq1.sub_list_list
  have hne : ¬ (items.size != items2.size) = true := by simp [hsz]
  wp_walk using wpAny_loadPart' hl, wpAny_loadPart' hb
  exact ⟨plainId_quiet plain_eq_loop _, codeAny_builtin entry_eq_loop (by
    rw [Around.under_plainId plain_eq_loop _]
    exact ne_loopAt l b items items2 n n2 dd dd2 sl sl2 hsz e _ 0 rfl prog w A R _ ⟨hl, hb, he, by simpa using h⟩)⟩
theorem tuple_neAt (l b : Addr) (items items2 : Array Value) (n n2 : Nat) (dd dd2 : Option Addr) (sl sl2 : Array (Option Value)) (e : Nat → Bool) :
    Meets (Builtin.«tuple.__ne__» ⟨[.ref l, .ref b], []⟩)
      (fun A R s => s.heap.get? l = some { cls := .type "tuple", dict := dd, data := .seq items n, slots := sl } ∧ s.heap.get? b = some { cls := .type "tuple", dict := dd2, data := .seq items2 n2, slots := sl2 } ∧
        (∀ j (h1 : j < items.size) (h2 : j < items2.size), EqAt A.in1 s items[j] items2[j] (e j)) ∧
        R (.ok (.ret (.bool (!((List.range (min items.size items2.size)).all e && items.size == items2.size))))) s) :=
  .of_wp fun prog w A R s h => by
    obtain ⟨hp, g, d, tk, os⟩ := s; obtain ⟨hl, hb, he, h⟩ := h
    have f2 := PySem.AutoSeq1.sub_tuple_tuple
    have hZ : (items.toList.zip items2.toList).length = min items.size items2.size := by simp
    wp_walk using wpAny_loadPart' hl, wpAny_loadPart' hb, wpAny_forIn_list _ (fun rest b s' => b.1 = none ∧ s' = ⟨hp, g, d, tk, os⟩ ∧ ∃ i, rest = (items.toList.zip items2.toList).drop i ∧
      R (.ok (.ret (.bool (!(((List.range (min items.size items2.size)).drop i).all e && items.size == items2.size))))) ⟨hp, g, d, tk, os⟩) _
    case turn =>
      rintro ⟨y, x⟩ rest b s' ⟨hb', rfl, i, hz, hR⟩
      have hlt : i < (items.toList.zip items2.toList).length := by
        rcases Nat.lt_or_ge i (items.toList.zip items2.toList).length with h' | h'
        · exact h'
        · rw [List.drop_of_length_le h'] at hz; cases hz
      have hm : i < min items.size items2.size := hZ ▸ hlt
      have h1 : i < items.size := Nat.lt_of_lt_of_le hm (Nat.min_le_left _ _)
      have h2 : i < items2.size := Nat.lt_of_lt_of_le hm (Nat.min_le_right _ _)
      rw [List.drop_eq_getElem_cons hlt] at hz
      injection hz with hyx hrest
      have hy : y = items[i] := by have := congrArg Prod.fst hyx; simpa using this
      have hx : x = items2[i] := by have := congrArg Prod.snd hyx; simpa using this
      subst hy hx
      have hd : (List.range (min items.size items2.size)).drop i = i :: (List.range (min items.size items2.size)).drop (i + 1) := by simp [List.drop_eq_getElem_cons, hm]
      rw [hd, List.all_cons] at hR
      refine wpAny_bind (he i h1 h2 prog w _ _ ?_)
      cases hy : e i with
      | true =>
        rw [hy] at hR
        wp_walk
        exact ⟨rfl, rfl, i + 1, hrest, by simpa using hR⟩
      | false =>
        rw [hy] at hR
        wp_walk
        exact ⟨_, rfl, by simpa using hR⟩
    case fin =>
      rintro ⟨b1, b2⟩ s' ⟨hb', rfl, i, hz, hR⟩
      simp only at hb'
      subst hb'
      have hge : min items.size items2.size ≤ i := by
        rcases Nat.lt_or_ge i (items.toList.zip items2.toList).length with h' | h'
        · rw [List.drop_eq_getElem_cons h'] at hz; cases hz
        · exact hZ ▸ h'
      rw [List.drop_of_length_le (by simpa using hge)] at hR
      wp_walk
      exact ⟨_, rfl, by simpa [Builtin.Tuple.tupleCompareSizes, bne] using hR⟩
    case h =>
      exact ⟨rfl, rfl, 0, rfl, by simpa using h⟩
section
variable {prog : Program} {w : World} {A : Around} {E : Value → Shared → Prop} {s : Shared}
theorem ne_listsAt {l b : Addr} {items items2 : Array Value} {e : Nat → Bool} {Q : Value → Shared → Prop} (hl : s.heap.IsList l items) (hb : s.heap.IsList b items2) (hsz : items.size = items2.size) (hu : A.units < cLine)
    (he : ∀ j (h1 : j < items.size) (h2 : j < items2.size), EqAt A.in1 s items[j] items2[j] (e j)) (h : Q (.bool (!(List.range items.size).all e)) s) : wpAny (model prog w) A (compareOp .NotEq (.ref l) (.ref b)) Q E s := by
  obtain ⟨⟨cls, dd, data, sl⟩, ho, hc, n, hd⟩ := id hl
  obtain ⟨⟨cls2, dd2, data2, sl2⟩, ho2, hc2, n2, hd2⟩ := id hb
  simp only at hc hd hc2 hd2
  subst hc hd hc2 hd2
  exact richCompare_meets_room (op := .NotEq) ⟨_, ho, rfl⟩ ⟨_, ho2, rfl⟩ F.slot_list_ne F.entry_list_ne (F.args_list_ne_2 _ _) (list_neAt l b items items2 n n2 dd dd2 sl sl2 hsz e)
    ⟨ho, ho2, he, show Value.bool (!(List.range items.size).all e) ≠ Value.notImplemented ∧ Q (.bool (!(List.range items.size).all e)) s from ⟨(fun x => nomatch x), h⟩⟩ hu
theorem ne_tuplesAt {l b : Addr} {items items2 : Array Value} {e : Nat → Bool} {Q : Value → Shared → Prop} (hl : s.heap.IsTuple l items) (hb : s.heap.IsTuple b items2) (hu : A.units < cLine)
    (he : ∀ j (h1 : j < items.size) (h2 : j < items2.size), EqAt A.in1 s items[j] items2[j] (e j)) (h : Q (.bool (!((List.range (min items.size items2.size)).all e && items.size == items2.size))) s) : wpAny (model prog w) A (compareOp .NotEq (.ref l) (.ref b)) Q E s := by
  obtain ⟨⟨cls, dd, data, sl⟩, ho, hc, n, hd⟩ := id hl
  obtain ⟨⟨cls2, dd2, data2, sl2⟩, ho2, hc2, n2, hd2⟩ := id hb
  simp only at hc hd hc2 hd2
  subst hc hd hc2 hd2
  exact richCompare_meets_room (op := .NotEq) ⟨_, ho, rfl⟩ ⟨_, ho2, rfl⟩ F.slot_tuple_ne F.entry_tuple_ne (F.args_tuple_ne_2 _ _) (tuple_neAt l b items items2 n n2 dd dd2 sl sl2 e)
    ⟨ho, ho2, he, show Value.bool (!((List.range (min items.size items2.size)).all e && items.size == items2.size)) ≠ Value.notImplemented ∧ Q (.bool (!((List.range (min items.size items2.size)).all e && items.size == items2.size))) s from ⟨(fun x => nomatch x), h⟩⟩ hu
end
end L2

set_option Elab.async false
set_option linter.all false
set_option maxRecDepth 100000
set_option maxHeartbeats 4000000
namespace L2
open PySem PySem.Spec PyProof.Rows
inductive Dt where
  | flat (v : V)
  | tup (ds : List Dt)
  | lst (ds : List Dt)
inductive IsD (K : PySem.W.Frag) (H : Hp) : Nat → V → Dt → Prop where
  | flat {n : Nat} {v : V} (h : flatV v = true) : IsD K H n v (.flat v)
  | tup {n : Nat} {a : Addr} {vs : List V} {ds : List Dt} (q : SqT K H a vs) (l : vs.length = ds.length) (h : ∀ (j : Nat) (v : V) (d : Dt), vs[j]? = some v → ds[j]? = some d → IsD K H n v d) : IsD K H (n + 1) (.ref a) (.tup ds)
  | lst {n : Nat} {a : Addr} {vs : List V} {ds : List Dt} (q : SqL K H a vs) (l : vs.length = ds.length) (h : ∀ (j : Nat) (v : V) (d : Dt), vs[j]? = some v → ds[j]? = some d → IsD K H n v d) : IsD K H (n + 1) (.ref a) (.lst ds)
theorem IsD.same {K : PySem.W.Frag} {H H' : Hp} {n : Nat} {v : V} {d : Dt} (h : IsD K H n v d) (e : Same H H') : IsD K H' n v d := by
  induction h with
  | flat h => exact .flat h
  | tup q l _ ih => exact .tup (e.tup q) l ih
  | lst q l _ ih => exact .lst (e.seq q) l ih
theorem IsD.up {K : PySem.W.Frag} {H : Hp} {n m : Nat} {v : V} {d : Dt} (h : IsD K H n v d) (hm : n ≤ m) : IsD K H m v d := by
  induction h generalizing m with
  | flat h => exact .flat h
  | tup q l _ ih =>
    obtain ⟨k, rfl⟩ : ∃ k, m = k + 1 := ⟨m - 1, by omega⟩
    exact .tup q l fun j v d e1 e2 => ih j v d e1 e2 (by omega)
  | lst q l _ ih =>
    obtain ⟨k, rfl⟩ : ∃ k, m = k + 1 := ⟨m - 1, by omega⟩
    exact .lst q l fun j v d e1 e2 => ih j v d e1 e2 (by omega)
theorem eqV_self {v : V} (h : flatV v = true) : eqV v v = true := by
  cases v with
  | non => rfl
  | bl b => simp [eqV]
  | int i => simp [eqV]
  | str x => simp [eqV]
  | byt _ => cases h
  | flt _ => cases h
  | ref _ => cases h
  | ty _ => cases h
section
variable {X : Cx} {pins : List (Addr × Obj)} {σ : St} {H : Hp} {s : Shared}
theorem eqAt_same (I : Inv X pins σ H s) : ∀ {n : Nat} {x y : V} {d : Dt}, IsD X.K H n x d → IsD X.K H n y d → ∀ {A : Around} {u v : Value}, RelV x u → RelV y v → A.units + n < cLine → SeqAt.EqAt A s u v true := by
  intro n
  induction n with
  | zero =>
    intro x y d hx hy A u v rx ry hu
    cases hx with
    | flat fx =>
      cases hy with
      | flat fy =>
        have := eqAt_V (A := A) (s := s) rx ry fx fy
        rw [eqV_self fx] at this
        exact this
  | succ n ih =>
    intro x y d hx hy A u v rx ry hu
    cases hx with
    | flat fx =>
      cases hy with
      | flat fy =>
        have := eqAt_V (A := A) (s := s) rx ry fx fy
        rw [eqV_self fx] at this
        exact this
    | @tup _ a vs ds q l h =>
      cases hy with
      | @tup _ b ws _ q' l' h' =>
        cases rx
        cases ry
        by_cases hab : a = b
        · subst hab
          exact SeqAt.EqAt.same _
        obtain ⟨its, r1, p1, _⟩ := I.tuple q
        obtain ⟨its2, r2, p2, _⟩ := I.tuple q'
        have l1 := r1.length
        have l2 := r2.length
        have := SeqAt.RcAt.tuples (A := A) (e := fun _ => true) (show s.heap.IsTuple a its.toArray from p1) (show s.heap.IsTuple b its2.toArray from p2) (by omega) fun j h1 h2 => by
          have h1' : j < vs.length := by simp only [List.size_toArray] at h1; omega
          have h2' : j < ws.length := by simp only [List.size_toArray] at h2; omega
          obtain ⟨u1, g1, k1⟩ := r1.get (List.getElem?_eq_getElem h1')
          obtain ⟨u2, g2, k2⟩ := r2.get (List.getElem?_eq_getElem h2')
          have e1 : its.toArray[j] = u1 := by
            have : its[j]? = some its[j] := by simp
            rw [this] at g1
            simpa using g1
          have e2 : its2.toArray[j] = u2 := by
            have : its2[j]? = some its2[j] := by simp
            rw [this] at g2
            simpa using g2
          rw [e1, e2]
          have hd : j < ds.length := by omega
          exact ih (h j _ _ (List.getElem?_eq_getElem h1') (List.getElem?_eq_getElem hd)) (h' j _ _ (List.getElem?_eq_getElem h2') (List.getElem?_eq_getElem hd)) k1 k2 (by show A.units + 1 + n < cLine; omega)
        have e : ((List.range (min its.toArray.size its2.toArray.size)).all (fun _ => true) && its.toArray.size == its2.toArray.size) = true := by
          have : its.toArray.size = its2.toArray.size := by simp only [List.size_toArray]; omega
          rw [this]
          simp
        rw [e] at this
        exact SeqAt.EqAt.of_refs hab this
    | @lst _ a vs ds q l h =>
      cases hy with
      | @lst _ b ws _ q' l' h' =>
        cases rx
        cases ry
        by_cases hab : a = b
        · subst hab
          exact SeqAt.EqAt.same _
        obtain ⟨its, r1, p1, _⟩ := I.list q
        obtain ⟨its2, r2, p2, _⟩ := I.list q'
        have l1 := r1.length
        have l2 := r2.length
        have := SeqAt.RcAt.lists (A := A) (e := fun _ => true) p1.isList p2.isList (by simp only [List.size_toArray]; omega) (by omega) fun j h1 h2 => by
          have h1' : j < vs.length := by simp only [List.size_toArray] at h1; omega
          have h2' : j < ws.length := by simp only [List.size_toArray] at h2; omega
          obtain ⟨u1, g1, k1⟩ := r1.get (List.getElem?_eq_getElem h1')
          obtain ⟨u2, g2, k2⟩ := r2.get (List.getElem?_eq_getElem h2')
          have e1 : its.toArray[j] = u1 := by
            have : its[j]? = some its[j] := by simp
            rw [this] at g1
            simpa using g1
          have e2 : its2.toArray[j] = u2 := by
            have : its2[j]? = some its2[j] := by simp
            rw [this] at g2
            simpa using g2
          rw [e1, e2]
          have hd : j < ds.length := by omega
          exact ih (h j _ _ (List.getElem?_eq_getElem h1') (List.getElem?_eq_getElem hd)) (h' j _ _ (List.getElem?_eq_getElem h2') (List.getElem?_eq_getElem hd)) k1 k2 (by show A.units + 1 + n < cLine; omega)
        have e : (List.range its.toArray.size).all (fun _ => true) = true := by simp
        rw [e] at this
        exact SeqAt.EqAt.of_refs hab this
theorem itemsAt (I : Inv X pins σ H s) {n : Nat} {A : Around} {vs ws : List V} {its its2 : List Value} {ds : List Dt} (r1 : Vals vs its) (r2 : Vals ws its2) (l : vs.length = ds.length) (l' : ws.length = ds.length)
    (h : ∀ (j : Nat) (v : V) (d : Dt), vs[j]? = some v → ds[j]? = some d → IsD X.K H n v d) (h' : ∀ (j : Nat) (v : V) (d : Dt), ws[j]? = some v → ds[j]? = some d → IsD X.K H n v d) (hu : A.units + n < cLine) :
    ∀ j (h1 : j < its.toArray.size) (h2 : j < its2.toArray.size), SeqAt.EqAt A s its.toArray[j] its2.toArray[j] ((fun _ => true) j) := fun j h1 h2 => by
  have l1 := r1.length
  have l2 := r2.length
  have h1' : j < vs.length := by simp only [List.size_toArray] at h1; omega
  have h2' : j < ws.length := by simp only [List.size_toArray] at h2; omega
  obtain ⟨u1, g1, k1⟩ := r1.get (List.getElem?_eq_getElem h1')
  obtain ⟨u2, g2, k2⟩ := r2.get (List.getElem?_eq_getElem h2')
  have e1 : its.toArray[j] = u1 := by
    have : its[j]? = some its[j] := by simp
    rw [this] at g1
    simpa using g1
  have e2 : its2.toArray[j] = u2 := by
    have : its2[j]? = some its2[j] := by simp
    rw [this] at g2
    simpa using g2
  rw [e1, e2]
  have hd : j < ds.length := by omega
  exact eqAt_same I (h j _ _ (List.getElem?_eq_getElem h1') (List.getElem?_eq_getElem hd)) (h' j _ _ (List.getElem?_eq_getElem h2') (List.getElem?_eq_getElem hd)) k1 k2 hu
end
section
variable {X : Cx}
def rEqD (K : PySem.W.Frag) (b : Bool) : R2 := fun x y H Q => ∃ (a c : Addr) (n : Nat) (d : Dt), x = .ref a ∧ y = .ref c ∧ n ≤ 190 ∧ IsD K H n x d ∧ IsD K H n y d ∧ Q (.bl b) H
theorem op_eqD (hu : X.A.units + 200 < cLine) : OpR X (compareOp .Eq) (rEqD X.K true) := by
  intro pins s σ H x y v u Q I rx ry h
  obtain ⟨a, c, n, d, rfl, rfl, hn, hx, hy, q⟩ := h
  cases rx
  cases ry
  cases hx with
  | flat fx => cases fx
  | @tup n _ vs ds qx l hd =>
    cases hy with
    | @tup _ _ ws _ qy l' hd' =>
      obtain ⟨its, r1, p1, _⟩ := I.tuple qx
      obtain ⟨its2, r2, p2, _⟩ := I.tuple qy
      have l1 := r1.length
      have l2 := r2.length
      refine SeqAt.eq_tupleAt (e := fun _ => true) (show s.heap.IsTuple a its.toArray from p1) (show s.heap.IsTuple c its2.toArray from p2) (by omega) (itemsAt I r1 r2 l l' hd hd' (by show X.A.units + 1 + n < cLine; omega)) ?_
      have e : ((List.range (min its.toArray.size its2.toArray.size)).all (fun _ => true) && its.toArray.size == its2.toArray.size) = true := by
        have : its.toArray.size = its2.toArray.size := by simp only [List.size_toArray]; omega
        rw [this]
        simp
      rw [e]
      exact ⟨.bl true, H, I, rfl, q⟩
  | @lst n _ vs ds qx l hd =>
    cases hy with
    | @lst _ _ ws _ qy l' hd' =>
      obtain ⟨its, r1, p1, _⟩ := I.list qx
      obtain ⟨its2, r2, p2, _⟩ := I.list qy
      have l1 := r1.length
      have l2 := r2.length
      refine SeqAt.eq_listAt (e := fun _ => true) p1.isList p2.isList (by simp only [List.size_toArray]; omega) (by omega) (itemsAt I r1 r2 l l' hd hd' (by show X.A.units + 1 + n < cLine; omega)) ?_
      have e : (List.range its.toArray.size).all (fun _ => true) = true := by simp
      rw [e]
      exact ⟨.bl true, H, I, rfl, q⟩
theorem op_neD (hu : X.A.units + 200 < cLine) : OpR X (compareOp .NotEq) (rEqD X.K false) := by
  intro pins s σ H x y v u Q I rx ry h
  obtain ⟨a, c, n, d, rfl, rfl, hn, hx, hy, q⟩ := h
  cases rx
  cases ry
  cases hx with
  | flat fx => cases fx
  | @tup n _ vs ds qx l hd =>
    cases hy with
    | @tup _ _ ws _ qy l' hd' =>
      obtain ⟨its, r1, p1, _⟩ := I.tuple qx
      obtain ⟨its2, r2, p2, _⟩ := I.tuple qy
      have l1 := r1.length
      have l2 := r2.length
      refine ne_tuplesAt (e := fun _ => true) (show s.heap.IsTuple a its.toArray from p1) (show s.heap.IsTuple c its2.toArray from p2) (by omega) (itemsAt I r1 r2 l l' hd hd' (by show X.A.units + 1 + n < cLine; omega)) ?_
      have e : (!((List.range (min its.toArray.size its2.toArray.size)).all (fun _ => true) && its.toArray.size == its2.toArray.size)) = false := by
        have : its.toArray.size = its2.toArray.size := by simp only [List.size_toArray]; omega
        rw [this]
        simp
      rw [e]
      exact ⟨.bl false, H, I, rfl, q⟩
  | @lst n _ vs ds qx l hd =>
    cases hy with
    | @lst _ _ ws _ qy l' hd' =>
      obtain ⟨its, r1, p1, _⟩ := I.list qx
      obtain ⟨its2, r2, p2, _⟩ := I.list qy
      have l1 := r1.length
      have l2 := r2.length
      refine ne_listsAt (e := fun _ => true) p1.isList p2.isList (by simp only [List.size_toArray]; omega) (by omega) (itemsAt I r1 r2 l l' hd hd' (by show X.A.units + 1 + n < cLine; omega)) ?_
      have e : (!(List.range its.toArray.size).all (fun _ => true)) = false := by simp
      rw [e]
      exact ⟨.bl false, H, I, rfl, q⟩
def rEqA (K : PySem.W.Frag) : R2 := fun x y H Q => rEq x y H Q ∨ rEqD K true x y H Q
def rNeA (K : PySem.W.Frag) : R2 := fun x y H Q => rNe x y H Q ∨ rEqD K false x y H Q
theorem op_eqA (hu : X.A.units + 200 < cLine) : OpR X (compareOp .Eq) (rEqA X.K) := op_eq.or (op_eqD hu)
theorem op_neA (hu : X.A.units + 200 < cLine) : OpR X (compareOp .NotEq) (rNeA X.K) := op_ne.or (op_neD hu)
theorem s_eq {K : PySem.W.Frag} {x y : V} {H : Hp} {Q : VK} (hs : scal x y = true) (h : Q (.bl (decide (x = y))) H) : rEqA K x y H Q := .inl ⟨hs, h⟩
theorem s_ne {K : PySem.W.Frag} {x y : V} {H : Hp} {Q : VK} (hs : scal x y = true) (h : Q (.bl (!decide (x = y))) H) : rNeA K x y H Q := .inl ⟨hs, h⟩
theorem s_eqD {K : PySem.W.Frag} {a c : Addr} {H : Hp} {Q : VK} {n : Nat} {d : Dt} (hn : n ≤ 190) (hx : IsD K H n (.ref a) d) (hy : IsD K H n (.ref c) d) (h : Q (.bl true) H) : rEqA K (.ref a) (.ref c) H Q := .inr ⟨a, c, n, d, rfl, rfl, hn, hx, hy, h⟩
theorem s_neD {K : PySem.W.Frag} {a c : Addr} {H : Hp} {Q : VK} {n : Nat} {d : Dt} (hn : n ≤ 190) (hx : IsD K H n (.ref a) d) (hy : IsD K H n (.ref c) d) (h : Q (.bl false) H) : rNeA K (.ref a) (.ref c) H Q := .inr ⟨a, c, n, d, rfl, rfl, hn, hx, hy, h⟩
theorem Room.u200 {k : Nat} {A : Around} (r : Room k A) : A.units + 200 < cLine := by have := r.un; omega
end
end L2

set_option Elab.async false
set_option linter.all false
set_option maxRecDepth 100000
set_option maxHeartbeats 4000000
namespace L2
open PySem PySem.Spec PyProof.Rows
section
variable {t u : TS} {c d : TT} {te ta tb tc : TE} {g : TG} {gs : TGs} {ts : TA} {D : Ends} {σ : St} {H : Hp} {Q : VK} {QB : Bool → Hp → Prop} {QA' : List V → Hp → Prop}
theorem s_seq (h : t { D with nx := u D } σ H) : tSeq t u D σ H := h
theorem s_asg (h : te σ H fun x H1 => g x σ H1 D.nx) : tAsg te g D σ H := h
theorem s_ret (h : te σ H D.rt) : tRet te D σ H := h
theorem s_drop (h : te σ H fun _ H1 => D.nx σ H1) : tDrop te D σ H := h
theorem s_next (h : D.nx σ H) : tNext D σ H := h
theorem s_ifS (h : c σ H fun b H1 => if b = true then t D σ H1 else u D σ H1) : tIfS c t u D σ H := h
theorem s_var {i : Nat} {v : V} (e : σ[i]? = some (some v)) (h : Q v H) : tVar i σ H Q := ⟨v, e, h⟩
theorem s_c {v : V} (h : Q v H) : tC v σ H Q := h
theorem s_op {r : R2} (h : ta σ H fun x H1 => tb σ H1 fun y H2 => r x y H2 Q) : tOp r ta tb σ H Q := h
theorem s_un {r : V → Hp → VK → Prop} (h : ta σ H fun x H1 => r x H1 Q) : tUn r ta σ H Q := h
theorem s_test (h : te σ H fun x H' => ∃ k, x = .bl k ∧ QB k H') : tTest te σ H QB := h
theorem s_tB (h : te σ H fun x H' => ∃ k, x = .bl k ∧ QB k H') : tB te σ H QB := h
theorem s_ex {b : Bool} {P : Bool → Prop} (h : P b) : ∃ k, V.bl b = V.bl k ∧ P k := ⟨b, rfl, h⟩
theorem s_exi {i : Int} {P : Int → Prop} (h : P i) : ∃ k, V.int i = V.int k ∧ P k := ⟨i, rfl, h⟩
theorem s_not (h : c σ H fun b H1 => QB (!b) H1) : tNot c σ H QB := h
theorem s_and (h : c σ H fun b H1 => if b = true then d σ H1 QB else QB false H1) : tAnd c d σ H QB := h
theorem s_or (h : c σ H fun b H1 => if b = true then QB true H1 else d σ H1 QB) : tOr c d σ H QB := h
theorem s_andV (h : ta σ H fun x H1 => ∃ k, x = .bl k ∧ if k = true then tb σ H1 Q else Q (.bl false) H1) : tAndV ta tb σ H Q := h
theorem s_orV (h : ta σ H fun x H1 => ∃ k, x = .bl k ∧ if k = true then Q (.bl true) H1 else tb σ H1 Q) : tOrV ta tb σ H Q := h
theorem s_notV (h : ta σ H fun x H1 => ∃ k, x = .bl k ∧ Q (.bl (!k)) H1) : tNotV ta σ H Q := h
theorem s_nil (h : QA' [] H) : tNil σ H QA' := h
theorem s_cons (h : te σ H fun x H1 => ts σ H1 fun xs H2 => QA' (x :: xs) H2) : tCons te ts σ H QA' := h
theorem s_vals {xs : List V} (h : QA' xs H) : tVals xs σ H QA' := h
theorem s_tup (h : ts σ H fun xs H1 => xs.length ≤ sizeLine ∧ ∀ p, H1 p = none → Q (.ref p) (upd H1 p (.tup xs))) : tTup ts σ H Q := h
theorem s_lst (h : ts σ H fun xs H1 => xs.length ≤ sizeLine ∧ ∀ p, H1 p = none → Q (.ref p) (upd H1 p (.lst xs))) : tLst ts σ H Q := h
theorem s_call {sp : Sp} {dvs : List V} {E : XK} (h : ts σ H fun vs H1 => sp (vs ++ dvs) H1 Q E) : tCall sp dvs E ts σ H Q := h
theorem s_cb {r : List V → Hp → VK → Prop} (h : ts σ H fun vs H1 => r vs H1 Q) : tCB r ts σ H Q := h
theorem s_bm {K : PySem.W.Frag} {T : String} {r : V → List V → Hp → VK → Prop} (h : te σ H fun x H1 => tyV K T x H1 ∧ ts σ H1 fun xs H2 => r x xs H2 Q) : tBM K T r te ts σ H Q := h
theorem s_bm0 {K : PySem.W.Frag} {T : String} {r : V → List V → Hp → VK → Prop} (h : te σ H fun x H1 => tyV K T x H1 ∧ r x [] H1 Q) : tBM0 K T r te σ H Q := h
theorem s_sl {r : V → Option Int → Option Int → Hp → VK → Prop} {tl th : TO} (h : te σ H fun x H1 => tl σ H1 fun l H2 => th σ H2 fun u H3 => r x l u H3 Q) : tSl r te tl th σ H Q := h
theorem s_po {QO' : Option Int → Hp → Prop} (h : te σ H fun x H1 => ∃ i, x = .int i ∧ QO' (some i) H1) : tPart te σ H QO' := h
theorem s_po0 {QO' : Option Int → Hp → Prop} (h : QO' none H) : tNoPart σ H QO' := h
theorem s_gname {i : Nat} {v : V} {QS' : St → Hp → Prop} (h : QS' (σ.set i (some v)) H) : gName i v σ H QS' := h
theorem s_gtup {K : PySem.W.Frag} {n : Nat} {a : Addr} {xs : List V} {QS' : St → Hp → Prop} (q : SqT K H a xs) (l : xs.length = n) (h : gs xs σ H QS') : gTup K n gs (.ref a) σ H QS' := ⟨a, xs, rfl, q, l, h⟩
theorem s_gcons {v : V} {r : List V} {QS' : St → Hp → Prop} (h : g v σ H fun σ' H' => gs r σ' H' QS') : gCons g gs (v :: r) σ H QS' := ⟨v, r, rfl, h⟩
theorem s_gnil {QS' : St → Hp → Prop} (h : QS' σ H) : gNil [] σ H QS' := ⟨rfl, h⟩
theorem s_gsub {to ti : TE} {tt : TSet} {v : V} {QS' : St → Hp → Prop} (h : to σ H fun o H1 => ti σ H1 fun i H2 => tt o i v H2 fun H3 => QS' σ H3) : gSub to ti tt v σ H QS' := h
theorem s_isN (h : ta σ H fun x H1 => Q (.bl (decide (x = .non))) H1) : tIsN ta σ H Q := h
theorem s_notN (h : ta σ H fun x H1 => Q (.bl (!decide (x = .non))) H1) : tNotN ta σ H Q := h
theorem s_int_b {k : Bool} (h : Q (.int (if k = true then 1 else 0)) H) : (∃ i, ([V.bl k] : List V) = [.int i] ∧ Q (.int i) H) ∨ ∃ k', ([V.bl k] : List V) = [.bl k'] ∧ Q (.int (if k' = true then 1 else 0)) H := .inr ⟨k, rfl, h⟩
end
section
variable {wi : TI} {σ0 : St → St} {g : TG} {tt : TT} {te : TE} {ta : TA} {tb : TS} {D : Ends} {σ : St} {H : Hp} {Q : VK} {R : It → Hp → Prop} {K : PySem.W.Frag}
theorem s_comp (h : wi σ H fun J H1 => ∀ L, H1 L = none → CompW J g tt te (σ0 σ) H1 L Q) : tComp wi σ0 g tt te σ H Q := h
theorem s_for (h : wi σ H fun J H1 => ∃ W : Nat → Nat → St → Hp → Prop, (∃ m, W 0 m σ H1) ∧ ∀ i m σ H, W i m σ H →
  (J.stop i H ∧ D.nx σ H) ∨ (J.go i H ∧ ∃ N : St → Hp → Prop, (∀ σ' H', N σ' H' → ∃ m', m' < m ∧ W (i + 1) m' σ' H') ∧ ∀ x H', J.yld i H x H' → g x σ H' fun σ2 H2 => tb { D with nx := N, ct := N, bk := D.nx } σ2 H2)) : tFor wi g tb D σ H := h
theorem s_rng1 (h : ta σ H fun vs H1 => ∃ j : Int, vs = [.int j] ∧ -(2 ^ 62) ≤ j ∧ j < 2 ^ 62 ∧ R (Itr 0 j.toNat) H1) : iRng1 ta σ H R := h
theorem s_rng3 (h : ta σ H fun vs H1 => ∃ i j : Int, vs = [.int i, .int j, .int (-1)] ∧ (-(2 ^ 62) ≤ i ∧ i < 2 ^ 62 ∧ -(2 ^ 62) ≤ j ∧ j < 2 ^ 62) ∧ R (Itd i (i - j).toNat) H1) : iRng3 ta σ H R := h
theorem s_exr {i : Int} {P : Int → Prop} (h : P i) : ∃ j, ([V.int i] : List V) = [.int j] ∧ P j := ⟨i, rfl, h⟩
theorem s_exr3 {i j k : Int} {P : Int → Int → Prop} (hk : k = -1) (h : P i j) : ∃ a b, ([V.int i, V.int j, V.int k] : List V) = [.int a, .int b, .int (-1)] ∧ P a b := ⟨i, j, by rw [hk], h⟩
theorem s_iany (h : te σ H fun x H1 => (∃ a, x = .ref a ∧ (∃ xs, SqL K H1 a xs) ∧ R (Itl K a) H1) ∨ (∃ a, x = .ref a ∧ (∃ xs, SqT K H1 a xs) ∧ R (Itt K a) H1) ∨ ∃ z, x = .str z ∧ R (Its z) H1) : iAny K te σ H R := h
theorem s_irev (h : ta σ H fun vs H1 => ∃ a xs, vs = [.ref a] ∧ SqL K H1 a xs ∧ R (Itv K a xs.length) H1) : iRev K ta σ H R := h
theorem s_ienum (h : ta σ H fun vs H1 => ∃ a xs, vs = [.ref a] ∧ SqL K H1 a xs ∧ R (Ite K a xs.length) H1) : iEnum K ta σ H R := h
theorem s_listen (h : ta σ H fun vs H1 => ∃ a xs, vs = [.ref a] ∧ SqT K H1 a xs ∧ ∀ (S : Addr) (ys : List V) (H2 : Hp), H1 S = none → Same H1 H2 → ys.length = xs.length → Pairs H2 xs ys → H2 S = some (.lst ys) → Q (.ref S) H2) : tListEn K ta σ H Q := h
theorem s_yes {QB : Bool → Hp → Prop} (h : QB true H) : tYes σ H QB := h
theorem s_turn {L : Addr} {Nx : List V → St → Hp → Prop} {x : V} (h : g x σ H fun σ2 H3 => tt σ2 H3 fun b H4 => if b = true then te σ2 H4 fun y H5 => ∃ ys, H5 L = some (.lst ys) ∧ ys.length < sizeLine ∧ (∃ zs, upd H5 L (.lst (ys ++ [y])) L = some (.lst zs) ∧ Nx zs σ2 (upd H5 L (.lst (ys ++ [y])))) else ∃ zs, H4 L = some (.lst zs) ∧ Nx zs σ2 H4) : CompT g tt te L Nx x σ H := h
theorem s_app {l : Addr} {xs : List V} {y : V} (e : H l = some (.lst xs)) (z : xs.length < sizeLine) (h : Q .non (upd H l (.lst (xs ++ [y])))) : rAppend (.ref l) [y] H Q := ⟨l, xs, y, rfl, rfl, e, z, h⟩
theorem s_pop {l : Addr} {xs : List V} {y : V} (e : H l = some (.lst (xs ++ [y]))) (h : Q y (upd H l (.lst xs))) : rPop (.ref l) [] H Q := ⟨l, xs ++ [y], y, rfl, rfl, e, by simp, by simpa using h⟩
theorem s_join {sep : Str} {p : Addr} {ys : List Str} (hq : SqL K H p (ys.map V.str)) (hz : (ys.map (·.length)).sum + ys.length * sep.length ≤ 16777216) (h : Q (.str (Txt.join sep ys)) H) : rJoin K (.str sep) [.ref p] H Q := ⟨sep, p, ys, rfl, rfl, hq, hz, h⟩
theorem s_setL {p : Addr} {xs : List V} {k : Int} {j : Nat} {v : V} {QH : Hp → Prop} (e : H p = some (.lst xs)) (hj : ixN xs.length k = some j) (h : QH (upd H p (.lst (xs.set j v)))) : rSetL (.ref p) (.int k) v H QH := ⟨p, xs, k, j, rfl, rfl, e, hj, h⟩
end
end L2

set_option Elab.async false
set_option linter.all false
set_option maxRecDepth 100000
set_option maxHeartbeats 4000000
namespace L2
open PySem PySem.Spec PyProof.Rows
section
variable {X : Cx} (K : PySem.W.Frag)
theorem k_add (hK : X.K = K := by rfl) : OpR X (binaryOp .Add) (rAddA K) := by subst hK; exact op_addA
theorem k_eq (hu : X.A.units + 200 < cLine) (hK : X.K = K := by rfl) : OpR X (compareOp .Eq) (rEqA K) := by subst hK; exact op_eqA hu
theorem k_ne (hu : X.A.units + 200 < cLine) (hK : X.K = K := by rfl) : OpR X (compareOp .NotEq) (rNeA K) := by subst hK; exact op_neA hu
theorem k_in (hK : X.K = K := by rfl) : OpR X (compareOp .In) (rInA K false) := by subst hK; exact op_inA
theorem k_ix (hK : X.K = K := by rfl) : IxR X (rIx K) := by subst hK; exact ix_seq
theorem k_sl (hK : X.K = K := by rfl) : SlR X (rSlA K) := by subst hK; exact sl_any
theorem k_len (hK : X.K = K := by rfl) : CallR X (.builtin "len") (rLen K) := by subst hK; exact call_lenA
theorem k_join (hK : X.K = K := by rfl) : MtR X "str.join" (rJoin K) := by subst hK; exact mt_join
inductive TyQ (K : PySem.W.Frag) (H : Hp) : V → Value → Prop where
  | ty {x : V} {t : Value} (h : TyOf K H x t) : TyQ K H x t
  | tup {a : Addr} {xs : List V} (q : SqT K H a xs) : TyQ K H (.ref a) (.type "tuple")
  | lst {a : Addr} {xs : List V} (q : SqL K H a xs) : TyQ K H (.ref a) (.type "list")
def rIsi (K : PySem.W.Frag) (T : String) : List V → Hp → VK → Prop := fun xs H Q => ∃ x t b, xs = [x, .ty T] ∧ TyQ K H x t ∧ PySem.W.kitOne K t (.type T) = some b ∧ Q (.bl b) H
theorem call_isiQ {T : String} : CallR X (.builtin "isinstance") (rIsi X.K T) := by
  intro pins s σ H xs us Q I r h
  obtain ⟨x, t, b, rfl, ty, e, q⟩ := h
  obtain ⟨u, v, rfl, ru, rv⟩ := r.two
  obtain rfl : v = Value.type T := rv
  cases ty with
  | ty ty => exact isinst_ok I ru ty e fun tk => ⟨.bl b, H, I.tok tk, rfl, q⟩
  | tup hq =>
    cases ru
    obtain ⟨its, _, p, _⟩ := I.tuple hq
    obtain ⟨o, h1, h2, _⟩ := p
    exact PySem.W.kia_one PySem.W.kitx_tuple I.kIn ⟨o, h1, h2⟩ e (fun z => nomatch z) fun tk => ⟨.bl b, H, I.tok tk, rfl, q⟩
  | lst hq =>
    cases ru
    obtain ⟨its, _, p, _⟩ := I.list hq
    obtain ⟨o, n, h1, h2, _⟩ := p
    exact PySem.W.kia_one PySem.W.kitx_list I.kIn ⟨o, h1, h2⟩ e (fun z => nomatch z) fun tk => ⟨.bl b, H, I.tok tk, rfl, q⟩
theorem k_isi (T : String) (hK : X.K = K := by rfl) : CallR X (.builtin "isinstance") (rIsi K T) := by subst hK; exact call_isiQ
def rTupOf (K : PySem.W.Frag) : List V → Hp → VK → Prop := fun xs H Q => ∃ p ys, xs = [.ref p] ∧ ((SqL K H p ys ∧ ∀ l, H l = none → Q (.ref l) (upd H l (.tup ys))) ∨ (SqT K H p ys ∧ Q (.ref p) H))
theorem k_tuple (hK : X.K = K := by rfl) : CallR X (.type "tuple") (rTupOf K) := by subst hK; exact call_tuple_of
def rInt : List V → Hp → VK → Prop := fun xs H Q => (∃ i, xs = [.int i] ∧ Q (.int i) H) ∨ ∃ k, xs = [.bl k] ∧ Q (.int (if k then 1 else 0)) H
theorem k_int : CallR X (.type "int") rInt := call_int1
theorem s_intb {k : Bool} {H : Hp} {Q : VK} (h : Q (.int (if k = true then 1 else 0)) H) : rInt [.bl k] H Q := .inr ⟨k, rfl, h⟩
theorem qi_anyK {tg l : Expr} {tl : TE} (hl : QE X l tl) (hK : X.K = K := by rfl) : QI X tg l (iAny K tl) := by subst hK; exact qi_any hl
theorem qi_revK {tg a : Expr} {ta : TA} {p pos : Pos} (hg : Gl X "reversed") (hm : X.mg "reversed" = none) (ha : QA X [a] ta) (hK : X.K = K := by rfl) (hs : starEach [a] X.env = [(false, eval a X.env)] := by rfl) : QI X tg (.Call (.Name "reversed" p) [a] [] pos) (iRev K ta) := by subst hK; exact qi_rev hg hm ha hs
theorem qi_enumK {elts : List Expr} {kt : Nat} {pt : Pos} {e : Expr} {ta : TA} {p pos : Pos} (hg : Gl X "enumerate") (hm : X.mg "enumerate" = none) (ha : QA X [e] ta) (hK : X.K = K := by rfl) (hs : starEach [e] X.env = [(false, eval e X.env)] := by rfl) : QI X (.Tuple elts kt pt) (.Call (.Name "enumerate" p) [e] [] pos) (iEnum K ta) := by subst hK; exact qi_enum hg hm ha hs
theorem qg_tupK {es : List Expr} {k : Nat} {pos : Pos} {t : TGs} {n : Nat} (hc : X.calm = true) (h : QGs X es t) (hK : X.K = K := by rfl) (hn : (assignEach es X.env).length = n := by rfl) (hst : (assignEach es X.env).findIdx? (·.1) = none := by rfl) : QG X (.Tuple es k pos) (gTup K n t) := by subst hK; exact qg_tup hc h hn hst
def tTruth (K : PySem.W.Frag) (ta : TE) : TT := fun σ H Q => ta σ H fun x H' => ∃ k, TruV K x H' k ∧ Q k H'
theorem qe_bmK {o e : Expr} {es : List Expr} {to : TE} {t : TA} {name : Str} {apos cpos : Pos} {T id : String} {r : V → List V → Hp → VK → Prop} (pa : PlainAttrs T) (slot : Slot T name id) (hty : typeOf (.builtin id) = pure (.type "method_descriptor")) (hm : MtR X id r) (ho : QE X o to) (ha : QA X (e :: es) t) (hK : X.K = K := by rfl)
    (hbase : attributeBase o name X.env (eval o X.env) = eval o X.env := by rfl) (hfew : ((backTo cpos (starEach (e :: es) X.env)).all (fun x => !x.1) && (backToKw cpos (keywordEach [] X.env)).all (fun x => x.1.isSome)
      && decide ((e :: es).length + ([] : List Keyword).length + (if ([] : List Keyword).isEmpty then 0 else 1) < 30)) = true := by rfl) (hline : (apos.endLine == cpos.line) = true := by rfl) (hs : starEach (e :: es) X.env = (false, eval e X.env) :: starEach es X.env := by rfl) (hplain : (backTo cpos (starEach es X.env)).any (·.1) = false := by rfl) : QE X (.Call (.Attribute o name apos) (e :: es) [] cpos) (tBM K T r to t) := by subst hK; exact qe_bm pa slot hty hm ho ha hbase hfew hline hs hplain
theorem qe_bm0K {o : Expr} {to : TE} {name : Str} {apos cpos : Pos} {T id : String} {r : V → List V → Hp → VK → Prop} (pa : PlainAttrs T) (slot : Slot T name id) (hty : typeOf (.builtin id) = pure (.type "method_descriptor")) (hm : MtR X id r) (ho : QE X o to) (hK : X.K = K := by rfl) (hbase : attributeBase o name X.env (eval o X.env) = eval o X.env := by rfl) (hline : (apos.endLine == cpos.line) = true := by rfl) : QE X (.Call (.Attribute o name apos) [] [] cpos) (tBM0 K T r to) := by subst hK; exact qe_bm0 pa slot hty hm ho hbase hline
end
section
variable {K : PySem.W.Frag} {σ : St} {H : Hp} {Q : VK} {QB : Bool → Hp → Prop} {ta : TE}
theorem s_truth (h : ta σ H fun x H' => ∃ k, TruV K x H' k ∧ QB k H') : tTruth K ta σ H QB := h
theorem s_isi {T : String} {x : V} {t : Value} {b : Bool} (ty : TyOf K H x t) (e : PySem.W.kitOne K t (.type T) = some b) (h : Q (.bl b) H) : rIsi K T [x, .ty T] H Q := ⟨x, t, b, rfl, .ty ty, e, h⟩
theorem s_isiT {T : String} {a : Addr} {xs : List V} {b : Bool} (q : SqT K H a xs) (e : PySem.W.kitOne K (.type "tuple") (.type T) = some b) (h : Q (.bl b) H) : rIsi K T [.ref a, .ty T] H Q := ⟨_, _, b, rfl, .tup q, e, h⟩
theorem kit_int_bool {K : PySem.W.Frag} : PySem.W.kitOne K (.type "int") (.type "bool") = some false := kit_of (l := (fastBuiltinMro "int").get (by decide +kernel)) (by decide +kernel) (by decide) (by simp) (by decide +kernel)
theorem s_tupL {p : Addr} {ys : List V} (q : SqL K H p ys) (h : ∀ l, H l = none → Q (.ref l) (upd H l (.tup ys))) : rTupOf K [.ref p] H Q := ⟨p, ys, rfl, .inl ⟨q, h⟩⟩
theorem s_tyL {a : Addr} {xs : List V} {P : Prop} (q : SqL K H a xs) (h : P) : tyV K "list" (.ref a) H ∧ P := ⟨.inl ⟨rfl, _, q⟩, h⟩
end
theorem s_nt {A B : Prop} (h : B) : if (!true) = true then A else B := by simpa using h
theorem s_nf {A B : Prop} (h : A) : if (!false) = true then A else B := by simpa using h
end L2

set_option Elab.async false
set_option linter.all false
set_option maxRecDepth 100000
set_option maxHeartbeats 4000000
namespace L2
open PySem
inductive Tr where
  | mk (wd : Str) (note : Dt) (ps : List Tr)
def Tr.wd : Tr → Str
  | .mk w _ _ => w
def Tr.ps : Tr → List Tr
  | .mk _ _ ps => ps
mutual
def Tr.size : Tr → Nat
  | .mk _ _ ps => 1 + sizes ps
def sizes : List Tr → Nat
  | [] => 0
  | t :: r => t.size + sizes r
end
theorem Tr.size_eq (t : Tr) : t.size = 1 + sizes t.ps := by
  cases t with
  | mk w n ps => rw [Tr.size]; rfl
theorem sizes_append (a b : List Tr) : sizes (a ++ b) = sizes a + sizes b := by
  induction a with
  | nil => simp [sizes]
  | cons t r ih => rw [List.cons_append, sizes, sizes, ih]; omega
theorem sizes_get {ts : List Tr} {j : Nat} {t : Tr} (h : ts[j]? = some t) : t.size ≤ sizes ts := by
  induction ts generalizing j with
  | nil => simp at h
  | cons x r ih =>
    rw [sizes]
    cases j with
    | zero => simp at h; subst h; omega
    | succ j => have := ih (j := j) (by simpa using h); omega
theorem sizes_len (ts : List Tr) : ts.length ≤ sizes ts := by
  induction ts with
  | nil => simp [sizes]
  | cons t r ih =>
    have := t.size_eq
    rw [sizes, List.length_cons]
    omega
def SameT (H H' : Hp) : Prop := ∀ b, (∀ xs, H b = some (.tup xs) → H' b = some (.tup xs)) ∧ ∀ o u, H b = some (.frz o u) → H' b = some (.frz o u)
theorem Same.t {H H' : Hp} (e : Same H H') : SameT H H' := fun b => ⟨fun xs h => e b _ h, fun o u h => e b _ h⟩
theorem SameT.refl (H : Hp) : SameT H H := fun _ => ⟨fun _ h => h, fun _ _ h => h⟩
theorem SameT.trans {H H1 H2 : Hp} (a : SameT H H1) (b : SameT H1 H2) : SameT H H2 := fun c => ⟨fun xs h => (b c).1 xs ((a c).1 xs h), fun o u h => (b c).2 o u ((a c).2 o u h)⟩
theorem SameT.set {H : Hp} {S : Addr} {zs : List V} {o : HO} (h : H S = some (.lst zs)) : SameT H (upd H S o) := fun b =>
  ⟨fun xs e => by rw [upd_ne (ne_of e h (by intro z; cases z))]; exact e, fun o' u e => by rw [upd_ne (ne_of e h (by intro z; cases z))]; exact e⟩
theorem SameT.new {H : Hp} {S : Addr} {o : HO} (h : H S = none) : SameT H (upd H S o) := (Same.upd h).t
theorem SameT.tup {K : PySem.W.Frag} {H H' : Hp} {a : Addr} {xs : List V} (e : SameT H H') (h : SqT K H a xs) : SqT K H' a xs := by
  rcases h with (h | ⟨o, h⟩) | h
  · exact .inl (.inl ((e a).1 _ h))
  · exact .inl (.inr ⟨o, (e a).2 _ _ h⟩)
  · exact .inr h
def IsN (K : PySem.W.Frag) (H : Hp) (v : V) (n : Dt) : Prop := (flatV v = true ∧ n = .flat v) ∨ ∃ (a : Addr) (vs : List V), v = .ref a ∧ SqT K H a vs ∧ vs.all flatV = true ∧ n = .tup (vs.map .flat)
theorem IsN.same {K : PySem.W.Frag} {H H' : Hp} {v : V} {n : Dt} (h : IsN K H v n) (e : SameT H H') : IsN K H' v n := by
  rcases h with h | ⟨a, vs, h1, h2, h3⟩
  · exact .inl h
  · exact .inr ⟨a, vs, h1, e.tup h2, h3⟩
theorem IsN.d {K : PySem.W.Frag} {H : Hp} {v : V} {n : Dt} (h : IsN K H v n) : IsD K H 1 v n := by
  rcases h with ⟨h, rfl⟩ | ⟨a, vs, rfl, h2, h3, rfl⟩
  · exact .flat h
  · refine .tup h2 (by simp) fun j v d e1 e2 => ?_
    rw [List.getElem?_map, e1] at e2
    cases e2
    exact .flat (List.all_eq_true.mp h3 v (List.mem_of_getElem? e1))
inductive TrAt (K : PySem.W.Frag) (H : Hp) : V → Tr → Prop where
  | mk {a p : Addr} {wd : Str} {nv : V} {n : Dt} {vs : List V} {ts : List Tr} (q : SqT K H a [.str wd, nv, .ref p]) (hn : IsN K H nv n) (qp : SqT K H p vs) (l : vs.length = ts.length)
      (h : ∀ (j : Nat) (v : V) (t : Tr), vs[j]? = some v → ts[j]? = some t → TrAt K H v t) : TrAt K H (.ref a) (.mk wd n ts)
theorem TrAt.sameT {K : PySem.W.Frag} {H H' : Hp} {v : V} {t : Tr} (h : TrAt K H v t) (e : SameT H H') : TrAt K H' v t := by
  induction h with
  | mk q hn qp l _ ih => exact .mk (e.tup q) (hn.same e) (e.tup qp) l ih
theorem TrAt.same {K : PySem.W.Frag} {H H' : Hp} {v : V} {t : Tr} (h : TrAt K H v t) (e : Same H H') : TrAt K H' v t := h.sameT e.t
def Al {α : Type} (R : V → α → Prop) (vs : List V) (xs : List α) : Prop := vs.length = xs.length ∧ ∀ (j : Nat) (v : V) (x : α), vs[j]? = some v → xs[j]? = some x → R v x
section
variable {α : Type} {R R' : V → α → Prop} {vs : List V} {xs : List α} {v : V} {x : α}
theorem Al.mono (h : Al R vs xs) (f : ∀ v x, R v x → R' v x) : Al R' vs xs := ⟨h.1, fun j v x a b => f v x (h.2 j v x a b)⟩
theorem Al.nil : Al R [] [] := ⟨rfl, fun j v x a _ => by simp at a⟩
theorem Al.snoc (h : Al R vs xs) (a : R v x) : Al R (vs ++ [v]) (xs ++ [x]) := by
  refine ⟨by simp [h.1], fun j y z e1 e2 => ?_⟩
  by_cases hj : j < vs.length
  · rw [List.getElem?_append_left hj] at e1
    rw [List.getElem?_append_left (by have := h.1; omega)] at e2
    exact h.2 j y z e1 e2
  · have hl := (List.getElem?_eq_some_iff.mp e1).1
    rw [List.length_append, List.length_singleton] at hl
    have hj' : j = vs.length := by omega
    subst hj'
    rw [List.getElem?_append_right (Nat.le_refl _), Nat.sub_self] at e1
    rw [h.1, List.getElem?_append_right (Nat.le_refl _), Nat.sub_self] at e2
    have e1 : v = y := by simpa using e1
    have e2 : x = z := by simpa using e2
    rw [← e1, ← e2]
    exact a
theorem Al.split (h : Al R (vs ++ [v]) xs) : ∃ ys x, xs = ys ++ [x] ∧ Al R vs ys ∧ R v x := by
  have hl : xs.length = vs.length + 1 := by have := h.1; simp at this; omega
  have hne : xs ≠ [] := fun z => by rw [z] at hl; simp at hl
  refine ⟨xs.dropLast, xs.getLast hne, (List.dropLast_concat_getLast hne).symm, ⟨by simp [hl], fun j y z e1 e2 => ?_⟩, ?_⟩
  · have hj := (List.getElem?_eq_some_iff.mp e1).1
    refine h.2 j y z (by rw [List.getElem?_append_left hj]; exact e1) ?_
    rw [List.getElem?_dropLast] at e2
    split at e2
    · exact e2
    · cases e2
  · refine h.2 vs.length v _ (by simp) ?_
    rw [List.getLast_eq_getElem, List.getElem?_eq_getElem (by omega)]
    congr 1
    simp [hl]
theorem Al.last (h : Al R vs xs) (hn : vs ≠ []) : ∃ vs' v xs' x, vs = vs' ++ [v] ∧ xs = xs' ++ [x] ∧ Al R vs' xs' ∧ R v x := by
  have e := (List.dropLast_concat_getLast hn).symm
  rw [e] at h
  obtain ⟨ys, x, e2, a, r⟩ := h.split
  exact ⟨_, _, ys, x, e, e2, a, r⟩
theorem Al.get {j : Nat} (h : Al R vs xs) (e : vs[j]? = some v) : ∃ x, xs[j]? = some x ∧ R v x := by
  have hj := (List.getElem?_eq_some_iff.mp e).1
  have hx : j < xs.length := by have := h.1; omega
  exact ⟨xs[j], List.getElem?_eq_getElem hx, h.2 j v _ e (List.getElem?_eq_getElem hx)⟩
theorem Al.get' {j : Nat} (h : Al R vs xs) (e : xs[j]? = some x) : ∃ v, vs[j]? = some v ∧ R v x := by
  have hj := (List.getElem?_eq_some_iff.mp e).1
  have hv : j < vs.length := by have := h.1; omega
  exact ⟨vs[j], List.getElem?_eq_getElem hv, h.2 j _ x (List.getElem?_eq_getElem hv) e⟩
end
def gapT : Tr := .mk "gap" (.flat .non) []
theorem TrAt.gap {K : PySem.W.Frag} {H : Hp} {a p : Addr} (q : SqT K H a [.str "gap", .non, .ref p]) (qp : SqT K H p []) : TrAt K H (.ref a) gapT := .mk q (.inl ⟨rfl, rfl⟩) qp rfl fun j v t e _ => by simp at e
theorem gapT_size : gapT.size = 1 := by unfold gapT; rw [Tr.size, sizes]
mutual
def walk : List Nat → Tr → List (List Nat × Tr)
  | pl, .mk w n ps => (pl, .mk w n ps) :: walks pl 0 ps
def walks : List Nat → Nat → List Tr → List (List Nat × Tr)
  | _, _, [] => []
  | pl, i, t :: r => walk (pl ++ [i]) t ++ walks pl (i + 1) r
end
theorem walk_eq (pl : List Nat) (t : Tr) : walk pl t = (pl, t) :: walks pl 0 t.ps := by
  cases t with
  | mk w n ps => rw [walk]; rfl
mutual
theorem walk_len : ∀ (pl : List Nat) (t : Tr), (walk pl t).length = t.size
  | pl, .mk w n ps => by rw [walk, Tr.size, List.length_cons, walks_len pl 0 ps]; omega
theorem walks_len : ∀ (pl : List Nat) (i : Nat) (ts : List Tr), (walks pl i ts).length = sizes ts
  | _, _, [] => by rw [walks, sizes]; rfl
  | pl, i, t :: r => by rw [walks, sizes, List.length_append, walk_len, walks_len]
end
mutual
theorem walk_depth : ∀ (pl : List Nat) (t : Tr) (x : List Nat × Tr), x ∈ walk pl t → x.1.length + 1 ≤ pl.length + t.size
  | pl, .mk w n ps, x, h => by
    rw [walk] at h
    rw [Tr.size]
    rcases List.mem_cons.mp h with h | h
    · subst h; show pl.length + 1 ≤ _; omega
    · have := walks_depth pl 0 ps x h; omega
theorem walks_depth : ∀ (pl : List Nat) (i : Nat) (ts : List Tr) (x : List Nat × Tr), x ∈ walks pl i ts → x.1.length ≤ pl.length + sizes ts
  | _, _, [], x, h => by rw [walks] at h; cases h
  | pl, i, t :: r, x, h => by
    rw [walks] at h
    rw [sizes]
    rcases List.mem_append.mp h with h | h
    · have := walk_depth (pl ++ [i]) t x h
      rw [List.length_append, List.length_singleton] at this
      omega
    · have := walks_depth pl (i + 1) r x h; omega
end
def plV (pl : List Nat) : List V := pl.map fun i => V.int ((i : Nat) : Int)
def RowAt (K : PySem.W.Frag) (H : Hp) (v : V) (x : List Nat × Tr) : Prop := ∃ (a p : Addr) (u : V), v = .ref a ∧ SqT K H a [.ref p, u] ∧ SqT K H p (plV x.1) ∧ TrAt K H u x.2
theorem RowAt.same {K : PySem.W.Frag} {H H' : Hp} (e : SameT H H') (v : V) (x : List Nat × Tr) (h : RowAt K H v x) : RowAt K H' v x := by
  obtain ⟨a, p, u, r, q, qp, t⟩ := h
  exact ⟨a, p, u, r, e.tup q, e.tup qp, t.sameT e⟩
def kids : List Nat → Nat → List Tr → List (List Nat × Tr)
  | _, _, [] => []
  | pl, i, t :: r => (pl ++ [i], t) :: kids pl (i + 1) r
theorem kids_len (pl : List Nat) : ∀ (i : Nat) (ts : List Tr), (kids pl i ts).length = ts.length
  | _, [] => rfl
  | i, t :: r => by rw [kids, List.length_cons, List.length_cons, kids_len pl (i + 1) r]
theorem kids_get (pl : List Nat) : ∀ (i j : Nat) (ts : List Tr), (kids pl i ts)[j]? = (ts[j]?).map fun t => (pl ++ [i + j], t)
  | _, _, [] => by simp [kids]
  | i, 0, t :: r => by simp [kids]
  | i, j + 1, t :: r => by
    rw [kids, List.getElem?_cons_succ, List.getElem?_cons_succ, kids_get pl (i + 1) j r]
    congr 1
    funext t
    rw [show i + 1 + j = i + (j + 1) by omega]
theorem kids_walks (pl : List Nat) : ∀ (i : Nat) (ts : List Tr), (kids pl i ts).flatMap (fun x => walk x.1 x.2) = walks pl i ts
  | _, [] => by simp [kids, walks]
  | i, t :: r => by rw [kids, List.flatMap_cons, walks, kids_walks pl (i + 1) r]
def todo (st : List (List Nat × Tr)) : List (List Nat × Tr) := st.reverse.flatMap fun x => walk x.1 x.2
theorem todo_nil : todo [] = [] := rfl
theorem todo_pop (st : List (List Nat × Tr)) (x : List Nat × Tr) : todo (st ++ [x]) = x :: todo (st ++ (kids x.1 0 x.2.ps).reverse) := by
  unfold todo
  rw [List.reverse_append, List.reverse_append, List.reverse_reverse, List.flatMap_append, List.flatMap_append, kids_walks]
  rw [List.reverse_singleton, List.flatMap_singleton, walk_eq]
  rfl
def load (st : List (List Nat × Tr)) : Nat := (todo st).length
theorem load_pop (st : List (List Nat × Tr)) (x : List Nat × Tr) : load (st ++ (kids x.1 0 x.2.ps).reverse) < load (st ++ [x]) := by
  unfold load
  rw [todo_pop]
  exact Nat.lt_succ_self _
theorem load_len (st : List (List Nat × Tr)) : st.length ≤ load st := by
  unfold load todo
  have : ∀ l : List (List Nat × Tr), l.length ≤ (l.flatMap fun x => walk x.1 x.2).length := fun l => by
    induction l with
    | nil => simp
    | cons x r ih =>
      rw [List.flatMap_cons, List.length_append, walk_len, List.length_cons]
      have := x.2.size_eq
      omega
  have := this st.reverse
  rw [List.length_reverse] at this
  exact this
theorem drop_step {α : Type} {l : List α} {n i : Nat} {x : α} (hl : l.length = n) (hi : i < n) (hx : l[n - 1 - i]? = some x) : (l.drop (n - (i + 1))).reverse = (l.drop (n - i)).reverse ++ [x] := by
  have hk : n - 1 - i < l.length := by omega
  have e : l.drop (n - (i + 1)) = x :: l.drop (n - i) := by
    have h1 : n - (i + 1) = n - 1 - i := by omega
    rw [h1, List.drop_eq_getElem_cons hk, show n - 1 - i + 1 = n - i by omega]
    rw [List.getElem?_eq_getElem hk] at hx
    rw [Option.some.inj hx]
  rw [e, List.reverse_cons]
mutual
theorem walk_at_pl : ∀ (pl : List Nat) (t : Tr), walk pl t = (walk [] t).map fun x => (pl ++ x.1, x.2)
  | pl, .mk w n ps => by
    have e := walks_at_pl pl [] 0 ps
    rw [List.append_nil] at e
    rw [walk, walk, List.map_cons, e]
    simp
theorem walks_at_pl : ∀ (pl q : List Nat) (i : Nat) (ts : List Tr), walks (pl ++ q) i ts = (walks q i ts).map fun x => (pl ++ x.1, x.2)
  | _, _, _, [] => by rw [walks, walks]; rfl
  | pl, q, i, t :: r => by
    rw [walks, walks, List.map_append, ← walks_at_pl pl q (i + 1) r, walk_at_pl (pl ++ q ++ [i]) t, walk_at_pl (q ++ [i]) t]
    simp
end
theorem Al.append {α : Type} {R : V → α → Prop} {vs ws : List V} {xs ys : List α} (h : Al R vs xs) (h' : Al R ws ys) : Al R (vs ++ ws) (xs ++ ys) := by
  refine ⟨by simp [h.1, h'.1], fun j v x e1 e2 => ?_⟩
  by_cases hj : j < vs.length
  · rw [List.getElem?_append_left hj] at e1
    rw [List.getElem?_append_left (by have := h.1; omega)] at e2
    exact h.2 j v x e1 e2
  · rw [List.getElem?_append_right (by omega)] at e1
    rw [List.getElem?_append_right (by have := h.1; omega), ← h.1] at e2
    exact h'.2 _ v x e1 e2
end L2

set_option Elab.async false
set_option linter.all false
set_option maxRecDepth 100000
set_option maxHeartbeats 4000000
namespace L2
open PySem PySem.Spec PyProof.Rows
section
open PySem.AutoSeq1
theorem meets_extend_tup (l : Addr) (items : Array Value) (n : Nat) (b : Addr) (items2 : Array Value) (n2 : Nat) (od : Option Addr) (sl : Array (Option Value)) (hs0 : ¬(!items.isEmpty && Builtin.List.listTooLong (items.size + items2.size)) = true) (hs1 : items.size ≤ sizeLine) (hs2 : items.size + items2.size ≤ sizeLine + 1) :
    Meets (Builtin.«list.extend» ⟨[.ref l, .ref b], []⟩) (fun _ R s => s.heap.get? l = some { cls := .type "list", dict := none, data := .seq items n, slots := #[] } ∧ s.heap.get? b = some { cls := .type "tuple", dict := od, data := .seq items2 n2, slots := sl } ∧ R (.ok (.ret Value.none)) { s with heap := s.heap.update l (Obj.mapSeq fun x => x ++ items2), toks := s.toks }) :=
  .of_wp fun prog w A R s h => by
    obtain ⟨hp, g, d, tk, os⟩ := s; obtain ⟨hl, hb, h⟩ := h; have f1 := AutoSeq1.idx_int; have f2 := AutoSeq1.sub_tuple_tuple; have f3 := AutoSeq1.sub_list_list; have f4 := AutoSeq1.sub_tuple_list; have f5 := AutoSeq1.sub_list_tuple;
    have hz' : (items ++ items2).size ≤ sizeLine + 1 := by rw [Array.size_append]; exact hs2
    wp_walk using (wpAny_updateSeq hl rfl (hz := hs1) (_hz' := hz')), AutoSeq1.wpAny_loadPart' hl, AutoSeq1.wpAny_loadPart' hb; exact ⟨_, rfl, h⟩
end
def rExtT (K : PySem.W.Frag) : V → List V → Hp → VK → Prop := fun x vs H Q => ∃ l b xs zs, x = .ref l ∧ vs = [.ref b] ∧ H l = some (.lst xs) ∧ SqT K H b zs ∧ xs.length + zs.length ≤ sizeLine ∧ Q .non (upd H l (.lst (xs ++ zs)))
section
variable {X : Cx}
theorem mt_extT : MtM X "list.extend" (rExtT X.K) := by
  intro pins s σ H x vs v us Q I rx rv h
  obtain ⟨l, b, xs, zs, rfl, rfl, hH, hB, hz, q⟩ := h
  cases rx
  obtain ⟨u, rfl, ru⟩ := rv.one
  cases ru
  obtain ⟨z, its, n, r, hl, e⟩ := I.lstM hH
  obtain ⟨its2, r2, ⟨o2, e2, hc2, n2, hd2⟩, hz2⟩ := I.tuple hB
  obtain ⟨oc, od, odata, sl⟩ := o2
  simp only at hc2 hd2
  subst hc2 hd2
  have hl2 := r2.length
  have hsz : its.toArray.size + its2.toArray.size ≤ sizeLine := by rw [List.size_toArray, List.size_toArray]; omega
  have hlong : ¬ (!its.toArray.isEmpty && Builtin.List.listTooLong (its.toArray.size + its2.toArray.size)) = true := by
    rw [notLongL hsz, Bool.and_false]
    exact Bool.false_ne_true
  refine call_meets F.slot_list_extend ⟨_, e, rfl⟩ F.entry_list_extend (F.args_list_extend_2 _ _)
    (meets_extend_tup l its.toArray n b its2.toArray n2 od sl hlong (by rw [List.size_toArray]; omega) (by omega)) ⟨e, e2, ?_⟩
  refine ⟨.non, _, I.lset (its' := its ++ its2) hH e (by simp) (r.append r2) ?_, rfl, q⟩
  rw [List.length_append]
  omega
def lookD (kvs : List (Str × V)) (k : Str) : Option V := (kvs.find? fun kv => kv.1 = k).map (·.2)
inductive VPs : List (Str × V) → List (Str × Value) → Prop
  | nil : VPs [] []
  | cons {k : Str} {x : V} {v : Value} {r : List (Str × V)} {q : List (Str × Value)} : RelV x v → VPs r q → VPs ((k, x) :: r) ((k, v) :: q)
theorem VPs.look {kvs : List (Str × V)} {vs : List (Str × Value)} (h : VPs kvs vs) (k : Str) : (valueAt vs k).isSome = (lookD kvs k).isSome ∧ ∀ x, lookD kvs k = some x → ∃ v, valueAt vs k = some v ∧ RelV x v := by
  induction h with
  | nil => exact ⟨rfl, fun x e => nomatch e⟩
  | @cons k' x v r q rx _ ih =>
    unfold valueAt lookD at ih ⊢
    by_cases z : k' = k
    · simp only [List.find?_cons, z, decide_true, Option.map_some, Option.isSome_some]
      exact ⟨trivial, fun y e => ⟨v, rfl, by cases e; exact rx⟩⟩
    · simp only [List.find?_cons, z, decide_false]
      exact ih
end
section
variable {X : Cx} (P : Program) (w : World) (K : PySem.W.Frag)
theorem k_extT (hK : X.K = K := by rfl) : MtM X "list.extend" (rExtT K) := by subst hK; exact mt_extT
end
theorem s_chain {r r' : R2} {ta tb tc : TE} {σ : St} {H : Hp} {Q : VK} (h : ta σ H fun x H1 => tb σ H1 fun y H2 => r x y H2 fun z H3 => ∃ k, z = .bl k ∧ (if k = true then tc σ H3 fun w' H4 => r' y w' H4 Q else Q (.bl false) H3)) : tChain r r' ta tb tc σ H Q := h
inductive Ents (p : Params) : List DictEntry → List (Str × V) → Prop
  | nil : Ents p [] []
  | cons {k : Str} {t : Tok} {x : V} {v : Value} {r : List DictEntry} {q : List (Str × V)} : RelV x v → Ents p r q → Ents p (⟨PyData.keyHash p k, .str k t, v⟩ :: r) ((k, x) :: q)
end L2

set_option Elab.async false
set_option linter.all false
set_option maxRecDepth 100000
set_option maxHeartbeats 4000000
namespace L2
open PySem PySem.Spec PyProof.Rows
end L2

set_option Elab.async false
set_option linter.all false
set_option maxRecDepth 100000
set_option maxHeartbeats 4000000
namespace L2
open PySem PySem.Spec PyProof.Rows
structure Src0 (X : Cx) (pins : List (Addr × Obj)) (σ : St) (it : Addr) (n : Nat) (H0 : Hp) (J : Nat → List V → Hp → Heap → Prop) : Prop where
  ty : ∀ i ys H h, J i ys H h → ∃ o, h.get? it = some o ∧ o.cls = .type "list_reverseiterator"
  self : ∀ (A : Around) (s : Shared) (ys : List V) (H : Hp) (Q : Value → Shared → Prop) (E : Value → Shared → Prop), J 0 ys H s.heap → Q (.ref it) s → wpAny (model X.prog X.w) A (pyIter (.ref it)) Q E s
  keep : ∀ i ys H h h' S zs zs', H0 S = none → H S = some (.lst zs) → J i ys H h → (∀ b o, b ≠ S → h.get? b = some o → h'.get? b = some o) → (∃ o, h'.get? S = some o) → J i ys (upd H S (.lst zs')) h'
  fresh : ∀ i ys H h, J i ys H h → H it = none
  item : ∀ (A : Around) (i : Nat) (s : Shared) (H : Hp) (ys : List V) (E : Value → Shared → Prop), A.handled = none → i < n → Inv X pins σ H s → J i ys H s.heap →
    wpAny (model X.prog X.w) A (pyNext (.ref it)) (fun r s' => ∃ u x H', r = some u ∧ RelV x u ∧ Inv X pins σ H' s' ∧ J (i + 1) (ys ++ [x]) H' s'.heap ∧ ∀ S zs, H S = some (.lst zs) → H' S = some (.lst zs)) E s
  done : ∀ (A : Around) (s : Shared) (H : Hp) (ys : List V) (E : Value → Shared → Prop), A.handled = none → Inv X pins σ H s → J n ys H s.heap →
    wpAny (model X.prog X.w) A (pyNext (.ref it)) (fun r s' => r = none ∧ Inv X pins σ H s') E s
section
variable {X : Cx} {pins : List (Addr × Obj)} {σ : St} {it : Addr} {n : Nat} {H0 : Hp} {J : Nat → List V → Hp → Heap → Prop}
end

section
variable {X : Cx}
def tListRev (K : PySem.W.Frag) (ta : TA) : TE := fun σ H Q => ta σ H fun vs H1 => ∃ a xs, vs = [.ref a] ∧ SqL K H1 a xs ∧
  ∀ (S : Addr) (H2 : Hp), H1 S = none → Same H1 H2 → H2 S = some (.lst xs.reverse) → Q (.ref S) H2
theorem s_listrev {K : PySem.W.Frag} {ta : TA} {σ : St} {H : Hp} {Q : VK} (h : ta σ H fun vs H1 => ∃ a xs, vs = [.ref a] ∧ SqL K H1 a xs ∧ ∀ (S : Addr) (H2 : Hp), H1 S = none → Same H1 H2 → H2 S = some (.lst xs.reverse) → Q (.ref S) H2) : tListRev K ta σ H Q := h
theorem vals_pairs : ∀ {ns : List Int} {us : List Value}, Vals (ns.map V.int) us → ∃ xs : List (Int × Tok), us = xs.map (fun p => Value.int p.1 p.2) ∧ xs.map (·.1) = ns
  | [], _, .nil => ⟨[], rfl, rfl⟩
  | n :: ns, _, .cons r t => by
    obtain ⟨u, rfl⟩ := r
    obtain ⟨xs, e1, e2⟩ := vals_pairs t
    exact ⟨(n, u) :: xs, by rw [e1]; rfl, by simp [e2]⟩
end
end L2

set_option Elab.async false
set_option linter.all false
set_option maxRecDepth 100000
set_option maxHeartbeats 4000000
namespace L2
open PySem PySem.Spec PyProof.Rows
structure ZA (z TI TO i1 i2 : Addr) (fp1 fp2 : List Addr) : Prop where
  TIz : TI ≠ z
  TOz : TO ≠ z
  TITO : TI ≠ TO
  z1 : z ∉ fp1
  z2 : z ∉ fp2
  TI1 : TI ≠ i1
  TI2 : TI ≠ i2
  TO1 : TO ∉ fp1
  TO2 : TO ∉ fp2
  m1 : i1 ∈ fp1
  m2 : i2 ∈ fp2
  n1 : i1 ∉ fp2
  n2 : i2 ∉ fp1
theorem ZA.i1z {z TI TO i1 i2 : Addr} {fp1 fp2 : List Addr} (D : ZA z TI TO i1 i2 fp1 fp2) : i1 ≠ z := fun e => D.z1 (e ▸ D.m1)
theorem ZA.i2z {z TI TO i1 i2 : Addr} {fp1 fp2 : List Addr} (D : ZA z TI TO i1 i2 fp1 fp2) : i2 ≠ z := fun e => D.z2 (e ▸ D.m2)
theorem ZA.TOi1 {z TI TO i1 i2 : Addr} {fp1 fp2 : List Addr} (D : ZA z TI TO i1 i2 fp1 fp2) : TO ≠ i1 := fun e => D.TO1 (e ▸ D.m1)
theorem ZA.TOi2 {z TI TO i1 i2 : Addr} {fp1 fp2 : List Addr} (D : ZA z TI TO i1 i2 fp1 fp2) : TO ≠ i2 := fun e => D.TO2 (e ▸ D.m2)
theorem frame_but {prog : Program} {w : World} {A : Around} {it c : Addr} {fp : List Addr} {n i : Nat} {P : Nat → Value → Prop} {St : Nat → Heap → Prop} (D : Draws prog w A it fp n P St) {h h' : Heap} (st : St i h) (e : Heap.SameBut c h h') (hc : c ∉ fp) : St i h' :=
  D.frame i h h' st fun b hb o eo => e.extBut b o (fun z => hc (z ▸ hb)) eo
section
variable {prog : Program} {w : World} {A : Around} {E : Value → Shared → Prop} {s : Shared} {z TI TO i1 i2 : Addr} {fp1 fp2 : List Addr} {n1 n2 i : Nat} {P1 P2 : Nat → Value → Prop} {St1 St2 : Nat → Heap → Prop} {a b : Value}
theorem zipD_item {Q : Value → Shared → Prop} (D1 : Draws prog w A i1 fp1 n1 P1 St1) (D2 : Draws prog w A i2 fp2 n2 P2 St2) (D : ZA z TI TO i1 i2 fp1 fp2) (hz : IsZip s.heap z TI TO .none) (hTI : IsPair s.heap TI (.ref i1) (.ref i2)) (hTO : IsPair s.heap TO a b)
    (st1 : St1 i s.heap) (st2 : St2 i s.heap) (l1 : i < n1) (l2 : i < n2)
    (hQ : ∀ x y h' tk, P1 i x → P2 i y → IsZip h' z TI TO (rawInt s.heap.objs.size) → IsPair h' TO x y → St1 (i + 1) h' → St2 (i + 1) h' → IsPair h' s.heap.objs.size x y → h'.objs.size = s.heap.objs.size + 1 →
      (∀ c o, c ≠ z → c ≠ TO → c ≠ i1 → c ≠ i2 → s.heap.get? c = some o → h'.get? c = some o) → Q (.ref s.heap.objs.size) { s with heap := h', toks := tk }) :
    wpAny (model prog w) A (Builtin.«zip.__next__» ⟨[.ref z], []⟩) (fun fin s' => ∃ v, fin = .done (.ret v) ∧ Q v s') E s := by
  show wpAny _ _ (field (.ref z) 2 >>= _) _ _ s
  refine wpAny_bind (wpAny_field hz rfl (x := Value.bool false) rfl ?_)
  show wpAny _ _ (field (.ref z) 3 >>= _) _ _ s
  refine wpAny_bind (wpAny_field hz rfl (x := Value.ref TI) rfl (wpAny_bind (wpAny_seqItems hTI rfl ?_)))
  show wpAny _ _ (Builtin.SmallTypes.ownedTupleIsFree (.ref z) >>= _) _ _ s
  refine wpAny_bind ?_
  unfold Builtin.SmallTypes.ownedTupleIsFree
  refine wpAny_bind (wpAny_field hz rfl (x := Value.none) rfl (wpAny_pure ?_))
  simp only [if_true]
  refine wpAny_bind (wpAny_rule (wpAny_bind (wpAny_field hz rfl (x := Value.ref TO) rfl ?_)))
  refine wpAny_bind (wpAny_setField_rec hz (by simp) fun h₁ hz₁ e1 => ?_)
  replace hz₁ : IsZip h₁ z TI TO Value.ellipsis := hz₁
  refine wpAny_bind ?_
  simp only [List.zipIdx_cons, List.zipIdx_nil, List.forIn_cons, List.forIn_nil]
  refine wpAny_bind (wpAny_bind (wpAny_onRaise ?_))
  show wpAny _ _ (Builtin.SmallTypes.nextOf (.ref i1) >>= _) _ _ _
  refine wpAny_bind (D1.item i _ _ _ l1 (frame_but D1 st1 e1 D.z1) fun x h₂ tk₂ px s12 e2 => wpAny_pure ?_)
  replace e2 : Heap.SameBut i1 h₁ h₂ := e2
  have p2 : IsPair h₂ TO a b := e2.extBut _ _ D.TOi1 (e1.extBut _ _ D.TOz hTO)
  refine wpAny_bind (wpAny_seqItems p2 rfl (wpAny_bind (wpAny_updateSeq_pair p2 fun h₃ p3 e3 => ?_)))
  replace p3 : IsPair h₃ TO x b := p3
  replace e3 : Heap.SameBut TO h₂ h₃ := e3
  refine wpAny_bind (wpAny_letGo (wpAny_pure (wpAny_bind (wpAny_bind (wpAny_onRaise ?_)))))
  show wpAny _ _ (Builtin.SmallTypes.nextOf (.ref i2) >>= _) _ _ _
  have s22 : St2 i h₃ := frame_but D2 (frame_but D2 (frame_but D2 st2 e1 D.z2) e2 D.n1) e3 D.TO2
  refine wpAny_bind (D2.item i _ _ _ l2 s22 fun y h₄ tk₄ py s24 e4 => wpAny_pure ?_)
  replace e4 : Heap.SameBut i2 h₃ h₄ := e4
  have p4 : IsPair h₄ TO x b := e4.extBut _ _ D.TOi2 p3
  refine wpAny_bind (wpAny_seqItems p4 rfl (wpAny_bind (wpAny_updateSeq_pair p4 fun h₅ p5 e5 => ?_)))
  replace p5 : IsPair h₅ TO x y := p5
  replace e5 : Heap.SameBut TO h₄ h₅ := e5
  refine wpAny_bind (wpAny_letGo (wpAny_pure (wpAny_pure (wpAny_bind (wpAny_seqItems p5 rfl (wpAny_bind (wpAny_newTuple ?_)))))))
  have sz : h₅.objs.size = s.heap.objs.size := by rw [e5.1, e4.1, e3.1, e2.1, e1.1]
  have z5 : IsZip h₅ z TI TO Value.ellipsis := e5.extBut _ _ D.TOz.symm (e4.extBut _ _ D.i2z.symm (e3.extBut _ _ D.TOz.symm (e2.extBut _ _ D.i1z.symm hz₁)))
  have k5 : ∀ c o, c ≠ z → c ≠ TO → c ≠ i1 → c ≠ i2 → s.heap.get? c = some o → h₅.get? c = some o := fun c o c1 c2 c3 c4 e => e5.extBut _ _ c2 (e4.extBut _ _ c4 (e3.extBut _ _ c2 (e2.extBut _ _ c3 (e1.extBut _ _ c1 e))))
  have t1 : St1 (i + 1) h₅ := frame_but D1 (frame_but D1 (frame_but D1 s12 e3 D.TO1) e4 D.n2) e5 D.TO1
  have t2 : St2 (i + 1) h₅ := frame_but D2 s24 e5 D.TO2
  have zlt : z < h₅.objs.size := Heap.lt_size z5
  show wpAny _ _ (Builtin.SmallTypes.ownedTupleHandOut (.ref z) (.ref h₅.objs.size) >>= _) _ _ _
  refine wpAny_bind ?_
  unfold Builtin.SmallTypes.ownedTupleHandOut
  have z6 : IsZip (h₅.push { cls := .type "tuple", data := .seq #[x, y] }) z TI TO Value.ellipsis := Heap.get?_push_of_some _ z5
  refine wpAny_bind (wpAny_setField_rec z6 (by simp) fun h₇ z7 e7 => ?_)
  replace z7 : IsZip h₇ z TI TO (rawInt h₅.objs.size) := z7
  refine wpAny_setField_rec z7 (by simp) fun h₈ z8 e8 => ?_
  replace z8 : IsZip h₈ z TI TO (rawInt h₅.objs.size) := z8
  have up : ∀ c o, c ≠ z → h₅.get? c = some o → h₈.get? c = some o := fun c o c1 e => e8.extBut _ _ c1 (e7.extBut _ _ c1 (Heap.get?_push_of_some _ e))
  have t8 : IsPair h₈ h₅.objs.size x y := e8.extBut _ _ (Nat.ne_of_gt zlt) (e7.extBut _ _ (Nat.ne_of_gt zlt) (Heap.get?_push_size _ rfl))
  have sz8 : h₈.objs.size = h₅.objs.size + 1 := by rw [e8.1, e7.1, Heap.size_push]
  rw [sz] at z8 t8 sz8
  refine wpAny_pure ⟨_, rfl, ?_⟩
  show Q (.ref h₅.objs.size) _
  rw [sz]
  exact hQ x y h₈ tk₄ px py z8 (up _ _ D.TOz p5) (D1.frame _ _ _ t1 fun c hc o e => up c o (fun q => D.z1 (q ▸ hc)) e) (D2.frame _ _ _ t2 fun c hc o e => up c o (fun q => D.z2 (q ▸ hc)) e) t8 sz8 fun c o c1 c2 c3 c4 e => up c o c1 (k5 c o c1 c2 c3 c4 e)
theorem zipD_end {Q : Fin → Shared → Prop} (D1 : Draws prog w A i1 fp1 n1 P1 St1) (D2 : Draws prog w A i2 fp2 n2 P2 St2) (D : ZA z TI TO i1 i2 fp1 fp2) (hz : IsZip s.heap z TI TO .none) (hTI : IsPair s.heap TI (.ref i1) (.ref i2)) (hTO : IsPair s.heap TO a b)
    (st1 : St1 i s.heap) (st2 : St2 i s.heap) (hend : i = n1 ∨ (i < n1 ∧ i = n2))
    (hE : ∀ h' e tk, (∀ c o, c ≠ z → c ≠ TO → c ≠ i1 → c ≠ i2 → s.heap.get? c = some o → h'.get? c = some o) → (∃ o, h'.get? e = some o ∧ o.cls = .type "StopIteration") → E (.ref e) { s with heap := h', toks := tk }) :
    wpAny (model prog w) A (Builtin.«zip.__next__» ⟨[.ref z], []⟩) Q E s := by
  show wpAny _ _ (field (.ref z) 2 >>= _) _ _ s
  refine wpAny_bind (wpAny_field hz rfl (x := Value.bool false) rfl ?_)
  show wpAny _ _ (field (.ref z) 3 >>= _) _ _ s
  refine wpAny_bind (wpAny_field hz rfl (x := Value.ref TI) rfl (wpAny_bind (wpAny_seqItems hTI rfl ?_)))
  show wpAny _ _ (Builtin.SmallTypes.ownedTupleIsFree (.ref z) >>= _) _ _ s
  refine wpAny_bind ?_
  unfold Builtin.SmallTypes.ownedTupleIsFree
  refine wpAny_bind (wpAny_field hz rfl (x := Value.none) rfl (wpAny_pure ?_))
  simp only [if_true]
  refine wpAny_bind (wpAny_rule (wpAny_bind (wpAny_field hz rfl (x := Value.ref TO) rfl ?_)))
  refine wpAny_bind (wpAny_setField_rec hz (by simp) fun h₁ hz₁ e1 => ?_)
  replace hz₁ : IsZip h₁ z TI TO Value.ellipsis := hz₁
  refine wpAny_bind ?_
  simp only [List.zipIdx_cons, List.zipIdx_nil, List.forIn_cons, List.forIn_nil]
  refine wpAny_bind (wpAny_bind (wpAny_onRaise ?_))
  show wpAny _ _ (Builtin.SmallTypes.nextOf (.ref i1) >>= _) _ _ _
  rcases hend with rfl | ⟨l1, rfl⟩
  · refine wpAny_bind (D1.done _ _ _ (frame_but D1 st1 e1 D.z1) fun h₂ e e2 he => ?_)
    obtain ⟨oe, hoe, hce⟩ := he
    replace e2 : Heap.ExtBut i1 h₁ h₂ := e2
    have z2 : IsZip h₂ z TI TO Value.ellipsis := e2 _ _ D.i1z.symm hz₁
    have hez : e ≠ z := fun x => by subst x; rw [z2] at hoe; cases hoe; simp at hce
    refine wpAny_setField_rec z2 (by simp) fun h₃ _ e3 => hE h₃ e s.toks (fun c o c1 _ c3 _ x => e3.extBut _ _ c1 (e2 _ _ c3 (e1.extBut _ _ c1 x))) ⟨oe, e3.extBut _ _ hez hoe, hce⟩
  · refine wpAny_bind (D1.item i _ _ _ l1 (frame_but D1 st1 e1 D.z1) fun x h₂ tk₂ px s12 e2 => wpAny_pure ?_)
    replace e2 : Heap.SameBut i1 h₁ h₂ := e2
    have p2 : IsPair h₂ TO a b := e2.extBut _ _ D.TOi1 (e1.extBut _ _ D.TOz hTO)
    refine wpAny_bind (wpAny_seqItems p2 rfl (wpAny_bind (wpAny_updateSeq_pair p2 fun h₃ p3 e3 => ?_)))
    replace e3 : Heap.SameBut TO h₂ h₃ := e3
    refine wpAny_bind (wpAny_letGo (wpAny_pure (wpAny_bind (wpAny_bind (wpAny_onRaise ?_)))))
    show wpAny _ _ (Builtin.SmallTypes.nextOf (.ref i2) >>= _) _ _ _
    have s22 : St2 i h₃ := frame_but D2 (frame_but D2 (frame_but D2 st2 e1 D.z2) e2 D.n1) e3 D.TO2
    refine wpAny_bind (D2.done _ _ _ s22 fun h₄ e e4 he => ?_)
    obtain ⟨oe, hoe, hce⟩ := he
    replace e4 : Heap.ExtBut i2 h₃ h₄ := e4
    have z4 : IsZip h₄ z TI TO Value.ellipsis := e4 _ _ D.i2z.symm (e3.extBut _ _ D.TOz.symm (e2.extBut _ _ D.i1z.symm hz₁))
    have hez : e ≠ z := fun x => by subst x; rw [z4] at hoe; cases hoe; simp at hce
    refine wpAny_setField_rec z4 (by simp) fun h₅ _ e5 => hE h₅ e tk₂ (fun c o c1 c2 c3 c4 x => e5.extBut _ _ c1 (e4 _ _ c4 (e3.extBut _ _ c2 (e2.extBut _ _ c3 (e1.extBut _ _ c1 x))))) ⟨oe, e5.extBut _ _ hez hoe, hce⟩
theorem zipD_next {Q : Option Value → Shared → Prop} (D1 : Draws prog w A.in1 i1 fp1 n1 P1 St1) (D2 : Draws prog w A.in1 i2 fp2 n2 P2 St2) (D : ZA z TI TO i1 i2 fp1 fp2) (hz : IsZip s.heap z TI TO .none) (hTI : IsPair s.heap TI (.ref i1) (.ref i2)) (hTO : IsPair s.heap TO a b)
    (st1 : St1 i s.heap) (st2 : St2 i s.heap) (l1 : i < n1) (l2 : i < n2)
    (hQ : ∀ x y h' tk, P1 i x → P2 i y → IsZip h' z TI TO (rawInt s.heap.objs.size) → IsPair h' TO x y → St1 (i + 1) h' → St2 (i + 1) h' → IsPair h' s.heap.objs.size x y → h'.objs.size = s.heap.objs.size + 1 →
      (∀ c o, c ≠ z → c ≠ TO → c ≠ i1 → c ≠ i2 → s.heap.get? c = some o → h'.get? c = some o) → Q (some (.ref s.heap.objs.size)) { s with heap := h', toks := tk }) :
    wpAny (model prog w) A (pyNext (.ref z)) Q E s := by
  have hT : s.TypeIs (.ref z) "zip" := ⟨_, hz, rfl⟩
  unfold pyNext
  exact wpAny_bind (wpAny_attempt (wpAny_callSpecial?_slot (name := Str.ofString "__next__") hT PySem.F.slot_zip_next
    (wpAny_call_entry PySem.F.slot_zip_next hT PySem.F.entry_zip_next (zipD_item D1 D2 D hz hTI hTO st1 st2 l1 l2 fun x y h' tk a1 a2 a3 a4 a5 a6 a7 a8 a9 => wpAny_pure (hQ x y h' tk a1 a2 a3 a4 a5 a6 a7 a8 a9)) (PySem.F.args_zip_next_1 _))))
theorem zipD_stop {Q : Option Value → Shared → Prop} (D1 : Draws prog w A.in1 i1 fp1 n1 P1 St1) (D2 : Draws prog w A.in1 i2 fp2 n2 P2 St2) (D : ZA z TI TO i1 i2 fp1 fp2) (hz : IsZip s.heap z TI TO .none) (hTI : IsPair s.heap TI (.ref i1) (.ref i2)) (hTO : IsPair s.heap TO a b)
    (st1 : St1 i s.heap) (st2 : St2 i s.heap) (hend : i = n1 ∨ (i < n1 ∧ i = n2))
    (hQ : ∀ h' tk, (∀ c o, c ≠ z → c ≠ TO → c ≠ i1 → c ≠ i2 → s.heap.get? c = some o → h'.get? c = some o) → Q none { s with heap := h', toks := tk }) : wpAny (model prog w) A (pyNext (.ref z)) Q E s := by
  have hT : s.TypeIs (.ref z) "zip" := ⟨_, hz, rfl⟩
  unfold pyNext
  refine wpAny_bind (wpAny_attempt (wpAny_callSpecial?_slot (name := Str.ofString "__next__") hT PySem.F.slot_zip_next
    (wpAny_call_entry PySem.F.slot_zip_next hT PySem.F.entry_zip_next (zipD_end D1 D2 D hz hTI hTO st1 st2 hend fun h' e tk hk he => ?_) (PySem.F.args_zip_next_1 _))))
  obtain ⟨o, ho, hc⟩ := he
  exact wpAny_bind (wpAny_isInstance (T := "StopIteration") (b := true) ⟨o, ho, hc⟩ isSubtype_stop (wpAny_pure (hQ _ _ hk)))
end
abbrev tit (l : Addr) : Obj := { cls := .type "tuple_iterator", data := .fields #[.ref l, .int 0 0] }
abbrev zt1 (h : Heap) (l1 : Addr) : Heap := h.push (tit l1)
section
variable {prog : Program} {w : World} {A : Around} {E : Value → Shared → Prop} {s : Shared}
end
section
variable {X : Cx} {pins : List (Addr × Obj)} {σ : St} {H : Hp} {s : Shared} {h' : Heap}
theorem Inv.turnedL {t' : Nat} {fp : List Addr} (I : Inv X pins σ H s) (k : ∀ b o, b ∉ fp → s.heap.get? b = some o → h'.get? b = some o) (f : ∀ b ∈ fp, FpOk X pins H b) : Inv X pins σ H { s with heap := h', toks := t' } := by
  have nit : ∀ b u, H b = some u → b ∉ fp := fun b u e hb => by rw [(f b hb).1] at e; exact nomatch e
  refine I.step (g' := s.gens) (d' := s.drawn) (ch := fp) (fun b hb => ?_) (fun b o _ _ hc e _ => k b o hc e) (fun b o _ _ hc e _ => ⟨o.slots, k b o hc e⟩) (fun _ _ _ _ n => n)
    (fun b o hc e => ⟨o, k b o hc e⟩) (fun _ _ e => e) (fun _ _ _ e => e) (fun b ps e => ⟨#[], by rw [e]; simp⟩) (fun m hm => ?_) (fun b u e => ?_) I.bare
  · obtain ⟨n1, l1, _, e1, c1, p1⟩ := f b hb
    exact ⟨e1, l1, c1, p1⟩
  · obtain ⟨o, es, ep, ho, r⟩ := hm
    exact ⟨o, es, ep, k _ o (fun hb => (f _ hb).2.1 rfl) ho, r⟩
  · refine (I.hok b u e).stay (fun c v hc q => k c v ?_ q) (fun _ q => q) fun _ _ q => q
    rcases hc with z | z
    · rw [z]; exact nit b u e
    · exact nit c _ z
theorem Inv.pairL {tk : Nat} {fp : List Addr} {T : Addr} {xs : List V} {its : List Value} (I : Inv X pins σ H s) (f : ∀ b ∈ fp, FpOk X pins H b)
    (kk : ∀ b o, b ∉ fp → s.heap.get? b = some o → h'.get? b = some o) (hT : s.heap.objs.size ≤ T) (rv : Vals xs its) (hz : xs.length ≤ sizeLine) (ht : h'.IsTuple T its.toArray) : Inv X pins σ (upd H T (.tup xs)) { s with heap := h', toks := tk } := by
  have hf : H T = none := I.hok.fresh hT
  have I1 : Inv X pins σ H { s with heap := h', toks := tk } := I.turnedL kk f
  have hokN : HOk X.prog X.w (upd H T (.tup xs)) h' := fun b o e => by
    by_cases hb : b = T
    · subst hb
      rw [upd_same] at e
      cases e
      exact ⟨hz, its, rv, ht⟩
    · rw [upd_ne hb] at e
      refine (I1.hok b o e).stay (fun c v _ q => q) (fun c q => ?_) fun c zs q => ?_
      · rw [upd_ne (ne_of_none q hf)]; exact q
      · rw [upd_ne (ne_of_none q hf)]; exact q
  have u : Un (frs X.stack) fp H (upd H T (.tup xs)) s.heap h' := {
    keep := fun b o e n _ hx => kk b o hx e
    slot := fun b o e n _ hx => ⟨o.slots, kk b o hx e⟩
    free := fun b o e n _ => by rw [upd_ne (Nat.ne_of_lt (Nat.lt_of_lt_of_le (Heap.lt_size e) hT))]; exact n
    there := fun b o e hx => ⟨o, kk b o hx e⟩
    tups := fun b zs e => by rw [upd_ne (ne_of_none e hf)]; exact e
    frzs := fun b o u e => by rw [upd_ne (ne_of_none e hf)]; exact e
    tbls := fun b ps e => ⟨#[], by rw [upd_ne (ne_of_none e hf), e]; simp⟩ }
  refine I.call (g' := s.gens) (d' := s.drawn) (t' := tk) u hokN I.bare fun b hb => ?_
  obtain ⟨n1, l1, _, e1, c1, p1⟩ := f b hb
  exact ⟨e1, l1, c1, p1⟩
end
def Itz (K : PySem.W.Frag) (a b : Addr) : It :=
  ⟨fun i H => ∃ xs ys, SqT K H a xs ∧ SqT K H b ys ∧ i < xs.length ∧ i < ys.length,
   fun i H x H' => ∃ (t : Addr) (y z : V), H t = none ∧ (∀ xs, SqT K H a xs → xs[i]? = some y) ∧ (∀ ys, SqT K H b ys → ys[i]? = some z) ∧ x = .ref t ∧ H' = upd H t (.tup [y, z]),
   fun i H => ∃ xs ys, SqT K H a xs ∧ SqT K H b ys ∧ i = min xs.length ys.length⟩
structure ZB (z TI TO i1 i2 a b : Addr) : Prop where
  TIz : TI ≠ z
  TOz : TO ≠ z
  TITO : TI ≠ TO
  i1z : i1 ≠ z
  i2z : i2 ≠ z
  TI1 : TI ≠ i1
  TI2 : TI ≠ i2
  TO1 : TO ≠ i1
  TO2 : TO ≠ i2
  i12 : i1 ≠ i2
  az : a ≠ z
  aTO : a ≠ TO
  a1 : a ≠ i1
  a2 : a ≠ i2
  bz : b ≠ z
  bTO : b ≠ TO
  b1 : b ≠ i1
  b2 : b ≠ i2
theorem ZB.za {z TI TO i1 i2 a b : Addr} (D : ZB z TI TO i1 i2 a b) : ZA z TI TO i1 i2 [i1, a] [i2, b] where
  TIz := D.TIz
  TOz := D.TOz
  TITO := D.TITO
  z1 := by simp [D.i1z.symm, D.az.symm]
  z2 := by simp [D.i2z.symm, D.bz.symm]
  TI1 := D.TI1
  TI2 := D.TI2
  TO1 := by simp [D.TO1, D.aTO.symm]
  TO2 := by simp [D.TO2, D.bTO.symm]
  m1 := by simp
  m2 := by simp
  n1 := by simp [D.i12, D.b1.symm]
  n2 := by simp [D.i12.symm, D.a2.symm]
theorem zb_new {n a b : Nat} (h1 : a < n) (h2 : b < n) : ZB (n + 4) (n + 2) (n + 3) n (n + 1) a b := by
  have f : ∀ i j : Nat, i ≠ j → n + i ≠ n + j := fun i j h e => h (Nat.add_left_cancel e)
  have g : ∀ i : Nat, a ≠ n + i := fun i e => absurd h1 (by rw [e]; exact Nat.not_lt.mpr (Nat.le_add_right _ _))
  have g' : ∀ i : Nat, b ≠ n + i := fun i e => absurd h2 (by rw [e]; exact Nat.not_lt.mpr (Nat.le_add_right _ _))
  exact ⟨f 2 4 (by decide), f 3 4 (by decide), f 2 3 (by decide), f 0 4 (by decide), f 1 4 (by decide), f 2 0 (by decide), f 2 1 (by decide), f 3 0 (by decide), f 3 1 (by decide), f 0 1 (by decide), g 4, g 3, g 0, g 1, g' 4, g' 3, g' 0, g' 1⟩
section
variable {X : Cx}
def iZip (K : PySem.W.Frag) (ta : TA) : TI := fun σ H R => ta σ H fun vs H1 => ∃ a b xs ys, vs = [.ref a, .ref b] ∧ SqT K H1 a xs ∧ SqT K H1 b ys ∧ R (Itz K a b) H1
theorem s_izip {K : PySem.W.Frag} {ta : TA} {σ : St} {H : Hp} {R : It → Hp → Prop} (h : ta σ H fun vs H1 => ∃ a b xs ys, vs = [.ref a, .ref b] ∧ SqT K H1 a xs ∧ SqT K H1 b ys ∧ R (Itz K a b) H1) : iZip K ta σ H R := h
end
end L2

set_option Elab.async false
set_option linter.all false
set_option maxRecDepth 100000
set_option maxHeartbeats 4000000
namespace L2
open PySem PySem.Spec PyProof.Rows
theorem tuple_whole {prog : Program} {w : World} {A : Around} {E : Value → Shared → Prop} {s : Shared} {t sl : Addr} {items : Array Value} {vl vu : Value} {lo hi : Option Int} {Q : Value → Shared → Prop} (ht : IsTup s.heap t items) (hs : s.heap.IsSliceOf sl vl vu .none) (pl : IsPart vl lo) (pu : IsPart vu hi)
    (hw : HT.sIx items.size 0 lo = 0 ∧ HT.sIx items.size items.size hi = items.size) (h : Q (.ref t) s) : wpAny (model prog w) A (getItem (.ref t) (.ref sl)) Q E s := by
  obtain ⟨os, hos, hcs, hds⟩ := id hs
  have hTs : s.TypeIs (.ref sl) "slice" := ⟨os, hos, hcs⟩
  unfold getItem
  try with_reducible refine wpAny_holding ?_
  first | refine wpAny_bind (wpAny_pure ?_) | skip
  refine wpAny_bind (wpAny_sequenceKey ht.typeIs (by decide) ?_)
  refine wpAny_bind (wpAny_callSpecial?_slot (name := Str.ofString "__getitem__") ht.typeIs PyProof.Rows.slot_tuple_getitem
    (wpAny_call_entry PyProof.Rows.slot_tuple_getitem ht.typeIs PyProof.Rows.entry_tuple_getitem ?_ (PyProof.Rows.args_tuple_getitem _ _)))
  show wpAny _ _ (Builtin.Tuple.tupleItemsOf (.ref t) >>= _) _ _ s
  refine wpAny_bind (PyProof.Rows.tupleItemsOf_ ht ?_)
  refine wpAny_bind (wpAny_typeOf hTs ?_)
  rw [if_pos (by decide)]
  refine wpAny_bind (HT.sliceApplied_gen hs pl pu ?_)
  have hyes : (((HT.sIx items.size 0 lo : Nat) : Int) == 0 && (1 : Int) == 1 && (HT.sIx items.size items.size hi - HT.sIx items.size 0 lo) == items.size) = true := by
    rw [hw.1, hw.2]
    simp
  show wpAny _ _ (if (((HT.sIx items.size 0 lo : Nat) : Int) == 0 && (1 : Int) == 1 && (HT.sIx items.size items.size hi - HT.sIx items.size 0 lo) == items.size) = true then _ else _) _ _ s
  rw [if_pos hyes]
  refine wpAny_bind (m := Builtin.Tuple.tupleIsExact (.ref t)) ?_
  unfold Builtin.Tuple.tupleIsExact
  refine wpAny_bind (wpAny_typeOf ht.typeIs (wpAny_pure ?_))
  rw [if_pos (by decide)]
  refine wpAny_bind (wpAny_rule ?_)
  exact wpAny_pure ⟨_, rfl, wpAny_pure h⟩
def rSlU (K : PySem.W.Frag) : V → Option Int → Option Int → Hp → VK → Prop := fun x lo hi H Q => ∃ a xs, x = .ref a ∧ SqT K H a xs ∧ ∀ r H', Same H H' → SqT K H' r (cutV xs lo hi) → Q (.ref r) H'
theorem sl_tupA {X : Cx} : SlR X (rSlU X.K) := by
  intro pins s σ H x v vl vu lo hi sl Q I rx hs pl pu h
  obtain ⟨a, xs, rfl, hx, q⟩ := h
  by_cases hw : HT.sIx xs.length 0 lo = 0 ∧ HT.sIx xs.length xs.length hi = xs.length
  · cases rx
    obtain ⟨its, r, ht, hz⟩ := I.tuple hx
    have hlen : its.toArray.size = xs.length := by rw [List.size_toArray]; exact r.length.symm
    refine ⟨"tuple", _, PyProof.Rows.slot_tuple_getitem.lookup, ht.typeIs, ?_⟩
    refine tuple_whole ht hs pl pu (by rw [hlen]; exact hw) ⟨.ref a, H, I, rfl, q a H (Same.refl H) ?_⟩
    have e : cutV xs lo hi = xs := by unfold cutV; rw [hw.1, hw.2]; simp
    rw [e]
    exact hx
  · exact sl_tup pins s σ H _ v vl vu lo hi sl Q I rx hs pl pu ⟨a, xs, rfl, hx, hw, fun p hp => q p _ (Same.upd hp) (.of upd_same)⟩
def rSlB (K : PySem.W.Frag) : V → Option Int → Option Int → Hp → VK → Prop := fun x lo hi H Q => rSlL K x lo hi H Q ∨ rSlS x lo hi H Q ∨ rSlU K x lo hi H Q
theorem k_slB {X : Cx} (K : PySem.W.Frag) (hK : X.K = K := by rfl) : SlR X (rSlB K) := by subst hK; exact sl_list.or (sl_str.or sl_tupA)
theorem s_slb_tup {K : PySem.W.Frag} {a : Addr} {xs : List V} {lo hi : Option Int} {H : Hp} {Q : VK} (ha : SqT K H a xs) (h : ∀ r H', Same H H' → SqT K H' r (cutV xs lo hi) → Q (.ref r) H') : rSlB K (.ref a) lo hi H Q := .inr (.inr ⟨a, xs, rfl, ha, h⟩)
theorem s_aug {i : Nat} {te : TE} {ti : TIp} {D : Ends} {σ : St} {H : Hp} {x : V} (e : σ[i]? = some (some x)) (h : te σ H fun y H1 => ti x y H1 fun z H2 => D.nx (σ.set i (some z)) H2) : tAug i te ti D σ H := ⟨x, e, h⟩
theorem s_ipI {g : Int → Int → Int} {i j : Int} {H : Hp} {Q : VK} (h : Q (.int (g i j)) H) : ipI g (.int i) (.int j) H Q := ⟨i, j, rfl, rfl, h⟩
theorem cutV_to (xs : List V) (k : Nat) : cutV xs none (some (k : Int)) = xs.take k := by
  unfold cutV
  rw [HT.sIx_none, HT.sIx_nat, Nat.sub_zero, List.drop_zero]
  by_cases h : k ≤ xs.length
  · rw [Nat.min_eq_left h]
  · rw [Nat.min_eq_right (by omega), List.take_of_length_le (Nat.le_refl _), List.take_of_length_le (by omega)]
theorem cutV_from (xs : List V) (k : Nat) : cutV xs (some (k : Int)) none = xs.drop k := by
  unfold cutV
  rw [HT.sIx_none, HT.sIx_nat]
  by_cases h : k ≤ xs.length
  · rw [Nat.min_eq_left h, List.take_of_length_le (by simp)]
  · rw [Nat.min_eq_right (by omega), List.drop_of_length_le (Nat.le_refl _), List.drop_of_length_le (by omega)]
    simp
end L2

set_option Elab.async false
set_option linter.all false
set_option maxRecDepth 100000
set_option maxHeartbeats 4000000
namespace L2
open PySem PySem.Spec PyProof.Rows
structure Mvd (fs xs : List Addr) (h h' : Heap) : Prop where
  keep : ∀ b o, b ∉ xs → b ∉ fs → h.get? b = some o → h'.get? b = some o
  slot : ∀ b o, b ∉ xs → h.get? b = some o → ∃ sl, h'.get? b = some { o with slots := sl }
theorem Mvd.trans {fs xs : List Addr} {h h1 h2 : Heap} (a : Mvd fs xs h h1) (b : Mvd fs xs h1 h2) : Mvd fs xs h h2 :=
  ⟨fun c o n1 n2 e => b.keep c o n1 n2 (a.keep c o n1 n2 e), fun c o n e => by
    obtain ⟨sl, e1⟩ := a.slot c o n e
    obtain ⟨sl', e2⟩ := b.slot c _ n e1
    exact ⟨sl', e2⟩⟩
theorem Mvd.mono {fs xs ys : List Addr} {h h1 : Heap} (a : Mvd fs xs h h1) (s : ∀ b ∈ xs, b ∈ ys) : Mvd fs ys h h1 :=
  ⟨fun c o n1 n2 e => a.keep c o (fun z => n1 (s c z)) n2 e, fun c o n e => a.slot c o (fun z => n (s c z)) e⟩
theorem Mvd.upd {fs : List Addr} {h : Heap} {a : Addr} (f : Obj → Obj) : Mvd fs [a] h (h.update a f) :=
  ⟨fun c o n _ e => by rw [Heap.get?_update_other _ _ (fun z => n (by simp [z]))]; exact e, fun c o n e => ⟨o.slots, by rw [Heap.get?_update_other _ _ (fun z => n (by simp [z]))]; exact e⟩⟩
theorem Mvd.push {fs xs : List Addr} {h : Heap} (o : Obj) : Mvd fs xs h (h.push o) := ⟨fun _ _ _ _ e => Heap.get?_push_of_some _ e, fun _ o _ e => ⟨o.slots, Heap.get?_push_of_some _ e⟩⟩
theorem Mvd.fun {fs xs : List Addr} {h h1 base : Heap} {l : List Env} (a : Mvd fs xs h h1) (hl : h.FunFrames base l) (nx : ∀ b ∈ xs, ∃ o vs, h.get? b = some o ∧ o.data = .fields vs) : h1.FunFrames base l :=
  hl.of_keeps fun b o e hd => by
    obtain ⟨sl, e1⟩ := a.slot b o (fun z => by
      obtain ⟨o', vs, e', d'⟩ := nx b z
      rw [e] at e'
      cases e'
      exact hd vs d') e
    exact ⟨_, e1, rfl⟩
def LiesF (h : Heap) (e T : Addr) (cls : Value) (od : Option Addr) (fl : Value) : Prop :=
  ∃ oe vs oT ts, h.get? e = some oe ∧ oe.cls = cls ∧ oe.dict = od ∧ oe.data = .fields vs ∧ vs[1]? = some (.ref T) ∧ T ≠ e ∧ h.get? T = some oT ∧ oT.data = .fields ts ∧ ts[3]? = some fl
abbrev Lies (h : Heap) (e T : Addr) (cls : Value) (od : Option Addr) : Prop := LiesF h e T cls od .none
theorem LiesF.keeps {h h' : Heap} {e T : Addr} {cls fl : Value} {od : Option Addr} (x : LiesF h e T cls od fl) (k1 : ∀ o, h.get? e = some o → h'.get? e = some o) (k2 : ∀ o, h.get? T = some o → h'.get? T = some o) : LiesF h' e T cls od fl := by
  obtain ⟨oe, vs, oT, ts, a1, a2, a3, a4, a5, a6, a7, a8, a9⟩ := x
  exact ⟨oe, vs, oT, ts, k1 _ a1, a2, a3, a4, a5, a6, k2 _ a7, a8, a9⟩
def Made (h : Heap) (e : Addr) (cls : Value) (od : Option Addr) : Prop := ∃ oe vs, h.get? e = some oe ∧ oe.cls = cls ∧ oe.dict = od ∧ oe.data = .fields vs ∧ vs[1]? = some .none
section
variable {M : Model} {A : Around} {E : Value → Shared → Prop} {s : Shared}
theorem entry_at {base : Heap} {env : Env} {outer : List Env} {L e : Addr} {oe : Obj} {vs : Array Value} {head : Value} {hadNext : Bool} {Q : Unit → Shared → Prop}
    (hfr : A.frames = some (env :: outer)) (hl : s.heap.FunFrames base (env :: outer)) (hf : env.frame = some L) (he : s.heap.get? e = some oe) (hd : oe.data = .fields vs) (hsz : 1 < vs.size)
    (h : ∀ h' T, s.heap.objs.size ≤ T → LiesF h' e T oe.cls oe.dict (rawInt L) → Mvd (frs (env :: outer)) [e] s.heap h' → Q () { s with heap := h' }) :
    wpAny M A (do let a ← frameOf env; let pl ← entryPlaceOf L hadNext; let b ← EntryCells.newEntry head a .none (rawInt L) .none pl; setField (.ref e) 1 b) Q E s := by
  have hene : e ∉ frs (env :: outer) := fun hm => by
    obtain ⟨_, o, ho, hnf⟩ := hl.mem hm
    rw [he] at ho
    cases ho
    exact hnf vs hd
  refine wpAny_bind (wpAny_frameOf_fun hfr hl hf fun h₁ s1 => ?_)
  refine wpAny_bind (wpAny_entryPlaceOf fun pl hpl => ?_)
  unfold EntryCells.newEntry newFields
  refine wpAny_bind (wpAny_newObj_type ?_ (hpl.sizeOk5 _ _ _ _ _))
  have e1 : h₁.get? e = some oe := (s1.2.1 e hene).trans he
  generalize hoT : ({ cls := .type "traceback", dict := none, data := .fields ([head, .ref L, .none, rawInt L, .none] ++ (if pl.isEmpty then List.replicate 6 Value.none else pl)).toArray } : Obj) = oT
  have e2 : (h₁.push oT).get? e = some oe := Heap.get?_push_of_some _ e1
  refine wpAny_setField e2 hd hsz (h _ h₁.objs.size (by rw [s1.1]; exact Nat.le_refl _) ?_ ?_)
  · have nT : h₁.objs.size ≠ e := Nat.ne_of_gt (Heap.lt_size e1)
    have d3 := Obj.data_mapFields hd (·.setIfInBounds 1 (Value.ref h₁.objs.size))
    have e3 := Heap.get?_update_self (Obj.mapFields (·.setIfInBounds 1 (Value.ref h₁.objs.size))) e2 (Obj.isFreed_of_fields d3)
    have fT : oT.isFreed = false := by rw [← hoT]; rfl
    have e4 := (Heap.get?_update_other (h₁.push oT) (Obj.mapFields (·.setIfInBounds 1 (Value.ref h₁.objs.size))) (Ne.symm nT)).trans (Heap.get?_push_size h₁ fT)
    refine ⟨_, _, _, _, e3, Obj.cls_mapFields _ _, ?_, d3, by simp [hsz], nT, e4, by rw [← hoT], ?_⟩
    · obtain ⟨c0, d0, t0, s0⟩ := oe
      cases t0 <;> rfl
    · first | (simp; done) | (rcases hpl with rfl | ⟨_, _, _, _, _, _, _, rfl⟩ <;> simp)
  · have m1 : Mvd (frs (env :: outer)) [e] s.heap h₁ := ⟨fun b o _ n e => (s1.2.1 b n).trans e, fun b o _ e => s1.2.2 b o e⟩
    exact (m1.trans (Mvd.push oT)).trans (Mvd.upd _)
theorem flight_none {e T : Addr} {cls fl : Value} {od : Option Addr} {fs : List Addr} {Q : Unit → Shared → Prop} (x : LiesF s.heap e T cls od fl) (h : ∀ h', Lies h' e T cls od → Mvd fs [T] s.heap h' → Q () { s with heap := h' }) : wpAny M A (setFlight (.ref e) none) Q E s := by
  obtain ⟨oe, vs, oT, ts, a1, a2, a3, a4, a5, a6, a7, a8, a9⟩ := x
  have hz : 3 < ts.size := (Array.getElem?_eq_some_iff.mp a9).1
  unfold setFlight
  refine wpAny_bind (wpAny_field a1 a4 a5 ?_)
  rw [if_pos (show (Value.ref T != Value.none) = true from by simp)]
  refine wpAny_setField a7 a8 hz (h _ ?_ (Mvd.upd _))
  have d := Obj.data_mapFields a8 (·.setIfInBounds 3 ((none : Option Addr).elim Value.none fun f => rawInt f))
  exact ⟨oe, vs, _, _, by rw [Heap.get?_update_other _ _ a6]; exact a1, a2, a3, a4, a5, a6, Heap.get?_update_self _ a7 (Obj.isFreed_of_fields d), d, by simp [hz]⟩
theorem note_first {base : Heap} {env : Env} {outer : List Env} {L e : Addr} {cls : Value} {od : Option Addr} {Q : Unit → Shared → Prop}
    (hfr : A.frames = some (env :: outer)) (hl : s.heap.FunFrames base (env :: outer)) (hf : env.frame = some L) (x : Made s.heap e cls od)
    (h : ∀ h' T, s.heap.objs.size ≤ T → LiesF h' e T cls od (rawInt L) → Mvd (frs (env :: outer)) [e] s.heap h' → Q () { s with heap := h' }) : wpAny M A (noteFrame (.ref e) env) Q E s := by
  obtain ⟨oe, vs, he, rfl, rfl, hd, h1⟩ := x
  unfold noteFrame
  simp only [hf]
  refine wpAny_bind (wpAny_field he hd h1 ?_)
  rw [if_neg (by decide)]
  exact entry_at hfr hl hf he hd (Array.getElem?_eq_some_iff.mp h1).1 h
theorem note_next {base : Heap} {env : Env} {outer : List Env} {L e T : Addr} {cls : Value} {od : Option Addr} {Q : Unit → Shared → Prop}
    (hfr : A.frames = some (env :: outer)) (hl : s.heap.FunFrames base (env :: outer)) (hf : env.frame = some L) (x : Lies s.heap e T cls od)
    (h : ∀ h' T', s.heap.objs.size ≤ T' → LiesF h' e T' cls od (rawInt L) → Mvd (frs (env :: outer)) [e, T] s.heap h' → Q () { s with heap := h' }) : wpAny M A (noteFrame (.ref e) env) Q E s := by
  obtain ⟨oe, vs, oT, ts, he, rfl, rfl, hd, h1, nT, hT, dT, h3⟩ := x
  unfold noteFrame
  simp only [hf]
  refine wpAny_bind (wpAny_field he hd h1 ?_)
  rw [if_pos (show (Value.ref T != Value.none) = true from by simp)]
  refine wpAny_bind (wpAny_field hT dT h3 ?_)
  rw [if_neg (show ¬ ((Value.none == rawInt L) = true) from by simp [rawInt])]
  refine wpAny_bind (wpAny_setField hT dT (Array.getElem?_eq_some_iff.mp h3).1 ?_)
  have m1 : Mvd (frs (env :: outer)) [T] s.heap (s.heap.update T (Obj.mapFields (·.setIfInBounds 3 Value.none))) := Mvd.upd _
  have he' : (s.heap.update T (Obj.mapFields (·.setIfInBounds 3 Value.none))).get? e = some oe := (Heap.get?_update_other _ _ nT).trans he
  refine entry_at hfr (m1.fun hl fun b hb => by rw [List.mem_singleton.mp hb]; exact ⟨oT, ts, hT, dT⟩) hf he' hd (Array.getElem?_eq_some_iff.mp h1).1 fun h' T' hz x m => ?_
  refine h h' T' ?_ x ((m1.mono (by simp)).trans (m.mono (by simp)))
  have : (s.heap.update T (Obj.mapFields (·.setIfInBounds 3 Value.none))).objs.size = s.heap.objs.size := Heap.size_after_update ..
  have hz : (s.heap.update T (Obj.mapFields (·.setIfInBounds 3 Value.none))).objs.size ≤ T' := hz
  omega
theorem leave_first {base : Heap} {env : Env} {outer : List Env} {L e : Addr} {cls : Value} {od : Option Addr} {Q : Unit → Shared → Prop}
    (hfr : A.frames = some (env :: outer)) (hl : s.heap.FunFrames base (env :: outer)) (hf : env.frame = some L) (x : Made s.heap e cls od)
    (h : ∀ h' T, s.heap.objs.size ≤ T → Lies h' e T cls od → Mvd (frs (env :: outer)) [e, T] s.heap h' → Q () { s with heap := h' }) : wpAny M A (leaving env (.ref e)) Q E s := by
  unfold leaving
  refine wpAny_bind (note_first hfr hl hf x fun h1 T hz y m => ?_)
  refine flight_none (fs := frs (env :: outer)) y fun h2 y2 m2 => h h2 T hz y2 ((m.mono (by simp)).trans (m2.mono (by simp)))
theorem leave_next {base : Heap} {env : Env} {outer : List Env} {L e T : Addr} {cls : Value} {od : Option Addr} {Q : Unit → Shared → Prop}
    (hfr : A.frames = some (env :: outer)) (hl : s.heap.FunFrames base (env :: outer)) (hf : env.frame = some L) (x : Lies s.heap e T cls od)
    (h : ∀ h' T', s.heap.objs.size ≤ T' → Lies h' e T' cls od → Mvd (frs (env :: outer)) [e, T, T'] s.heap h' → Q () { s with heap := h' }) : wpAny M A (leaving env (.ref e)) Q E s := by
  unfold leaving
  refine wpAny_bind (note_next hfr hl hf x fun h1 T' hz y m => ?_)
  refine flight_none (fs := frs (env :: outer)) y fun h2 y2 m2 => h h2 T' hz y2 ((m.mono (by simp)).trans (m2.mono (by simp)))
end
end L2

set_option Elab.async false
set_option linter.all false
set_option maxRecDepth 100000
set_option maxHeartbeats 4000000
namespace L2
open PySem PySem.Spec PyProof.Rows
theorem qs_dead {X : Cx} {st : Stmt} : QS X st (fun _ _ _ => False) := ⟨fun _ _ _ _ _ _ h => h.elim⟩
def ZpLate (h : Heap) (z TI TO i1 i2 : Addr) : Prop := ∃ (a : Addr) (oa : Obj) (f1 : Value), h.get? z = some { cls := .type "zip", dict := none, data := .fields #[rawInt a, f1, .bool false, .ref TI, .ref TO], slots := #[] } ∧ h.get? a = some oa ∧ a ≠ z ∧ a ≠ i1 ∧ a ≠ i2
section
variable {prog : Program} {w : World} {A : Around} {E : Value → Shared → Prop} {s : Shared} {z TI TO i1 i2 : Addr} {fp1 fp2 : List Addr} {n1 n2 i : Nat} {P1 P2 : Nat → Value → Prop} {St1 St2 : Nat → Heap → Prop} {a b : Value}
theorem late_free {Q : Bool → Shared → Prop} (hz : ZpLate s.heap z TI TO i1 i2) (h : ∀ h', ZpLate h' z TI TO i1 i2 → Heap.SameBut z s.heap h' → Q false { s with heap := h' }) : wpAny (model prog w) A (Builtin.SmallTypes.ownedTupleIsFree (.ref z)) Q E s := by
  obtain ⟨a, oa, f1, e, ea, n0, n1, n2⟩ := hz
  unfold Builtin.SmallTypes.ownedTupleIsFree
  refine wpAny_bind (wpAny_field e rfl (x := rawInt a) rfl ?_)
  show wpAny _ _ (loadIfAlive ((a : Int).toNat) >>= _) _ _ s
  refine wpAny_bind (wpAny_loadAlive ?_)
  rw [Int.toNat_natCast, ea]
  rw [if_neg (by simp)]
  refine wpAny_bind (wpAny_field e rfl (x := f1) rfl ?_)
  by_cases hf : (f1 != Value.bool true) = true
  · simp only [hf, if_true]
    refine wpAny_bind (wpAny_setField_rec e (by simp) fun h₅ e5 s5 => ?_)
    replace s5 : Heap.SameBut z s.heap h₅ := s5
    exact wpAny_pure (h h₅ ⟨a, oa, .bool true, e5, s5.extBut a oa n0 ea, n0, n1, n2⟩ s5)
  · simp only [hf]
    exact wpAny_pure (h s.heap ⟨a, oa, f1, e, ea, n0, n1, n2⟩ (Heap.SameBut.refl ..))
theorem zipL_item {Q : Value → Shared → Prop} (D1 : Draws prog w A i1 fp1 n1 P1 St1) (D2 : Draws prog w A i2 fp2 n2 P2 St2) (D : ZA z TI TO i1 i2 fp1 fp2) (hz : ZpLate s.heap z TI TO i1 i2) (hTI : IsPair s.heap TI (.ref i1) (.ref i2))
    (st1 : St1 i s.heap) (st2 : St2 i s.heap) (l1 : i < n1) (l2 : i < n2)
    (hQ : ∀ x y h' tk, P1 i x → P2 i y → ZpLate h' z TI TO i1 i2 → St1 (i + 1) h' → St2 (i + 1) h' → IsPair h' s.heap.objs.size x y → h'.objs.size = s.heap.objs.size + 1 →
      (∀ c o, c ≠ z → c ≠ i1 → c ≠ i2 → s.heap.get? c = some o → h'.get? c = some o) → Q (.ref s.heap.objs.size) { s with heap := h', toks := tk }) :
    wpAny (model prog w) A (Builtin.«zip.__next__» ⟨[.ref z], []⟩) (fun fin s' => ∃ v, fin = .done (.ret v) ∧ Q v s') E s := by
  obtain ⟨a0, oa0, f10, e0, _⟩ := id hz
  show wpAny _ _ (field (.ref z) 2 >>= _) _ _ s
  refine wpAny_bind (wpAny_field e0 rfl (x := Value.bool false) rfl ?_)
  show wpAny _ _ (field (.ref z) 3 >>= _) _ _ s
  refine wpAny_bind (wpAny_field e0 rfl (x := Value.ref TI) rfl (wpAny_bind (wpAny_seqItems hTI rfl ?_)))
  show wpAny _ _ (Builtin.SmallTypes.ownedTupleIsFree (.ref z) >>= _) _ _ s
  refine wpAny_bind (late_free hz fun h₁ hz₁ e1 => ?_)
  simp only [Bool.false_eq_true, if_false]
  refine wpAny_bind ?_
  simp only [List.forIn_toArray, List.forIn_cons, List.forIn_nil]
  refine wpAny_bind (wpAny_bind (wpAny_holding ?_))
  show wpAny _ _ (Builtin.SmallTypes.nextOf (.ref i1) >>= _) _ _ _
  refine wpAny_bind (D1.item i _ _ _ l1 (frame_but D1 st1 e1 D.z1) fun x h₂ tk₂ px s12 e2 => wpAny_pure (wpAny_pure ?_))
  replace e2 : Heap.SameBut i1 h₁ h₂ := e2
  refine wpAny_bind (wpAny_bind (wpAny_holding ?_))
  show wpAny _ _ (Builtin.SmallTypes.nextOf (.ref i2) >>= _) _ _ _
  have s22 : St2 i h₂ := frame_but D2 (frame_but D2 st2 e1 D.z2) e2 D.n1
  refine wpAny_bind (D2.item i _ _ _ l2 s22 fun y h₄ tk₄ py s24 e4 => wpAny_pure (wpAny_pure (wpAny_pure ?_)))
  replace e4 : Heap.SameBut i2 h₂ h₄ := e4
  show wpAny _ _ (newTuple [x, y] >>= _) _ _ _
  refine wpAny_bind (wpAny_newTuple (wpAny_pure ⟨_, rfl, ?_⟩))
  have sz : h₄.objs.size = s.heap.objs.size := by rw [e4.1, e2.1, e1.1]
  show Q (.ref h₄.objs.size) { s with heap := h₄.push { cls := .type "tuple", data := .seq #[x, y] }, toks := tk₄ }
  have up : ∀ c o, h₄.get? c = some o → (h₄.push { cls := .type "tuple", data := .seq #[x, y] }).get? c = some o := fun c o e => Heap.get?_push_of_some _ e
  have k4 : ∀ c o, c ≠ z → c ≠ i1 → c ≠ i2 → s.heap.get? c = some o → h₄.get? c = some o := fun c o c1 c3 c4 e => e4.extBut _ _ c4 (e2.extBut _ _ c3 (e1.extBut _ _ c1 e))
  have t8 : IsPair (h₄.push { cls := .type "tuple", data := .seq #[x, y] }) h₄.objs.size x y := Heap.get?_push_size _ rfl
  rw [sz] at t8
  rw [sz]
  obtain ⟨a1, oa1, f1, g1, g2, g3, g4, g5⟩ := hz₁
  refine hQ x y _ tk₄ px py ⟨a1, oa1, f1, up _ _ (e4.extBut _ _ D.i2z.symm (e2.extBut _ _ D.i1z.symm g1)), up _ _ (e4.extBut _ _ g5 (e2.extBut _ _ g4 g2)), g3, g4, g5⟩ ?_ ?_ t8 (by rw [Heap.size_push, sz]) fun c o c1 c3 c4 e => up c o (k4 c o c1 c3 c4 e)
  · exact D1.frame _ _ _ (frame_but D1 s12 e4 D.n2) fun c _ o e => up c o e
  · exact D2.frame _ _ _ s24 fun c _ o e => up c o e
theorem zipL_end {Q : Fin → Shared → Prop} (D1 : Draws prog w A i1 fp1 n1 P1 St1) (D2 : Draws prog w A i2 fp2 n2 P2 St2) (D : ZA z TI TO i1 i2 fp1 fp2) (hz : ZpLate s.heap z TI TO i1 i2) (hTI : IsPair s.heap TI (.ref i1) (.ref i2))
    (st1 : St1 i s.heap) (st2 : St2 i s.heap) (hend : i = n1 ∨ (i < n1 ∧ i = n2))
    (hE : ∀ h' e tk, (∀ c o, c ≠ z → c ≠ i1 → c ≠ i2 → s.heap.get? c = some o → h'.get? c = some o) → (∃ o, h'.get? e = some o ∧ o.cls = .type "StopIteration") → E (.ref e) { s with heap := h', toks := tk }) :
    wpAny (model prog w) A (Builtin.«zip.__next__» ⟨[.ref z], []⟩) Q E s := by
  obtain ⟨a0, oa0, f10, e0, _⟩ := id hz
  show wpAny _ _ (field (.ref z) 2 >>= _) _ _ s
  refine wpAny_bind (wpAny_field e0 rfl (x := Value.bool false) rfl ?_)
  show wpAny _ _ (field (.ref z) 3 >>= _) _ _ s
  refine wpAny_bind (wpAny_field e0 rfl (x := Value.ref TI) rfl (wpAny_bind (wpAny_seqItems hTI rfl ?_)))
  show wpAny _ _ (Builtin.SmallTypes.ownedTupleIsFree (.ref z) >>= _) _ _ s
  refine wpAny_bind (late_free hz fun h₁ hz₁ e1 => ?_)
  simp only [Bool.false_eq_true, if_false]
  refine wpAny_bind ?_
  simp only [List.forIn_toArray, List.forIn_cons, List.forIn_nil]
  refine wpAny_bind (wpAny_bind (wpAny_holding ?_))
  show wpAny _ _ (Builtin.SmallTypes.nextOf (.ref i1) >>= _) _ _ _
  rcases hend with rfl | ⟨l1, rfl⟩
  · refine wpAny_bind (D1.done _ _ _ (frame_but D1 st1 e1 D.z1) fun h₂ e e2 he => ?_)
    replace e2 : Heap.ExtBut i1 h₁ h₂ := e2
    exact hE h₂ e s.toks (fun c o c1 c3 _ x => e2 _ _ c3 (e1.extBut _ _ c1 x)) he
  · refine wpAny_bind (D1.item i _ _ _ l1 (frame_but D1 st1 e1 D.z1) fun x h₂ tk₂ px s12 e2 => wpAny_pure (wpAny_pure ?_))
    replace e2 : Heap.SameBut i1 h₁ h₂ := e2
    refine wpAny_bind (wpAny_bind (wpAny_holding ?_))
    show wpAny _ _ (Builtin.SmallTypes.nextOf (.ref i2) >>= _) _ _ _
    have s22 : St2 i h₂ := frame_but D2 (frame_but D2 st2 e1 D.z2) e2 D.n1
    refine wpAny_bind (D2.done _ _ _ s22 fun h₄ e e4 he => ?_)
    replace e4 : Heap.ExtBut i2 h₂ h₄ := e4
    exact hE h₄ e tk₂ (fun c o c1 c3 c4 x => e4 _ _ c4 (e2.extBut _ _ c3 (e1.extBut _ _ c1 x))) he
def ZpSt (h : Heap) (z TI TO i1 i2 : Addr) (i : Nat) : Prop := (i = 0 ∧ IsZip h z TI TO .none ∧ ∃ u v, IsPair h TO u v) ∨ (0 < i ∧ ZpLate h z TI TO i1 i2)
theorem ZpSt.obj {h : Heap} {z TI TO i1 i2 : Addr} {i : Nat} (x : ZpSt h z TI TO i1 i2 i) : ∃ vs, h.get? z = some { cls := .type "zip", dict := none, data := .fields vs, slots := #[] } := by
  rcases x with ⟨_, x, _⟩ | ⟨_, _, _, _, x, _⟩
  · exact ⟨_, x⟩
  · exact ⟨_, x⟩
theorem zp_next {Q : Option Value → Shared → Prop} (D1 : Draws prog w A.in1 i1 fp1 n1 P1 St1) (D2 : Draws prog w A.in1 i2 fp2 n2 P2 St2) (D : ZA z TI TO i1 i2 fp1 fp2) (hz : ZpSt s.heap z TI TO i1 i2 i) (hTI : IsPair s.heap TI (.ref i1) (.ref i2)) (eTO : ∃ o, s.heap.get? TO = some o)
    (st1 : St1 i s.heap) (st2 : St2 i s.heap) (l1 : i < n1) (l2 : i < n2)
    (hQ : ∀ x y h' tk, P1 i x → P2 i y → ZpSt h' z TI TO i1 i2 (i + 1) → (∃ o, h'.get? TO = some o) → St1 (i + 1) h' → St2 (i + 1) h' → IsPair h' s.heap.objs.size x y → h'.objs.size = s.heap.objs.size + 1 →
      (∀ c o, c ≠ z → c ≠ TO → c ≠ i1 → c ≠ i2 → s.heap.get? c = some o → h'.get? c = some o) → Q (some (.ref s.heap.objs.size)) { s with heap := h', toks := tk }) :
    wpAny (model prog w) A (pyNext (.ref z)) Q E s := by
  obtain ⟨vs, ho⟩ := hz.obj
  have hT : s.TypeIs (.ref z) "zip" := ⟨_, ho, rfl⟩
  have zl : z < s.heap.objs.size := Heap.lt_size ho
  have l1' : i1 < s.heap.objs.size := by obtain ⟨_, y⟩ := D1.live _ _ st1; exact Heap.lt_size y
  have l2' : i2 < s.heap.objs.size := by obtain ⟨_, y⟩ := D2.live _ _ st2; exact Heap.lt_size y
  rcases hz with ⟨rfl, hz, u, v, hTO⟩ | ⟨hi, hz⟩
  · exact zipD_next D1 D2 D hz hTI hTO st1 st2 l1 l2 fun x y h' tk a1 a2 a3 a4 a5 a6 a7 a8 a9 => hQ x y h' tk a1 a2 (.inr ⟨Nat.succ_pos _, _, _, _, a3, a7, Nat.ne_of_gt zl, Nat.ne_of_gt l1', Nat.ne_of_gt l2'⟩) ⟨_, a4⟩ a5 a6 a7 a8 a9
  · unfold pyNext
    exact wpAny_bind (wpAny_attempt (wpAny_callSpecial?_slot (name := Str.ofString "__next__") hT PySem.F.slot_zip_next
      (wpAny_call_entry PySem.F.slot_zip_next hT PySem.F.entry_zip_next (zipL_item D1 D2 D hz hTI st1 st2 l1 l2 fun x y h' tk a1 a2 a3 a4 a5 a6 a7 a8 => wpAny_pure (hQ x y h' tk a1 a2 (.inr ⟨Nat.succ_pos _, a3⟩) (let ⟨o, e⟩ := eTO; ⟨o, a8 _ o D.TOz D.TOi1 D.TOi2 e⟩) a4 a5 a6 a7 fun c o c1 _ c3 c4 e => a8 c o c1 c3 c4 e)) (PySem.F.args_zip_next_1 _))))
theorem zp_end {Q : Option Value → Shared → Prop} (D1 : Draws prog w A.in1 i1 fp1 n1 P1 St1) (D2 : Draws prog w A.in1 i2 fp2 n2 P2 St2) (D : ZA z TI TO i1 i2 fp1 fp2) (hz : ZpSt s.heap z TI TO i1 i2 i) (hTI : IsPair s.heap TI (.ref i1) (.ref i2))
    (st1 : St1 i s.heap) (st2 : St2 i s.heap) (hend : i = n1 ∨ (i < n1 ∧ i = n2))
    (hQ : ∀ h' tk, (∀ c o, c ≠ z → c ≠ TO → c ≠ i1 → c ≠ i2 → s.heap.get? c = some o → h'.get? c = some o) → Q none { s with heap := h', toks := tk }) : wpAny (model prog w) A (pyNext (.ref z)) Q E s := by
  obtain ⟨vs, ho⟩ := hz.obj
  have hT : s.TypeIs (.ref z) "zip" := ⟨_, ho, rfl⟩
  rcases hz with ⟨rfl, hz, u, v, hTO⟩ | ⟨hi, hz⟩
  · exact zipD_stop D1 D2 D hz hTI hTO st1 st2 hend hQ
  · unfold pyNext
    refine wpAny_bind (wpAny_attempt (wpAny_callSpecial?_slot (name := Str.ofString "__next__") hT PySem.F.slot_zip_next
      (wpAny_call_entry PySem.F.slot_zip_next hT PySem.F.entry_zip_next (zipL_end D1 D2 D hz hTI st1 st2 hend fun h' e tk hk he => ?_) (PySem.F.args_zip_next_1 _))))
    obtain ⟨o, ho, hc⟩ := he
    exact wpAny_bind (wpAny_isInstance (T := "StopIteration") (b := true) ⟨o, ho, hc⟩ isSubtype_stop (wpAny_pure (hQ _ _ fun c o c1 _ c3 c4 e => hk c o c1 c3 c4 e)))
end
abbrev lit (l : Addr) : Obj := { cls := .type "list_iterator", data := .fields #[.ref l, .int 0 0] }
abbrev zl2 (h : Heap) (l1 l2 : Addr) : Heap := (zt1 h l1).push (lit l2)
abbrev zl3 (h : Heap) (l1 l2 : Addr) : Heap := (zl2 h l1 l2).push { cls := .type "tuple", data := .seq #[.ref h.objs.size, .ref (zt1 h l1).objs.size] }
abbrev zl4 (h : Heap) (l1 l2 : Addr) : Heap := (zl3 h l1 l2).push { cls := .type "tuple", data := .seq #[.none, .none] }
abbrev zl5 (h : Heap) (l1 l2 : Addr) : Heap := (zl4 h l1 l2).push { cls := .type "zip", data := .fields #[.none, .bool false, .bool false, .ref (zl2 h l1 l2).objs.size, .ref (zl3 h l1 l2).objs.size] }
theorem meets_zipTL (l1 l2 : Addr) (xs ys : Array Value) :
    Meets (Builtin.«zip.__new__» ⟨[.type "zip", .ref l1, .ref l2], []⟩) (fun _ R s => s.heap.IsTuple l1 xs ∧ s.heap.IsList l2 ys ∧ R (.ok (.ret (.ref (zl4 s.heap l1 l2).objs.size))) { s with heap := zl5 s.heap l1 l2 }) :=
  .of_wp fun prog w A R s h => by
    obtain ⟨hp, g, d, tk, os⟩ := s; obtain ⟨hl1, hl2, h⟩ := h
    have hsub := sub_zip
    have q1 : Heap.IsTuple (Shared.heap ⟨hp, g, d, tk, os⟩) l1 xs := hl1
    have q2 : Heap.IsList (Shared.heap ⟨hp.push { cls := .type "tuple_iterator", data := .fields #[.ref l1, .int 0 0] }, g, d, tk, os⟩) l2 ys := Heap.IsList.push hl2 _
    wp_walk using wpAny_pyIter_tuple q1, wpAny_pyIter_list q2
    exact ⟨_, rfl, h⟩
theorem call_zipTL {prog : Program} {w : World} {A : Around} {E : Value → Shared → Prop} {s : Shared} {l1 l2 : Addr} {xs ys : Array Value} {Q : Value → Shared → Prop} (hl1 : s.heap.IsTuple l1 xs) (hl2 : s.heap.IsList l2 ys)
    (h : ∀ h', IsZip h' (s.heap.objs.size + 4) (s.heap.objs.size + 2) (s.heap.objs.size + 3) .none → IsPair h' (s.heap.objs.size + 2) (.ref s.heap.objs.size) (.ref (s.heap.objs.size + 1)) →
      IsPair h' (s.heap.objs.size + 3) .none .none → h'.IsTupleIter s.heap.objs.size l1 0 → h'.IsListIter (s.heap.objs.size + 1) l2 0 → h'.objs.size = s.heap.objs.size + 5 →
      (∀ c o, s.heap.get? c = some o → h'.get? c = some o) → Q (.ref (s.heap.objs.size + 4)) { s with heap := h' }) :
    wpAny (model prog w) A (call (.type "zip") [.ref l1, .ref l2]) Q E s := by
  refine callType_new PySem.F.called_zip (by decide) (PySem.F.typeCall_zip_2 _ _) (PySem.F.newCall_zip_2 _ _) (fun obj => PySem.F.args_object_init_3 obj _ _) PySem.F.entry_zip_new (meets_zipTL l1 l2 xs ys) ⟨hl1, hl2, ?_⟩
  have y1 : (zt1 s.heap l1).objs.size = s.heap.objs.size + 1 := Heap.size_push ..
  have y2 : (zl2 s.heap l1 l2).objs.size = s.heap.objs.size + 2 := by rw [Heap.size_push, y1]
  have y3 : (zl3 s.heap l1 l2).objs.size = s.heap.objs.size + 3 := by rw [Heap.size_push, y2]
  have y4 : (zl4 s.heap l1 l2).objs.size = s.heap.objs.size + 4 := by rw [Heap.size_push, y3]
  have y5 : (zl5 s.heap l1 l2).objs.size = s.heap.objs.size + 5 := by rw [Heap.size_push, y4]
  have u5 : (zl5 s.heap l1 l2).get? (zl4 s.heap l1 l2).objs.size = some _ := Heap.get?_push_size _ rfl
  have u4 : (zl5 s.heap l1 l2).get? (zl3 s.heap l1 l2).objs.size = some _ := Heap.get?_push_of_some _ (Heap.get?_push_size _ rfl)
  have u3 : (zl5 s.heap l1 l2).get? (zl2 s.heap l1 l2).objs.size = some _ := Heap.get?_push_of_some _ (Heap.get?_push_of_some _ (Heap.get?_push_size _ rfl))
  have u2 : (zl5 s.heap l1 l2).get? (zt1 s.heap l1).objs.size = some _ := Heap.get?_push_of_some _ (Heap.get?_push_of_some _ (Heap.get?_push_of_some _ (Heap.get?_push_size _ rfl)))
  have u1 : (zl5 s.heap l1 l2).get? s.heap.objs.size = some _ := Heap.get?_push_of_some _ (Heap.get?_push_of_some _ (Heap.get?_push_of_some _ (Heap.get?_push_of_some _ (Heap.get?_push_size _ rfl))))
  show _ ∧ _
  rw [y2, y3, y4] at u5
  rw [y1, y2] at u3
  rw [y3] at u4
  rw [y1] at u2
  rw [y4]
  exact ⟨⟨_, u5, rfl⟩, h _ u5 u3 u4 ⟨_, u1, rfl, rfl⟩ ⟨_, u2, rfl, rfl⟩ y5 fun c o x => Heap.get?_push_of_some _ (Heap.get?_push_of_some _ (Heap.get?_push_of_some _ (Heap.get?_push_of_some _ (Heap.get?_push_of_some _ x))))⟩
def ZPairs (H : Hp) (xs ys zs : List V) : Prop := ∀ (j : Nat) (z : V), zs[j]? = some z → ∃ (t : Addr) (x y : V), z = V.ref t ∧ xs[j]? = some x ∧ ys[j]? = some y ∧ H t = some (.tup [x, y])
def JZp (K : PySem.W.Frag) (H0 : Hp) (z TI TO i1 i2 a b : Addr) (xs ys : List V) : Nat → List V → Hp → Heap → Prop := fun i zs H h =>
  ZpSt h z TI TO i1 i2 i ∧ (IsPair h TI (.ref i1) (.ref i2) ∧ ∃ o, h.get? TO = some o) ∧ h.IsTupleIter i1 a i ∧ h.IsListIter i2 b i ∧ (∀ c ∈ [z, TI, TO, i1, i2], H c = none) ∧ zs.length = i ∧ ZPairs H xs ys zs ∧ Same H0 H
theorem zp_nolen : typeLookup (.type "zip") "__len__" = pure none := by rw [typeLookup_type, builtinLookup_eq_fast]; kernel_rfl
theorem zp_nohint : typeLookup (.type "zip") "__length_hint__" = pure none := by rw [typeLookup_type, builtinLookup_eq_fast]; kernel_rfl
theorem src_zip {X : Cx} {pins : List (Addr × Obj)} {σ : St} {H0 : Hp} {z TI TO i1 i2 a b : Addr} {xs ys : List V} (fp : ∀ c ∈ [z, TI, TO, i1, i2], FpOk X pins H0 c) (D : ZB z TI TO i1 i2 a b) (ha : SqT X.K H0 a xs) (hb : SqL X.K H0 b ys) :
    Src X pins σ z "zip" (min xs.length ys.length) H0 (JZp X.K H0 z TI TO i1 i2 a b xs ys) where
  ty := fun i zs H h j => by
    obtain ⟨vs, e⟩ := j.1.obj
    exact ⟨_, e, rfl⟩
  nl := by decide
  nolen := zp_nolen
  nohint := zp_nohint
  self := fun A s zs H Q E j q => by
    rcases j.1 with ⟨_, e, _⟩ | ⟨z, _⟩
    · exact wpAny_pyIter_zip e q
    · exact absurd z (Nat.lt_irrefl _)
  keep := fun i zs H h h' S us us' h0 hS j k al => by
    obtain ⟨j1, ⟨j2, jT⟩, j3, j4, j5, j6, j7, j8⟩ := j
    have ne : ∀ c ∈ [z, TI, TO, i1, i2], c ≠ S := fun c hc e => by
      have := j5 c hc
      rw [e, hS] at this
      cases this
    refine ⟨?_, ⟨k _ _ (ne TI (by simp)) j2, let ⟨o, e⟩ := jT; ⟨o, k _ _ (ne TO (by simp)) e⟩⟩, j3.at fun o e => k _ _ (ne i1 (by simp)) e, j4.at fun o e => k _ _ (ne i2 (by simp)) e, fun c hc => by rw [upd_ne (ne c hc)]; exact j5 c hc, j6, fun m y hy => ?_, j8.over h0⟩
    · rcases j1 with ⟨z0, e, u, v, e2⟩ | ⟨z0, a0, oa, f1, e, ea, x1, x2, x3⟩
      · exact .inl ⟨z0, k _ _ (ne z (by simp)) e, u, v, k _ _ (ne TO (by simp)) e2⟩
      · by_cases hs : a0 = S
        · subst hs
          obtain ⟨o, eo⟩ := al
          exact .inr ⟨z0, a0, o, f1, k _ _ (ne z (by simp)) e, eo, x1, x2, x3⟩
        · exact .inr ⟨z0, a0, oa, f1, k _ _ (ne z (by simp)) e, k _ _ hs ea, x1, x2, x3⟩
    · obtain ⟨t, x, y', e1, e2, e3, e4⟩ := j7 m y hy
      exact ⟨t, x, y', e1, e2, e3, by rw [upd_ne (ne_of e4 hS (by intro z; cases z))]; exact e4⟩
  fresh := fun i zs H h j => j.2.2.2.2.1 z (by simp)
  item := fun A i s H zs E hh hi I j => by
    obtain ⟨j1, ⟨j2, jT⟩, j3, j4, j5, j6, j7, j8⟩ := j
    obtain ⟨its, rv, p, hz⟩ := I.tuple (j8.tup ha)
    obtain ⟨its2, rv2, p2, hz2⟩ := I.list (j8.seq hb)
    have g1 := rv.length
    have g2 := rv2.length
    have l1 : i < xs.length := by omega
    have l2 : i < ys.length := by omega
    have D1 := draws_tup (prog := X.prog) (w := X.w) (A := A.in1) hh i1 a D.a1 its.toArray
    have D2 := Draws.list (prog := X.prog) (w := X.w) (A := A.in1) hh i2 b D.b2 its2.toArray
    refine zp_next D1 D2 D.za j1 j2 jT ⟨j3, p⟩ ⟨j4, p2.isList⟩ (by rw [List.size_toArray]; omega) (by rw [List.size_toArray]; omega) fun x y h' tk px py a1 aT a2 a3 a4 a5 a6 => ?_
    have hx' : its[i]? = some x := by simpa using px
    have hy' : its2[i]? = some y := by simpa using py
    obtain ⟨u1, hu1, ru1⟩ := rv.get (List.getElem?_eq_getElem l1)
    obtain ⟨u2, hu2, ru2⟩ := rv2.get (List.getElem?_eq_getElem l2)
    rw [hx'] at hu1
    cases hu1
    rw [hy'] at hu2
    cases hu2
    have hf : H s.heap.objs.size = none := I.hok.fresh (Nat.le_refl _)
    have fpH : ∀ c ∈ [z, TI, TO, i1, i2], FpOk X pins H c := fun c hc => (fp c hc).of (j5 c hc)
    have kk : ∀ c o, c ∉ [z, TI, TO, i1, i2] → s.heap.get? c = some o → h'.get? c = some o := fun c o hc e => by
      simp only [List.mem_cons, List.not_mem_nil, or_false, not_or] at hc
      exact a6 c o hc.1 hc.2.2.1 hc.2.2.2.1 hc.2.2.2.2 e
    have I2 := I.pairL (tk := tk) (T := s.heap.objs.size) (xs := [xs[i], ys[i]]) (its := [x, y]) fpH kk (Nat.le_refl _) (.cons ru1 (.cons ru2 .nil)) (by show 2 ≤ sizeLine; decide) ⟨_, a4, rfl, _, rfl⟩
    have sm : Same H (upd H s.heap.objs.size (.tup [xs[i], ys[i]])) := Same.upd hf
    have lt : ∀ {c o}, s.heap.get? c = some o → c ≠ s.heap.objs.size := fun e => Nat.ne_of_lt (Heap.lt_size e)
    have nw : ∀ c ∈ [z, TI, TO, i1, i2], c ≠ s.heap.objs.size := fun c hc => by
      simp only [List.mem_cons, List.not_mem_nil, or_false] at hc
      rcases hc with rfl | rfl | rfl | rfl | rfl
      · obtain ⟨_, e⟩ := j1.obj; exact lt e
      · exact lt j2
      · obtain ⟨_, e⟩ := jT; exact lt e
      · obtain ⟨_, e, _⟩ := j3; exact lt e
      · obtain ⟨_, e, _⟩ := j4; exact lt e
    refine ⟨_, .ref s.heap.objs.size, _, rfl, rfl, I2, ⟨a1, ⟨a6 _ _ D.TIz D.TITO D.TI1 D.TI2 j2, aT⟩, a2.1, a3.1, fun c hc => by rw [upd_ne (nw c hc)]; exact j5 c hc, by simp [j6], fun m y hy => ?_, j8.trans sm⟩, fun S us e => sm S _ e⟩
    by_cases hm : m < i
    · rw [List.getElem?_append_left (by omega)] at hy
      obtain ⟨t, x, y', e1, e2, e3, e4⟩ := j7 m y hy
      exact ⟨t, x, y', e1, e2, e3, sm _ _ e4⟩
    · have hlen := (List.getElem?_eq_some_iff.mp hy).1
      rw [List.length_append, List.length_singleton] at hlen
      have : m = i := by omega
      subst this
      rw [List.getElem?_append_right (by omega), j6, Nat.sub_self] at hy
      have hy : V.ref s.heap.objs.size = y := by simpa using hy
      exact ⟨_, xs[m], ys[m], hy.symm, List.getElem?_eq_getElem l1, List.getElem?_eq_getElem l2, upd_same⟩
  done := fun A s H zs E hh I j => by
    obtain ⟨j1, ⟨j2, jT⟩, j3, j4, j5, j6, j7, j8⟩ := j
    obtain ⟨its, rv, p, hz⟩ := I.tuple (j8.tup ha)
    obtain ⟨its2, rv2, p2, hz2⟩ := I.list (j8.seq hb)
    have g1 := rv.length
    have g2 := rv2.length
    have D1 := draws_tup (prog := X.prog) (w := X.w) (A := A.in1) hh i1 a D.a1 its.toArray
    have D2 := Draws.list (prog := X.prog) (w := X.w) (A := A.in1) hh i2 b D.b2 its2.toArray
    have fpH : ∀ c ∈ [z, TI, TO, i1, i2], FpOk X pins H c := fun c hc => (fp c hc).of (j5 c hc)
    refine zp_end D1 D2 D.za j1 j2 ⟨j3, p⟩ ⟨j4, p2.isList⟩ (by simp only [List.size_toArray]; omega) fun h' tk kk => ⟨rfl, I.turnedL (fun c o hc e => ?_) fpH⟩
    simp only [List.mem_cons, List.not_mem_nil, or_false, not_or] at hc
    exact kk c o hc.1 hc.2.2.1 hc.2.2.2.1 hc.2.2.2.2 e
section
variable {X : Cx}
def tListZp (K : PySem.W.Frag) (ta : TA) : TE := fun σ H Q => ta σ H fun vs H1 => ∃ a b xs ys, vs = [.ref a, .ref b] ∧ SqT K H1 a xs ∧ SqL K H1 b ys ∧
  ∀ (S : Addr) (zs : List V) (H2 : Hp), H1 S = none → Same H1 H2 → zs.length = min xs.length ys.length → ZPairs H2 xs ys zs → H2 S = some (.lst zs) → Q (.ref S) H2
theorem qe_list_zipK (K : PySem.W.Frag) {e e2 : Expr} {ta : TA} {p p2 pos pos2 : Pos} (hg : Gl X "list") (hm : X.mg "list" = none) (hg2 : Gl X "zip") (hm2 : X.mg "zip" = none) (ha : QA X [e, e2] ta) (hK : X.K = K := by rfl) (hc : X.calm = true := by rfl)
    (hs : starEach [.Call (.Name "zip" p2) [e, e2] [] pos2] X.env = [(false, eval (.Call (.Name "zip" p2) [e, e2] [] pos2) X.env)] := by rfl) (hs2 : starEach [e, e2] X.env = [(false, eval e X.env), (false, eval e2 X.env)] := by rfl) (hs3 : starEach [e2] X.env = [(false, eval e2 X.env)] := by rfl) :
    QE X (.Call (.Name "list" p) [.Call (.Name "zip" p2) [e, e2] [] pos2] [] pos) (tListZp K ta) := by
  subst hK
  refine ⟨fun pins s σ H Q I h => ?_⟩
  refine Call_ (ld_blt I hg hm boot_list' (PyProof.Rows.callWith_type1 ?_ hs rfl))
  rw [hs]
  show wpAny _ _ (spliced ((false, eval (.Call (.Name "zip" p2) [e, e2] [] pos2) X.env) :: [])) _ _ s
  refine Calls.spliced_cons ?_
  refine Call_ (ld_blt I hg2 hm2 PyProof.Rows.boot_zip (PyProof.Rows.callWith_type1 (thn (ha.run pos2 pins s σ H _ I h) fun us s1 ⟨vs, H1, I1, r1, q1⟩ => ?_) (by rw [hs2, hs3]) (by rw [hs3]; rfl)))
  obtain ⟨a, b, xs, ys, e1, hq, hq2, q⟩ := q1
  subst e1
  obtain ⟨u, v, rfl, ru, rv⟩ := r1.two
  cases ru
  cases rv
  obtain ⟨its, rv, pl, hz⟩ := I1.tuple hq
  obtain ⟨its2, rv2, pl2, hz2⟩ := I1.list hq2
  have lt1 : a < s1.heap.objs.size := by obtain ⟨o, e, _⟩ := id pl; exact Heap.lt_size e
  have lt2 : b < s1.heap.objs.size := by obtain ⟨o, e, _⟩ := pl2.isList; exact Heap.lt_size e
  refine call_zipTL (show s1.heap.IsTuple a its.toArray from pl) pl2.isList fun h' a1 a2 a3 a4 a5 a6 hk => ?_
  refine Calls.spliced_nil ?_
  have fr : ∀ k, FpOk X pins H1 (s1.heap.objs.size + k) := fun k => I1.fpOk (Nat.le_add_right _ _) (I1.hok.fresh (Nat.le_add_right _ _))
  have fp : ∀ c ∈ [s1.heap.objs.size + 4, s1.heap.objs.size + 2, s1.heap.objs.size + 3, s1.heap.objs.size, s1.heap.objs.size + 1], FpOk X pins H1 c := fun c hc => by
    simp only [List.mem_cons, List.not_mem_nil, or_false] at hc
    rcases hc with rfl | rfl | rfl | rfl | rfl
    · exact fr 4
    · exact fr 2
    · exact fr 3
    · exact fr 0
    · exact fr 1
  have C := src_zip (X := X) (pins := pins) (σ := σ) (H0 := H1) fp (zb_new lt1 lt2) hq hq2
  have I2 : Inv X pins σ H1 { s1 with heap := h' } := I1.kept (t' := s1.toks) hk
  refine call_list_src C (by omega) (I1.ok.hd hc) I2 ⟨.inl ⟨rfl, a1, _, _, a3⟩, ⟨a2, _, a3⟩, a4, a5, fun c hc => (fp c hc).1, rfl, fun j y hy => by simp at hy, Same.refl _⟩ (fun S hge hS h2 k2 => ?_) fun S H' zs hS hS' hl' hj => ?_
  · have sm : Same H1 (upd H1 S (.lst [])) := Same.upd hS
    refine ⟨.inl ⟨rfl, k2 _ _ a1, _, _, k2 _ _ a3⟩, ⟨k2 _ _ a2, _, k2 _ _ a3⟩, a4.at fun o e => k2 _ _ e, a5.at fun o e => k2 _ _ e, fun c hc => ?_, rfl, fun j y hy => by simp at hy, sm⟩
    have hge : h'.objs.size ≤ S := hge
    rw [upd_ne (show c ≠ S from fun z => ?_)]
    · exact (fp c hc).1
    · simp only [List.mem_cons, List.not_mem_nil, or_false] at hc
      rcases hc with rfl | rfl | rfl | rfl | rfl <;> exact absurd z (Nat.ne_of_lt (Nat.lt_of_lt_of_le (by omega) hge))
  · obtain ⟨h, j⟩ := hj
    exact q S zs H' hS j.2.2.2.2.2.2.2 hl' j.2.2.2.2.2.2.1 hS'
theorem s_listzp {K : PySem.W.Frag} {ta : TA} {σ : St} {H : Hp} {Q : VK} (h : ta σ H fun vs H1 => ∃ a b xs ys, vs = [.ref a, .ref b] ∧ SqT K H1 a xs ∧ SqL K H1 b ys ∧
  ∀ (S : Addr) (zs : List V) (H2 : Hp), H1 S = none → Same H1 H2 → zs.length = min xs.length ys.length → ZPairs H2 xs ys zs → H2 S = some (.lst zs) → Q (.ref S) H2) : tListZp K ta σ H Q := h
end
end L2

set_option Elab.async false
set_option linter.all false
set_option maxRecDepth 100000
set_option maxHeartbeats 4000000
namespace L2
open PySem PySem.Spec PyProof.Rows
theorem all_eq_iff : ∀ (xs ys : List Int), ((List.range (min xs.length ys.length)).all (fun j => xs.getD j 0 == ys.getD j 0) && xs.length == ys.length) = decide (xs = ys) := by
  intro xs ys
  rw [Bool.eq_iff_iff, Bool.and_eq_true, List.all_eq_true, beq_iff_eq, decide_eq_true_iff]
  constructor
  · rintro ⟨h1, h2⟩
    apply List.ext_getElem h2
    intro i g1 g2
    have := h1 i (List.mem_range.mpr (by omega))
    rw [beq_iff_eq, List.getD_eq_getElem?_getD, List.getD_eq_getElem?_getD, List.getElem?_eq_getElem g1, List.getElem?_eq_getElem g2] at this
    exact this
  · rintro rfl
    exact ⟨fun j _ => by simp, rfl⟩
section
variable {X : Cx}
def rNeI (K : PySem.W.Frag) : R2 := fun x y H Q => ∃ (a c : Addr) (xs ys : List Int), x = .ref a ∧ y = .ref c ∧ SqT K H a (xs.map V.int) ∧ SqT K H c (ys.map V.int) ∧ Q (.bl (!decide (xs = ys))) H
theorem op_neI (hu : X.A.units + 200 < cLine) : OpR X (compareOp .NotEq) (rNeI X.K) := by
  intro pins s σ H x y v u Q I rx ry h
  obtain ⟨a, c, xs, ys, rfl, rfl, hx, hy, q⟩ := h
  cases rx
  cases ry
  obtain ⟨its, r1, p1, _⟩ := I.tuple hx
  obtain ⟨its2, r2, p2, _⟩ := I.tuple hy
  obtain ⟨us, e1, f1⟩ := vals_pairs r1
  obtain ⟨vs, e2, f2⟩ := vals_pairs r2
  have l1 : us.length = xs.length := by rw [← f1, List.length_map]
  have l2 : vs.length = ys.length := by rw [← f2, List.length_map]
  refine ne_tuplesAt (e := fun j => xs.getD j 0 == ys.getD j 0) (show s.heap.IsTuple a its.toArray from p1) (show s.heap.IsTuple c its2.toArray from p2) (by omega) (fun j h1 h2 => ?_) ?_
  · subst e1 e2
    simp only [List.size_toArray, List.length_map] at h1 h2
    have g1 : xs.getD j 0 = us[j].1 := by rw [← f1, List.getD_eq_getElem?_getD, List.getElem?_map, List.getElem?_eq_getElem h1]; rfl
    have g2 : ys.getD j 0 = vs[j].1 := by rw [← f2, List.getD_eq_getElem?_getD, List.getElem?_map, List.getElem?_eq_getElem h2]; rfl
    rw [g1, g2]
    simp only [List.getElem_toArray, List.getElem_map]
    exact SeqAt.EqAt.int_int _ _ _ _
  · have e : (!((List.range (min its.toArray.size its2.toArray.size)).all (fun j => xs.getD j 0 == ys.getD j 0) && its.toArray.size == its2.toArray.size)) = !decide (xs = ys) := by
      have z1 : its.toArray.size = xs.length := by rw [List.size_toArray, e1, List.length_map, l1]
      have z2 : its2.toArray.size = ys.length := by rw [List.size_toArray, e2, List.length_map, l2]
      rw [z1, z2, all_eq_iff]
    rw [e]
    exact ⟨.bl _, H, I, rfl, q⟩
def rNeB (K : PySem.W.Frag) : R2 := fun x y H Q => rNeA K x y H Q ∨ rNeI K x y H Q
theorem k_neB (K : PySem.W.Frag) (hu : X.A.units + 200 < cLine) (hK : X.K = K := by rfl) : OpR X (compareOp .NotEq) (rNeB K) := by subst hK; exact (op_neA hu).or (op_neI hu)
theorem s_neb {K : PySem.W.Frag} {x y : V} {H : Hp} {Q : VK} (hs : scal x y = true) (h : Q (.bl (!decide (x = y))) H) : rNeB K x y H Q := .inl (.inl ⟨hs, h⟩)
theorem s_nebI {K : PySem.W.Frag} {a c : Addr} {xs ys : List Int} {H : Hp} {Q : VK} (hx : SqT K H a (xs.map V.int)) (hy : SqT K H c (ys.map V.int)) (h : Q (.bl (!decide (xs = ys))) H) : rNeB K (.ref a) (.ref c) H Q := .inr ⟨a, c, xs, ys, rfl, rfl, hx, hy, h⟩
end
end L2

set_option Elab.async false
set_option linter.all false
set_option maxRecDepth 100000
set_option maxHeartbeats 4000000
namespace L2
open PySem PySem.Spec PyProof.Rows
def CXR (P : Program) (w : World) : CXT := fun outer H s E ev s' => ∃ (e T : Addr) (cls : Value) (od : Option Addr) (H' : Hp), ev = .ref e ∧ s'.os = s.os ∧ AllBare s'.gens ∧ Un (frs outer) [] H H' s.heap s'.heap ∧ HOk P w H' s'.heap ∧
  s.heap.get? e = none ∧ s.heap.get? T = none ∧ H' e = none ∧ H' T = none ∧ Lies s'.heap e T cls od ∧ E cls od H'
theorem FunFrames.slots {h h' base : Heap} : ∀ {l : List Env}, h.FunFrames base l → (∀ b ∈ frs l, ∀ o, h.get? b = some o → ∃ sl, h'.get? b = some { o with slots := sl }) → h'.FunFrames base l
  | [], _, _ => trivial
  | env :: rest, hl, k => by
    obtain ⟨hk, ⟨L, o, hf, hn, ho, hd⟩, hr⟩ := hl
    have hm : L ∈ frs (env :: rest) := by unfold frs; rw [List.filterMap_cons, hf]; exact List.mem_cons_self
    obtain ⟨sl, e⟩ := k L hm o ho
    refine ⟨hk, ⟨L, _, hf, hn, e, hd⟩, FunFrames.slots hr fun b hb => k b ?_⟩
    unfold frs
    rw [List.filterMap_cons, hf]
    exact List.mem_cons_of_mem _ hb
section
variable {X : Cx} {pins : List (Addr × Obj)} {σ : St} {H : Hp} {s : Shared}
theorem Inv.old (I : Inv X pins σ H s) (hex : X.ex = []) {b : Addr} (h : s.heap.get? b = none) : X.s₀.heap.get? b = none := by
  cases q : X.s₀.heap.get? b with
  | none => rfl
  | some o =>
    obtain ⟨o', e⟩ := I.base.there b o q (by rw [hex]; simp)
    rw [h] at e
    cases e
theorem Inv.mvd (I : Inv X pins σ H s) {h' : Heap} {xs : List Addr} (m : Mvd (frs X.stack) xs s.heap h') (hx : ∀ b ∈ xs, X.s₀.heap.get? b = none ∧ H b = none) (hex : X.ex = []) : Un X.fs [] X.H₀ H X.s₀.heap h' ∧ HOk X.prog X.w H h' := by
  have low : ∀ b o, X.s₀.heap.get? b = some o → b ∉ xs := fun b o e hb => by rw [(hx b hb).1] at e; cases e
  have neL : ∀ b o, X.s₀.heap.get? b = some o → b ≠ X.env.locals := fun b o e => Nat.ne_of_lt (Nat.lt_of_lt_of_le (Heap.lt_size e) I.ok.above)
  have nst : ∀ b o, X.s₀.heap.get? b = some o → b ∉ X.fs → b ∉ frs X.stack := fun b o e hf hs => by
    rcases I.ok.stk with z | ⟨z, z2⟩
    · rw [z] at hs; exact hf hs
    · rw [z] at hs
      unfold frs at hs
      rw [List.filterMap_cons, z2] at hs
      rcases List.mem_cons.mp hs with q | q
      · exact neL b o e q
      · exact hf q
  have B := I.base
  rw [hex] at B
  refine ⟨⟨fun b o e n hf _ => ?_, fun b o e n hf _ => ?_, fun b o e n _ => B.free b o e n (by simp), fun b o e _ => ?_, B.tups, B.frzs, B.tbls⟩, fun b u e => ?_⟩
  · exact m.keep b o (low b o e) (nst b o e hf) (B.keep b o e n hf (by simp))
  · obtain ⟨sl, e1⟩ := B.slot b o e n hf (by simp)
    obtain ⟨sl', e2⟩ := m.slot b _ (low b o e) e1
    exact ⟨sl', e2⟩
  · obtain ⟨o', e1⟩ := B.there b o e (by simp)
    obtain ⟨sl, e2⟩ := m.slot b o' (low b o e) e1
    exact ⟨_, e2⟩
  · have tr : ∀ c v, H c = some v → c ∉ xs ∧ c ∉ frs X.stack := fun c v q => ⟨(fun z => by rw [(hx c z).2] at q; cases q), (fun z => by rw [I.stkFree c z] at q; cases q)⟩
    refine (I.hok b u e).stay (fun c v hc q => m.keep c v ?_ ?_ q) (fun _ q => q) fun _ _ q => q
    · rcases hc with z | z
      · rw [z]; exact (tr b u e).1
      · exact (tr c _ z).1
    · rcases hc with z | z
      · rw [z]; exact (tr b u e).2
      · exact (tr c _ z).2
end
section
variable {P : Program} {w : World} {K : PySem.W.Frag} {mg : Str → Option Value} {base : Heap} {N : List Str} {qual : Str} {scope : Scope} {f : Addr} {cd : Value} {A : Around} {outer : List Env} {s0 : Shared} {H0 : Hp} {E : XK}
theorem passes_cx {E' : XK} (h : ∀ cls od H', E' cls od H' → E cls od H') : Passes (CXR P w) (cxOf (CXR P w) P w K mg base N qual scope f cd A outer s0 H0 E) E' := by
  intro pins σ H s ev s' I c
  obtain ⟨e, T, cls, od, H', rfl, h1, h2, h3, h4, h5, h6, h7, h8, h9, h10⟩ := c
  have J : Inv (cxOf (CXR P w) P w K mg base N qual scope f cd A outer s0 H0 E) pins σ H' s' := I.call' (ch := []) h1 h3 h4 h2 (fun b z => absurd z (by simp))
  refine leave_next (base := base) (outer := outer) (L := s0.heap.objs.size) J.ok.frames J.stack rfl h9 fun h' T' hT' y m => ?_
  obtain ⟨u, ok⟩ := J.mvd (h' := h') m (fun b hb => by
    simp only [List.mem_cons, List.not_mem_nil, or_false] at hb
    rcases hb with rfl | rfl | rfl
    · exact ⟨I.old rfl h5, h7⟩
    · exact ⟨I.old rfl h6, h8⟩
    · exact ⟨J.old rfl (Heap.get?_none_of_le hT'), J.hok.fresh hT'⟩) rfl
  exact ⟨e, T', cls, od, H', rfl, J.os, J.bare, u, ok, I.old rfl h5, J.old rfl (Heap.get?_none_of_le hT'), h7, J.hok.fresh hT', y, h _ _ _ h10⟩
theorem raises_cx {pins : List (Addr × Obj)} {σ : St} {H : Hp} {s : Shared} {e : Addr} {cls : Value} {od : Option Addr} (I : Inv (cxOf (CXR P w) P w K mg base N qual scope f cd A outer s0 H0 E) pins σ H s) (x : Made s.heap e cls od) (he : s0.heap.get? e = none) (hn : H e = none) (h : E cls od H) :
    (cxOf (CXR P w) P w K mg base N qual scope f cd A outer s0 H0 E).xe (.ref e) s := by
  refine leave_first (base := base) (outer := outer) (L := s0.heap.objs.size) I.ok.frames I.stack rfl x fun h' T hT y m => ?_
  obtain ⟨u, ok⟩ := I.mvd (h' := h') m (fun b hb => by
    simp only [List.mem_cons, List.not_mem_nil, or_false] at hb
    rcases hb with rfl | rfl
    · exact ⟨he, hn⟩
    · exact ⟨I.old rfl (Heap.get?_none_of_le hT), I.hok.fresh hT⟩) rfl
  exact ⟨e, T, cls, od, H, rfl, I.os, I.bare, u, ok, he, I.old rfl (Heap.get?_none_of_le hT), hn, I.hok.fresh hT, y, h⟩
end
end L2

set_option Elab.async false
set_option linter.all false
set_option maxRecDepth 100000
set_option maxHeartbeats 4000000
namespace L2
open PySem PySem.Spec PyProof.Rows
section
variable {P : Program} {w : World} {K : PySem.W.Frag} {mg : Str → Option Value} {base : Heap}
theorem Fun.okx {x qual : Str} {st : Stmt} {f : Addr} {fd : FuncData} {N ps : List Str} {k : Nat} {sp : Sp} (F : Fun K x qual st f fd) (S : FnScope N ps (defScope st)) (len : ∀ vs H Q E, sp vs H Q E → vs.length = ps.length)
    (hbody : ∀ (cdv : Value) (A : Around) (outer : List Env) (s : Shared) (H : Hp) (vs : List V) (Q : VK) (E : XK), Room k (A.deeper (envOfC qual (defScope st) s.heap.objs.size f cdv)) → sp vs H Q E →
      ∃ t, QSs (cxOf (CXR P w) P w K mg base N qual (defScope st) f cdv A outer s H E) (defBody st) t ∧ t { nx := fun _ H' => Q .non H', rt := Q } (start N vs) H) : FnOk P w K mg base (CXR P w) (k + 1) f fd ps sp := by
  obtain ⟨oc, od, kV, doc, pm, an, cdv, ct, osl, rfl, lk, hcd⟩ := F.ex
  refine fn_of lk hcd S len fun A outer s H vs Q E hr hsp => ?_
  obtain ⟨t, h, q⟩ := hbody cdv A outer s H vs Q E hr hsp
  exact ⟨t, h.run, q⟩
structure CalleeX (P : Program) (w : World) (K : PySem.W.Frag) (mg : Str → Option Value) (base : Heap) (k : Nat) (x : Str) (ps : List Str) (sp : Sp) : Prop where
  ex : ∃ (f : Addr) (fd : FuncData), FnOk P w K mg base (CXR P w) k f fd ps sp ∧ mg x = some (.ref f) ∧ PySem.W.keepIn K (.ref f) = true ∧ Binds K fd ps []
theorem calleex_of {k : Nat} {x : Str} {ps : List Str} {sp : Sp} {f : Addr} {fd : FuncData} (F : FnOk P w K mg base (CXR P w) k f fd ps sp) (m : mg x = some (.ref f)) (kp : PySem.W.keepIn K (.ref f) = true) (b : Binds K fd ps []) : CalleeX P w K mg base k x ps sp := ⟨f, fd, F, m, kp, b⟩
end
section
variable {X : Cx} {k : Nat} {x : Str} {ps : List Str} {sp : Sp} {p pos np cpos : Pos} {e : Expr} {es : List Expr} {t : TA} {E : XK}
theorem qe_fnx (C : CalleeX X.prog X.w X.K X.mg X.base k x ps sp) (hr : Room k X.A) (hx : Passes (CXR X.prog X.w) X E) (ha : QA X (e :: es) t) (hg : Gl X x := by rfl) (hdb : (x == ("__debug__" : Str)) = false := by decide)
    (he : starEach (e :: es) X.env = (false, eval e X.env) :: starEach es X.env := by rfl) (hpl : (backTo pos (starEach es X.env)).any (·.1) = false := by rfl) : QE X (.Call (.Name x p) (e :: es) [] pos) (tCall sp [] E t) := by
  obtain ⟨f, fd, F, hm, hk, hb⟩ := C.ex
  exact ⟨pe_call F hr hg hm hk hb .nil hx ha.run hdb he hpl⟩
abbrev VE : List Value := [.type "ValueError", .type "Exception", .type "BaseException", .type "object"]
def Raises (X : Cx) (E : XK) : Prop := ∀ (pins : List (Addr × Obj)) (σ : St) (H : Hp) (s : Shared) (a : Addr) (cls : Value) (od : Option Addr), Inv X pins σ H s → Made s.heap a cls od → X.s₀.heap.get? a = none → H a = none → E cls od H → X.xe (.ref a) s
theorem ObjOk.there {P : Program} {w : World} {H : Hp} {h : Heap} {a : Addr} {o : HO} (x : ObjOk P w H h a o) : ∃ u, h.get? a = some u := by
  induction o with
  | lst xs => obtain ⟨_, _, _, _, e⟩ := x; exact ⟨_, e⟩
  | tup xs => obtain ⟨_, _, _, o, e, _⟩ := x; exact ⟨_, e⟩
  | dK kvs => obtain ⟨_, _, vs, _, d⟩ := x; obtain ⟨o, e, _⟩ := Heap.dictOf_iff.mp d; exact ⟨_, e⟩
  | dT kvs => obtain ⟨_, _, _, _, o, _, _, e, _⟩ := x; exact ⟨_, e⟩
  | set S n => obtain ⟨o, _, _, _, e, _⟩ := x; exact ⟨_, e⟩
  | ins C dx fs => obtain ⟨_, _, _, e, _⟩ := x; exact ⟨_, e⟩
  | own y => exact x
  | xd fs => obtain ⟨_, ⟨o, _, _, e, _⟩, _⟩ := x; exact ⟨_, e⟩
  | met f y => exact ⟨_, x⟩
  | rng lo hi => obtain ⟨_, _, _, e⟩ := x; exact ⟨_, e⟩
  | frz o u _ => exact ⟨_, x.1⟩
  | tbl ps => exact ⟨_, x⟩
  | ext φ => exact x.2.1
theorem HOk.no {P : Program} {w : World} {H : Hp} {h : Heap} (x : HOk P w H h) {a : Addr} (e : h.get? a = none) : H a = none := by
  cases q : H a with
  | none => rfl
  | some u =>
    have z := (x a u q).there
    rw [e] at z
    obtain ⟨o, z⟩ := z
    cases z
end
end L2

set_option Elab.async false
set_option linter.all false
set_option maxRecDepth 100000
set_option maxHeartbeats 4000000
namespace L2
open PySem PySem.Spec PyProof.Rows
def exk (a : Addr) (cls : Value) (od : Option Addr) : HO := .ext fun h => ∃ o vs, h.get? a = some o ∧ o.cls = cls ∧ o.dict = od ∧ o.data = .fields vs
theorem exk_ok {P : Program} {w : World} {H : Hp} {h : Heap} {a T : Addr} {cls : Value} {od : Option Addr} (x : Lies h a T cls od) : ObjOk P w H h a (exk a cls od) := by
  obtain ⟨oe, vs, oT, ts, a1, a2, a3, a4, a5, a6, a7, a8, a9⟩ := x
  refine ⟨⟨oe, vs, a1, a2, a3, a4⟩, ⟨oe, a1⟩, fun h1 h2 q k => ?_⟩
  obtain ⟨o, vs, q1, q2⟩ := q
  exact ⟨o, vs, k o q1, q2⟩
theorem Un.land {fs xs : List Addr} {H H' : Hp} {h h1 h2 : Heap} {e : Addr} {o : HO} (u : Un fs [] H H' h h1) (m : Mvd fs xs h1 h2) (hx : ∀ b ∈ xs, h.get? b = none) (he : h.get? e = none) (hn : H' e = none) : Un fs [] H (upd H' e o) h h2 := by
  have low : ∀ b ob, h.get? b = some ob → b ∉ xs := fun b ob q z => by rw [hx b z] at q; cases q
  have ne : ∀ b ob, h.get? b = some ob → b ≠ e := fun b ob q z => by rw [z, he] at q; cases q
  have ne' : ∀ b ob, H' b = some ob → b ≠ e := fun b ob q z => by rw [z, hn] at q; cases q
  refine ⟨fun b ob q n hf _ => m.keep b ob (low b ob q) hf (u.keep b ob q n hf (by simp)), fun b ob q n hf _ => ?_, fun b ob q n _ => ?_, fun b ob q _ => ?_, fun b ys q => ?_, fun b ob v q => ?_, fun b ps q => ?_⟩
  · obtain ⟨sl, e1⟩ := u.slot b ob q n hf (by simp)
    obtain ⟨sl', e2⟩ := m.slot b _ (low b ob q) e1
    exact ⟨sl', e2⟩
  · rw [upd_ne (ne b ob q)]; exact u.free b ob q n (by simp)
  · obtain ⟨o', e1⟩ := u.there b ob q (by simp)
    obtain ⟨sl, e2⟩ := m.slot b o' (low b ob q) e1
    exact ⟨_, e2⟩
  · have z := u.tups b ys q
    rw [upd_ne (ne' b _ z)]; exact z
  · have z := u.frzs b ob v q
    rw [upd_ne (ne' b _ z)]; exact z
  · obtain ⟨more, z⟩ := u.tbls b ps q
    exact ⟨more, by rw [upd_ne (ne' b _ z)]; exact z⟩
theorem HOk.land {P : Program} {w : World} {fs xs : List Addr} {H : Hp} {h1 h2 : Heap} {e : Addr} {o : HO} (x : HOk P w H h1) (m : Mvd fs xs h1 h2) (hx : ∀ b ∈ xs, H b = none) (hf : ∀ b ∈ fs, H b = none) (hn : H e = none) (new : ObjOk P w (upd H e o) h2 e o) : HOk P w (upd H e o) h2 := by
  intro b u q
  by_cases hb : b = e
  · subst hb
    rw [upd_same] at q
    cases q
    exact new
  · rw [upd_ne hb] at q
    have tr : ∀ c v, H c = some v → c ∉ xs ∧ c ∉ fs := fun c v q => ⟨(fun z => by rw [hx c z] at q; cases q), (fun z => by rw [hf c z] at q; cases q)⟩
    have ne' : ∀ b ob, H b = some ob → b ≠ e := fun b ob q z => by rw [z, hn] at q; cases q
    refine (x b u q).stay (fun c v hc z => ?_) (fun c z => by rw [upd_ne (ne' c _ z)]; exact z) fun c ys z => by rw [upd_ne (ne' c _ z)]; exact z
    rcases hc with r | r
    · rw [r] at z ⊢
      exact m.keep b v (tr b u q).1 (tr b u q).2 z
    · exact m.keep c v (tr c _ r).1 (tr c _ r).2 z
abbrev TX := St → Hp → VK → XK → Prop
abbrev TXS := Ends → (St → XK) → St → Hp → Prop
def XP (X : Cx) (pins : List (Addr × Obj)) (σ : St) (E : XK) (ev : Value) (s' : Shared) : Prop := ∃ H0 s0, Inv X pins σ H0 s0 ∧ CXR X.prog X.w X.stack H0 s0 E ev s'
structure QX (X : Cx) (e : Expr) (t : TX) : Prop where
  run : ∀ (pins : List (Addr × Obj)) (s : Shared) (σ : St) (H : Hp) (Q : VK) (E : XK), Inv X pins σ H s → t σ H Q E → wpAny (model X.prog X.w) X.A (eval e X.env) (EP X pins σ Q) (XP X pins σ E) s
structure QXS (X : Cx) (sts : List Stmt) (t : TXS) : Prop where
  run : ∀ (pins : List (Addr × Obj)) (s : Shared) (σ : St) (H : Hp) (D : Ends) (E : St → XK), Inv X pins σ H s → t D E σ H → wpAny (model X.prog X.w) X.A (execs sts X.env) (SP X pins D) (fun ev s' => ∃ σ', XP X pins σ' (E σ') ev s') s
abbrev Cx.to (X : Cx) (A : Around) (c : Bool) (XE : Value → Shared → Prop) : Cx := { X with A := A, calm := c, xe := XE }
section
variable {X : Cx} {pins : List (Addr × Obj)} {σ : St} {H : Hp} {s : Shared}
theorem Inv.to (I : Inv X pins σ H s) {A : Around} {c : Bool} {XE : Value → Shared → Prop} (hA : A.frames = X.A.frames) (hc : c = true → A.handled = none) : Inv (X.to A c XE) pins σ H s :=
  ⟨⟨I.ok.mod, I.ok.kind, I.ok.glob, I.ok.blt, I.ok.above, I.ok.inj, I.ok.has, I.ok.cab, hc, hA.trans I.ok.frames, I.ok.stk, I.ok.exf, I.ok.bs, I.ok.bsz, I.ok.noex, I.ok.exfs, I.ok.funs, I.ok.frf⟩, I.os, I.bare, I.base, I.loc, I.cell, I.free, I.freeC, I.pin, I.hok, I.len⟩
theorem Inv.back {A : Around} {c : Bool} {XE : Value → Shared → Prop} (I : Inv (X.to A c XE) pins σ H s) (ok : X.Ok) : Inv X pins σ H s :=
  ⟨ok, I.os, I.bare, I.base, I.loc, I.cell, I.free, I.freeC, I.pin, I.hok, I.len⟩
end
section
variable {X : Cx} {k : Nat} {x : Str} {ps : List Str} {sp : Sp} {p pos np cpos : Pos} {e : Expr} {es : List Expr} {t : TA}
theorem qx_fn (C : CalleeX X.prog X.w X.K X.mg X.base k x ps sp) (hr : Room k X.A) (ha : ∀ XE, QA (X.to X.A X.calm XE) (e :: es) t) (hg : Gl X x := by rfl) (hdb : (x == ("__debug__" : Str)) = false := by decide)
    (he : starEach (e :: es) X.env = (false, eval e X.env) :: starEach es X.env := by rfl) (hpl : (backTo pos (starEach es X.env)).any (·.1) = false := by rfl) : QX X (.Call (.Name x p) (e :: es) [] pos) (fun σ H Q E => t σ H fun vs H1 => sp vs H1 Q E) := by
  obtain ⟨f, fd, F, hm, hk, hb⟩ := C.ex
  refine ⟨fun pins s σ H Q E I h => ?_⟩
  refine wpAny_Call_Name_kw (ld_glob I hg hm ?_ hdb)
  refine PySem.W.callWith_K (h₀ := X.base) I.ok.mod.kin hk (thn ((ha (XP X pins σ E)).run pos pins s σ H _ (I.to rfl I.ok.hd) h) fun us s1 ⟨vs, H1, I1, r, q⟩ => ⟨(I1.back I.ok).kIn, ?_⟩) he hpl
  have I1 := I1.back I.ok
  have hl : us.length = ps.length := by rw [← r.length]; exact F.len _ _ _ _ q
  have hb' := hb s1 us I1.kIn (by simpa using hl)
  rw [List.append_nil] at hb'
  refine wpAny_call (codeAny_mono (F.run X.A X.stack s1 H1 ⟨us, []⟩ us vs Q E hr I1.env0 hb' r q) fun r s' hq => ?_)
  cases r with
  | error e => exact ⟨H1, s1, I1, hq⟩
  | ok fl =>
    cases fl with
    | ret u => exact I1.after hq
    | next => exact False.elim hq
    | brk => exact False.elim hq
    | cont => exact False.elim hq
theorem qxs_expr {t : TX} (he : QX X e t) (hs : swapsWith e none pos.line X.env = pure false := by rfl) : QXS X [.Expr e pos] (fun D E σ H => t σ H (fun _ H1 => D.nx σ H1) (E σ)) := by
  refine ⟨fun pins s σ H D E I h => ?_⟩
  refine wpAny_execs_cons (wpAny_mono (wpAny_Expr_any (Q := SP X pins D) (thn (he.run pins s σ H _ (E σ) I h) fun v s1 ⟨x, H1, I1, r1, q1⟩ => ⟨σ, H1, I1, q1⟩) I.quiet hs) (fun f s1 q => ?_) fun ev s1 q => ⟨σ, q⟩)
  cases f with
  | next => exact wpAny_execs_nil q
  | ret v => exact q
  | brk => exact q
  | cont => exact q
end
end L2

set_option Elab.async false
set_option linter.all false
set_option maxRecDepth 100000
set_option maxHeartbeats 4000000
namespace L2
open PySem PySem.Spec PyProof.Rows
structure ExcC (K : PySem.W.Frag) (C : Addr) : Prop where
  ty : PySem.W.typeIn K (.ref C) = some (.type "type")
  cl : (PySem.W.clsIn K C).isSome = true
  bs : PySem.W.subIn K (.ref C) (.type "BaseException") = some true
theorem looks_isType {K : PySem.W.Frag} {M : Model} {h : Heap} {C : Addr} (X : K.In h) (e : (PySem.W.clsIn K C).isSome = true) : PySem.W.Looks M h (isType (.ref C)) true := by
  unfold PySem.W.clsIn at e
  split at e
  · rename_i c' d' cd' sl' ho
    intro A' Q' E' s' k q
    unfold isType loadHead
    exact wpAny_bind (wpAny_loadPart (k _ _ (X _ _ ho)) (wpAny_pure q))
  · cases e
theorem exc_matches {K : PySem.W.Frag} {M : Model} {A : Around} {E : Value → Shared → Prop} {s : Shared} {Q : Bool → Shared → Prop} {e C C' : Addr} {oe : Obj} (X : K.In s.heap) (c : ExcC K C) (he : s.heap.get? e = some oe) (hcls : oe.cls = .ref C') (hs : PySem.W.subIn K (.ref C') (.ref C) = some true) (h : Q true s) :
    wpAny M A (excMatches (.ref e) (.ref C)) Q E s := by
  have L1 : PySem.W.Looks M s.heap (typeOf (.ref C)) (.type "type") := PySem.W.looks_typeIn X c.ty
  have L2 : PySem.W.Looks M s.heap (isType (.ref C)) true := looks_isType X c.cl
  have L3 := PySem.W.looks_subIn (M := M) X c.bs
  have L4 : PySem.W.Looks M s.heap (typeOf (.ref e)) (.ref C') := by
    intro A' Q' E' s' k q
    unfold typeOf
    exact wpAny_bind (wpAny_loadPart (k _ _ he) (wpAny_pure (by rw [hcls]; exact q)))
  have L5 := PySem.W.looks_subIn (M := M) X hs
  have f := tc_notTuple
  unfold excMatches
  unfold isInstance isExcClass
  repeat (first | with_reducible refine L1.here ?_ | with_reducible refine L2.here ?_ | with_reducible refine L3.here ?_ | with_reducible refine L4.here ?_ | with_reducible refine L5.here ?_ | wp_step)
  exact h
section
variable {X : Cx} {pins : List (Addr × Obj)} {σ : St} {H : Hp} {s : Shared}
theorem goes_ok {M : Model} {A : Around} {E : Value → Shared → Prop} {i : Nat} {n : Str} {hpos : Pos} {Q : Unit → Shared → Prop} (I : Inv X pins σ H s) (hN : X.N.Nodup) (hi : X.N[i]? = some n) (hk : X.env.scope.names.lookup n = some .local)
    (h : ∀ s', Inv X pins (σ.set i none) H s' → Q () s') : wpAny M A (do bindName X.env n .none; unbindBehindTheSuite X.env n hpos) Q E s := by
  obtain ⟨m, hn, hl⟩ := id I.loc
  have hcls : (X.env.scope.kind == .class || (X.env.scope.kind == .module && X.env.locals != X.env.globals)) = false := by rw [I.ok.kind]; rfl
  have cne := I.cne
  obtain ⟨oL, _, _, hoL, _⟩ := id hn
  refine wpAny_nameGoes_keeps hk hn hcls fun h' v hn' hs => ?_
  have hok : HOk X.prog X.w H h' := fun b ob e => by
    refine (I.hok b ob e).stay (fun c w' hc q => (hs.2 c ?_).trans q) (fun _ q => q) fun _ _ q => q
    rintro rfl
    rcases hc with rfl | hc
    · rw [I.free] at e; cases e
    · rw [I.free] at hc; cases hc
  refine h _ ⟨I.ok, I.os, I.bare, ⟨fun b o e n hb hx => ?_, fun b o e n hb hx => ?_, I.base.free, fun b o e hx => ?_, I.base.tups, I.base.frzs, I.base.tbls⟩, ⟨_, hn', fun j y v' e1 e2 e3 => ?_⟩, fun y c e => ?_, I.free, I.freeC, fun p hp => ?_, hok, by simpa using I.len⟩
  · exact (hs.2 b (Nat.ne_of_lt (Nat.lt_of_lt_of_le (Heap.lt_size e) I.ok.above))).trans (I.base.keep b o e n hb hx)
  · obtain ⟨sl, e1⟩ := I.base.slot b o e n hb hx
    exact ⟨sl, (hs.2 b (Nat.ne_of_lt (Nat.lt_of_lt_of_le (Heap.lt_size e) I.ok.above))).trans e1⟩
  · obtain ⟨o', e1⟩ := I.base.there b o e hx
    exact ⟨o', (hs.2 b (Nat.ne_of_lt (Nat.lt_of_lt_of_le (Heap.lt_size e) I.ok.above))).trans e1⟩
  · by_cases hj : j = i
    · subst hj
      have hiσ : j < σ.length := by rw [I.len]; exact (List.getElem?_eq_some_iff.mp hi).1
      rw [List.getElem?_set_self hiσ] at e2
      cases e2
    · rw [List.getElem?_set_ne (Ne.symm hj)] at e2
      obtain ⟨u', r', q⟩ := hl j y v' e1 e2 e3
      refine ⟨u', r', ?_⟩
      rcases q with ⟨k, e⟩ | ⟨k, c, e, z⟩
      · refine .inl ⟨k, ?_⟩
        have : y ≠ n := fun e => hj (nodup_ix hN e1 (e ▸ hi))
        simp [this, e]
      · exact .inr ⟨k, c, e, z.sameBut hs (cne y c e)⟩
  · obtain ⟨w', z⟩ := I.cell y c e
    exact ⟨w', z.sameBut hs (cne y c e)⟩
  · obtain ⟨e, n, ne, nf, d⟩ := I.pin p hp
    exact ⟨(hs.2 p.1 ne).trans e, n, ne, nf, d⟩
end
section
variable {X : Cx} {c n : Str} {np hpos pos : Pos} {body hbody : List Stmt} {b₀ : Stmt} {tb : TXS} {th : TS} {i : Nat} {C : Addr}
def Ends.gone (D : Ends) (i : Nat) : Ends := { nx := fun σ H => D.nx (σ.set i none) H, rt := D.rt, bk := fun σ H => D.bk (σ.set i none) H, ct := fun σ H => D.ct (σ.set i none) H }
def tTry (K : PySem.W.Frag) (C : Addr) (i : Nat) (tb : TXS) (th : TS) : TS := fun D σ H => tb D (fun σ1 cls od H2 => (∃ C', cls = .ref C' ∧ PySem.W.subIn K (.ref C') (.ref C) = some true) ∧ ∀ a, H2 a = none → th (D.gone i) (σ1.set i (some (.ref a))) (upd H2 a (exk a cls od))) σ H
theorem qs_tryM (hN : X.N.Nodup) (hi : X.N[i]? = some n) (hk : X.env.scope.names.lookup n = some .local) (hC : ExcC X.K C) (G : X.mg c = some (.ref C)) (hf : X.env.frame = some X.env.locals) (hst : X.stack = X.env :: X.outer) (hb : QXS X body tb) (hh : ∀ e XE, QSs (X.to (X.A.mark (some e)) false XE) (b₀ :: hbody) th) (hg : Gl X c := by rfl) (hdb : (c == ("__debug__" : Str)) = false := by decide) :
    QS X (.Try body [.ExceptHandler (some (.Name c np)) (some n) (b₀ :: hbody) hpos] [] [] pos) (tTry X.K C i tb th) := by
  refine ⟨fun pins s σ H D I h => ?_⟩
  refine wpAny_Try_except (wpAny_mono (hb.run pins s σ H D _ I h) (fun f s1 q => ?_) fun ev s1 q => ?_)
  · cases f with
    | next => exact wpAny_execs_nil q
    | ret v => exact q
    | brk => exact q
    | cont => exact q
  · obtain ⟨σ1, H0, s0, I0, e, T, cls, od, H', rfl, h1, h2, h3, h4, h5, h6, h7, h8, h9, ⟨C', rfl, hsub⟩, h10⟩ := q
    have J : Inv X pins σ1 H' s1 := I0.call' (ch := []) h1 h3 h4 h2 (fun b z => absurd z (by simp))
    have hfr : X.A.frames = some (X.env :: X.outer) := by rw [← hst]; exact J.ok.frames
    have hstk := J.stack
    rw [hst] at hstk
    refine note_next (base := X.base) hfr hstk hf h9 fun h' T' hT' y m => flight_none (fs := frs (X.env :: X.outer)) y fun h'' y' m' => ?_
    have M1 : Mvd (frs X.stack) [e, T, T'] s1.heap h'' := by rw [hst]; exact (m.mono (by simp)).trans (m'.mono (by simp))
    have fT' : s0.heap.get? T' = none := by
      cases q : s0.heap.get? T' with
      | none => rfl
      | some o =>
        obtain ⟨o', z⟩ := h3.there T' o q (by simp)
        exact absurd (Heap.lt_size z) (Nat.not_lt.mpr hT')
    have hT'n : H' T' = none := J.hok.fresh hT'
    have fx : ∀ b ∈ [e, T, T'], s0.heap.get? b = none ∧ H' b = none := by
      intro b hb
      simp only [List.mem_cons, List.not_mem_nil, or_false] at hb
      rcases hb with rfl | rfl | rfl
      · exact ⟨h5, h7⟩
      · exact ⟨h6, h8⟩
      · exact ⟨fT', hT'n⟩
    have land : ∀ {h3' : Heap}, Mvd (frs X.stack) [e, T, T'] s1.heap h3' → Lies h3' e T' (.ref C') od → Inv X pins σ1 (upd H' e (exk e (.ref C') od)) { s1 with heap := h3' } := fun {h3'} mm ll =>
      I0.call' (s' := { s1 with heap := h3' }) (ch := []) h1 (h3.land mm (fun b hb => (fx b hb).1) h5 h7) (h4.land mm (fun b hb => (fx b hb).2) (fun b hb => J.stkFree b hb) h7 (exk_ok ll)) h2 (fun b z => absurd z (by simp))
    have I1 := land M1 y'
    refine wpAny_handleBy_cons (codeAny_handlers_test ?_) (by intro q; cases q)
    have I1' : Inv (X.to (X.A.mark (some (.ref e))) false (notedBy (model X.prog X.w) (X.A.mark (some (.ref e))) X.env fun x s₁ => True)) pins σ1 (upd H' e (exk e (.ref C') od)) { s1 with heap := h'' } := I1.to rfl (by simp)
    refine ld_glob I1' hg G ?_ hdb
    obtain ⟨oe, vs, oT, ts, a1, a2, a3, a4, a5, a6, a7, a8, a9⟩ := id y'
    refine exc_matches I1.kIn hC a1 a2 hsub ?_
    refine codeAny_handlers_suite_as (flight_none (fs := frs X.stack) y' fun h4' y4 m4 => ?_)
    have I2 := land (M1.trans (m4.mono (by simp))) y4
    refine store_ok (v := .ref e) I2 hN hi (.inl hk) rfl (fun s3 I3 => ?_) (.inr hk)
    refine wpAny_mono ((hh (.ref e) _).run pins s3 _ _ (D.gone i) (I3.to rfl (by simp)) (h10 e h7)) (fun f s4 q => ?_) fun ev s4 q => q
    cases f with
    | next =>
      obtain ⟨σ', H4, I4, q⟩ := q
      exact goes_ok (I4.back I.ok) hN hi hk fun s5 I5 => ⟨_, H4, I5, q⟩
    | ret v =>
      obtain ⟨u, σ', H4, I4, r, q⟩ := q
      exact goes_ok (I4.back I.ok) hN hi hk fun s5 I5 => ⟨u, _, H4, I5, r, q⟩
    | brk =>
      obtain ⟨σ', H4, I4, q⟩ := q
      exact goes_ok (I4.back I.ok) hN hi hk fun s5 I5 => ⟨_, H4, I5, q⟩
    | cont =>
      obtain ⟨σ', H4, I4, q⟩ := q
      exact goes_ok (I4.back I.ok) hN hi hk fun s5 I5 => ⟨_, H4, I5, q⟩
end
end L2

set_option Elab.async false
set_option linter.all false
set_option maxRecDepth 100000
set_option maxHeartbeats 4000000
namespace L2
open PySem PySem.Spec PyProof.Rows
theorem refuse_VE (self : Value) : refuseLoop self "__setattr__" VE = pure () := by kernel_rfl
def overVE : List Value → Bool
  | .ref _ :: r => overVE r
  | l => l == VE
theorem refuse_over (self : Value) : ∀ {l : List Value}, overVE l = true → refuseLoop self "__setattr__" l = pure ()
  | [], e => by cases e
  | .ref c :: r, e => by rw [refuseLoop_ref]; exact refuse_over self e
  | .none :: r, e => by rw [beq_iff_eq.mp (show (_ == _) = true from e)]; exact refuse_VE self
  | .ellipsis :: r, e => by rw [beq_iff_eq.mp (show (_ == _) = true from e)]; exact refuse_VE self
  | .notImplemented :: r, e => by rw [beq_iff_eq.mp (show (_ == _) = true from e)]; exact refuse_VE self
  | .bool _ :: r, e => by rw [beq_iff_eq.mp (show (_ == _) = true from e)]; exact refuse_VE self
  | .int _ _ :: r, e => by rw [beq_iff_eq.mp (show (_ == _) = true from e)]; exact refuse_VE self
  | .float _ _ :: r, e => by rw [beq_iff_eq.mp (show (_ == _) = true from e)]; exact refuse_VE self
  | .str _ _ :: r, e => by rw [beq_iff_eq.mp (show (_ == _) = true from e)]; exact refuse_VE self
  | .bytes _ _ :: r, e => by rw [beq_iff_eq.mp (show (_ == _) = true from e)]; exact refuse_VE self
  | .type _ :: r, e => by rw [beq_iff_eq.mp (show (_ == _) = true from e)]; exact refuse_VE self
  | .builtin _ :: r, e => by rw [beq_iff_eq.mp (show (_ == _) = true from e)]; exact refuse_VE self
theorem over_has : ∀ {l : List Value}, overVE l = true → l.contains (.type "object") = true ∧ l.contains (.type "BaseException") = true := by
  intro l
  induction l with
  | nil => intro e; cases e
  | cons c r ih =>
    intro e
    cases c with
    | ref a => obtain ⟨x, y⟩ := ih e; exact ⟨by rw [List.contains_cons, x, Bool.or_true], by rw [List.contains_cons, y, Bool.or_true]⟩
    | _ => rw [beq_iff_eq.mp (show (_ == _) = true from e)]; decide
structure ExC (K : PySem.W.Frag) (C : Addr) : Prop where
  ov : ((PySem.W.clsIn K C).any fun cd => overVE cd.mro) = true
  hd : PySem.W.hasDictIn K C = true
  ga : PySem.W.findIn K (.ref C) "__getattribute__" = some (some (.builtin "BaseException.__getattribute__"))
  gt : PySem.W.findIn K (.ref C) "__getattr__" = some none
  sa : PySem.W.findIn K (.ref C) "__setattr__" = some (some (.builtin "object.__setattr__"))
  dc : PySem.W.typeIn K (.ref C) = some (.type "type")
section
open PySem.W PySem.Builtin PySem.Builtin.ObjectAttr
variable {prog : Program} {w : World} {A : Around} {E : Value → Shared → Prop} {s : Shared} {K : Frag} {x C : Addr} {ox : Obj} {od : Option Obj} {name : Str} {R : Result → Shared → Prop}
theorem osa_exc {tk : Tok} {v : Value} (X : K.In s.heap) (I : PySem.W.InstAt s.heap x ox C od) (c : ExC K C) (ht : takerIn K C name = some none)
    (h : ∀ b, wpAny (model prog w) A.in1 (storeInOwnDict (.ref x) (.ref C) (.str name tk) name v b)
      (fun fin s' => match fin with | .done f => R (.ok f) s' | .again c' => c'.quiet = true ∧ codeAny (model prog w) A c' R s') (fun e s' => R (.error e) s') s) :
    codeAny (model prog w) A (.call (.builtin "object.__setattr__") ⟨[.ref x, .str name tk, v], []⟩) R s := by
  have SF := PySem.F.store_object
  obtain ⟨cd, hc, ho⟩ := any_some c.ov
  have ne : cd.mro.isEmpty = false := by cases q : cd.mro with | nil => rw [q] at ho; cases ho | cons _ _ => rfl
  have sub : Looks (model prog w) s.heap (isInstance (.ref x) (.type "object")) true := I.type.andThen (looks_mroIn X (by unfold mroIn; rw [hc, Option.bind_some, if_neg (by rw [ne]; decide), (over_has ho).1]))
  refine codeAny_call_builtin SF.slot.plain SF.entry (@check_slot (model prog w) _ _ s "object.__setattr__" "object" "__setattr__" (.ref x) [.str name tk, v] [] _ SF.kind SF.split sub (SF.args (.ref x) (.str name tk) v) ?_)
  obtain ⟨attr, ha, hr⟩ := Option.bind_eq_some_iff.mp ht
  have hm : Looks (model prog w) s.heap (mroOf (.ref C)) cd.mro := (looks_clsIn X hc).andThen .now
  have L3 : Looks (model prog w) s.heap (storeTaker? attr) none := by
    cases attr with
    | none => exact .now
    | some a =>
      obtain ⟨b, hb, hz⟩ := Option.map_eq_some_iff.mp hr
      refine (looks_takesIn X hb).andThen ?_
      cases b
      · exact .now
      · cases hz
  rw [osa_eq, refuse_eq]
  refine wpAny_bind (wpAny_bind (I.type.here (wpAny_bind (hm.here ?_))))
  rw [refuse_over _ ho]
  refine wpAny_pure (wpAny_bind (I.type.here (wpAny_bind ((looks_findIn X ha).here (wpAny_bind (L3.here ?_))))))
  exact h _
theorem get_exc {expr : Bool} {v : Value} {Q : Value → Shared → Prop} (X : K.In s.heap) (I : PySem.W.InstAt s.heap x ox C od) (c : ExC K C) (hf : findObj K C od name = some (.value v)) (hh : handedIn v = true) (h : Q v { s with toks := s.toks + 1 }) :
    wpAny (model prog w) A (getAttr (.ref x) name expr) Q E s := by
  obtain ⟨hp, g, d, t, os⟩ := s
  have L0 := I.type (M := model prog w)
  have L1 := looks_findIn (M := model prog w) X c.ga
  have L2 := looks_findIn (M := model prog w) X c.gt
  have L3 := looks_find (M := model prog w) X I hf
  have L4 : Looks (model prog w) hp (isInstance (.ref x) (.type "BaseException")) true := by
    obtain ⟨cd, hc, ho⟩ := any_some c.ov
    have ne : cd.mro.isEmpty = false := by cases q : cd.mro with | nil => rw [q] at ho; cases ho | cons _ _ => rfl
    exact I.type.andThen (looks_mroIn X (by unfold mroIn; rw [hc, Option.bind_some, if_neg (by rw [ne]; decide), (over_has ho).2]))
  have f3 := PySem.F.attr_ValueError.ga.bind (.ref x)
  have hx0 : (expr && onTheHeap (Value.builtin "BaseException.__getattribute__")) = false := by cases expr <;> rfl
  have hx2 : (Value.builtin "BaseException.__getattribute__" == Value.builtin "object.__getattribute__") = false := by decide +kernel
  have hx1 : (onTheHeap (Value.ref C) && Value.builtin "BaseException.__getattribute__" == Value.builtin "object.__getattribute__") = false := by rw [hx2]; rfl
  unfold getAttr getAttrBy
  refine wpAny_bind (wpAny_mkText (wpAny_holding (wpAny_bind (L0.at (wpAny_bind (L1.at ?_))))))
  dsimp only
  rw [hx1]
  simp only [Bool.false_eq_true, if_false]
  unfold getAttrByItsOwn hookBefore callGetattribute
  rw [if_pos (show onTheHeap (Value.ref C) = true from rfl), hx0]
  refine wpAny_bind (L2.at ?_)
  simp only [Bool.false_eq_true, if_false]
  unfold boundAndCalled
  rw [f3]
  have hk : builtinKind "BaseException.__getattribute__" = some .slot := by decide +kernel
  have hsplit : splitId "BaseException.__getattribute__" = some ("BaseException", "__getattribute__") := by decide +kernel
  refine wpAny_bind (wpAny_attempt (wpAny_holding (wpAny_bind (wpAny_pure (wpAny_call (codeAny_call_builtin PySem.F.attr_ValueError.ga.plain PySem.F.entry_bexc_ga (@check_slot (model prog w) _ _ ⟨hp, g, d, t + 1, os⟩ "BaseException.__getattribute__" "BaseException" "__getattribute__" (.ref x) [.str name t] [] _ hk hsplit L4 (PySem.F.args_bexc_ga (.ref x) (.str name t)) ?_)))))))
  show wpAny _ _ (Builtin.«object.__getattribute__» ⟨[.ref x, .str name t], []⟩) _ _ _
  refine wpAny_bind (wpAny_pure (wpAny_bind (wpAny_pure (wpAny_bind (L0.at (wpAny_bind (L3.at ?_)))))))
  refine wpAny_pure ?_
  show wpAny _ _ (handedOut v) _ _ _
  rw [handedOut_of hh]; exact wpAny_pure h
end
end L2

set_option Elab.async false
set_option linter.all false
set_option maxRecDepth 100000
set_option maxHeartbeats 4000000
namespace L2
open PySem PySem.Spec PyProof.Rows
def exm (a : Addr) (cls : Value) (od : Option Addr) : HO := .ext fun h => Made h a cls od
theorem exm_ok {P : Program} {w : World} {H : Hp} {h : Heap} {a : Addr} {cls : Value} {od : Option Addr} (x : Made h a cls od) : ObjOk P w H h a (exm a cls od) := by
  obtain ⟨oe, vs, a1, a2⟩ := id x
  refine ⟨x, ⟨oe, a1⟩, fun h1 h2 q k => ?_⟩
  obtain ⟨o, vs, q1, q2⟩ := q
  exact ⟨o, vs, k o q1, q2⟩
theorem exm_at {P : Program} {w : World} {H : Hp} {h : Heap} {a : Addr} {cls : Value} {od : Option Addr} (x : ObjOk P w H h a (exm a cls od)) : Made h a cls od := x.1
theorem exk_at {P : Program} {w : World} {H : Hp} {h : Heap} {a : Addr} {cls : Value} {od : Option Addr} (x : ObjOk P w H h a (exk a cls od)) : ∃ o vs, h.get? a = some o ∧ o.cls = cls ∧ o.dict = od ∧ o.data = .fields vs := x.1
def del (H : Hp) (a : Addr) : Hp := fun b => if b = a then none else H b
theorem del_same {H : Hp} {a : Addr} : del H a a = none := by unfold del; rw [if_pos rfl]
theorem del_ne {H : Hp} {a b : Addr} (h : b ≠ a) : del H a b = H b := by unfold del; rw [if_neg h]
section
variable {X : Cx} {pins : List (Addr × Obj)} {σ : St} {H : Hp} {s : Shared}
theorem Inv.del {a : Addr} {φ : Heap → Prop} (I : Inv X pins σ H s) (h0 : X.s₀.heap.get? a = none) (e : H a = some (.ext φ)) : Inv X pins σ (L2.del H a) s := by
  have fr : ∀ b, H b = none → L2.del H a b = none := fun b q => by
    unfold L2.del; split
    · rfl
    · exact q
  have st : ∀ b o, H b = some o → (∀ φ, o ≠ .ext φ) → L2.del H a b = some o := fun b o q n => by
    rw [del_ne fun z => by rw [z, e] at q; cases q; exact n φ rfl]
    exact q
  refine ⟨I.ok, I.os, I.bare, ⟨I.base.keep, I.base.slot, fun b o q n hx => fr b (I.base.free b o q n hx), I.base.there, fun b xs q => st b _ (I.base.tups b xs q) (by intro φ z; cases z), fun b o u q => st b _ (I.base.frzs b o u q) (by intro φ z; cases z), fun b ps q => ?_⟩, I.loc, I.cell, fr _ I.free, fun x c q => fr _ (I.freeC x c q), fun p hp => ?_, fun b o q => ?_, I.len⟩
  · obtain ⟨more, z⟩ := I.base.tbls b ps q
    exact ⟨more, st b _ z (by intro φ z; cases z)⟩
  · obtain ⟨q1, q2, q3⟩ := I.pin p hp
    exact ⟨q1, fr _ q2, q3⟩
  · have hb : b ≠ a := fun z => by rw [z, del_same] at q; cases q
    rw [del_ne hb] at q
    exact (I.hok b o q).stay (fun _ _ _ z => z) (fun c z => st c _ z (by intro φ z; cases z)) fun c xs z => st c _ z (by intro φ z; cases z)
end
section
variable {X : Cx} {pins : List (Addr × Obj)} {σ : St} {H : Hp} {s : Shared} {a C : Addr} {f : Str} {A : Around} {E : Value → Shared → Prop}
open PySem.W PySem.Builtin PySem.Builtin.ObjectAttr
theorem setattr_exm {y : V} {u : Value} {Q : Unit → Shared → Prop} (I : Inv X pins σ H s) (e : H a = some (exm a (.ref C) none)) (c : ExC X.K C) (n : NoAttr X.K C f) (ry : RelV y u)
    (h : ∀ d s', H d = none → d ≠ a → Inv X pins σ (upd (upd H d (.xd [(f, y)])) a (exm a (.ref C) (some d))) s' → Q () s') : wpAny (model X.prog X.w) A (setAttr (.ref a) f u) Q E s := by
  obtain ⟨oe, vs, a1, a2, a3, a4, a5⟩ := exm_at (I.hok a _ e)
  have J : PySem.W.InstAt s.heap a oe C none := ⟨a1, a2, by unfold notCls; rw [a4], by rw [a3]; trivial⟩
  refine PySem.W.set_plain I.kIn J c.sa (osa_exc (s := { s with toks := s.toks + 1 }) I.kIn J c n.taker fun b => ?_)
  obtain ⟨cd, hc, hd'⟩ := PySem.W.any_some c.hd
  obtain ⟨oc, odi, oda, osl⟩ := oe
  dsimp only at a2 a3 a4
  subst a2 a3 a4
  refine wpAny_bind (wpAny_pure (wpAny_bind (wpAny_bind (wpAny_loadPart a1 (wpAny_bind (PySem.W.Looks.here (s := { s with toks := s.toks + 1 }) (PySem.W.looks_clsIn I.kIn hc) ?_))))))
  rw [hd']
  show wpAny _ _ (alloc { cls := Value.type "dict", data := Data.dict #[] } >>= fun d => update a (fun o => { o with dict := some d }) >>= fun _ => dictMade (.ref C) a d) _ _ _
  have sz : a < s.heap.objs.size := Heap.lt_size a1
  have ne : s.heap.objs.size ≠ a := Nat.ne_of_gt sz
  generalize hoD : ({ cls := Value.type "dict", data := Data.dict #[] } : Obj) = oD
  have fD : oD.isFreed = false := by rw [← hoD]; rfl
  refine wpAny_bind (wpAny_alloc ?_)
  have b1 : (s.heap.push oD).get? a = some { cls := Value.ref C, data := Data.fields vs, slots := osl } := Heap.get?_push_of_some _ a1
  refine wpAny_bind (wpAny_update b1 ?_)
  refine wpAny_pure ?_
  dsimp only
  have b2 : ((s.heap.push oD).update a fun o => { o with dict := some s.heap.objs.size }).get? a = some { cls := Value.ref C, dict := some s.heap.objs.size, data := Data.fields vs, slots := osl } := Heap.get?_update_self _ b1 rfl
  have b3 : ((s.heap.push oD).update a fun o => { o with dict := some s.heap.objs.size }).get? s.heap.objs.size = some oD := (Heap.get?_update_other _ _ (Ne.symm ne)).trans (Heap.get?_push_size _ fD)
  have b4 : ∀ b o, b ≠ a → s.heap.get? b = some o → ((s.heap.push oD).update a fun o => { o with dict := some s.heap.objs.size }).get? b = some o := fun b o hb q => (Heap.get?_update_other _ _ (Ne.symm hb)).trans (Heap.get?_push_of_some _ q)
  generalize ((s.heap.push oD).update a fun o => { o with dict := some s.heap.objs.size }) = h1 at b2 b3 b4 ⊢
  have n0 : h1.Ns s.heap.objs.size (fun _ => none) := ⟨oD, #[], _, b3, by rw [← hoD], (fun e he => absurd he (by simp)), fun _ => rfl⟩
  have n1 : h1.Ns1 s.heap.objs.size (fun _ => none) := Heap.Ns1.of_empty n0
  unfold storeInDict
  refine wpAny_bind (wpAny_pure (wpAny_bind ?_))
  refine wpAny_nsSet1 (s := ⟨h1, s.gens, s.drawn, s.toks + 1, s.os⟩) n1 fun h2 hn2 hs2 => ?_
  obtain ⟨oD2, esD, epD, hoD2, hdD, hcD⟩ := hn2.count (PySem.Within.cons (ns := []) f u fun y hy => absurd rfl hy)
  refine wpAny_bind (wpAny_lookBehind hoD2 (by rw [hdD]; exact pastItsLine_dict (Nat.le_trans hcD (by rw [List.length_cons]; decide))) ?_)
  refine wpAny_pure (h s.heap.objs.size _ (I.hok.fresh (Nat.le_refl _)) ne ?_)
  have fD2 : oD2.isFreed = false := by
    obtain ⟨c0, d0, t0, s0⟩ := oD2
    dsimp only at hdD
    subst hdD
    rfl
  have k1 := Heap.get?_push_size s.heap fD2
  have n2 : (s.heap.push oD2).Ns1 s.heap.objs.size (fun x => if x = f then some u else none) := by
    refine hn2.at fun o q => ?_
    rw [hoD2] at q
    cases q
    exact k1
  have I1 := I.laid (a := s.heap.objs.size) (o := .xd [(f, y)]) (h' := s.heap.push oD2) (t' := s.toks) (fun b u q => Heap.get?_push_of_some _ q) (Nat.le_refl _) ⟨_, n2, fun g => by
    by_cases q : g = f
    · rw [if_pos q, q, List.lookup_cons_self]; exact ry
    · rw [if_neg q]
      have : (g == f) = false := by simpa using q
      rw [List.lookup_cons, this]
      exact True.intro⟩
  have ne' : upd H s.heap.objs.size (.xd [(f, y)]) a = some (exm a (.ref C) none) := by rw [upd_ne (Ne.symm ne)]; exact e
  refine I1.write (x := a) (e := a) (h' := h2) (t' := s.toks + 1 + 1) (by rw [ne']; exact True.intro) (.inl rfl) (fun b w hb q => ?_) ⟨_, (hs2.2 a (Ne.symm ne)).trans b2⟩ (exm_ok ⟨_, vs, (hs2.2 a (Ne.symm ne)).trans b2, rfl, rfl, rfl, a5⟩)
  by_cases hb2 : b = s.heap.objs.size
  · rw [hb2] at q ⊢
    rw [k1] at q
    rw [← q]
    exact hoD2
  · have q' : s.heap.get? b = some w := by
      rw [Heap.get?_push_ne _ _ _ hb2] at q
      exact q
    exact (hs2.2 b hb2).trans (b4 b w hb q')
theorem getattr_exk {expr : Bool} {d : Addr} {fs : List (Str × V)} {v : V} {Q : Value → Shared → Prop} (I : Inv X pins σ H s) (e : H a = some (exk a (.ref C) (some d))) (ed : H d = some (.xd fs)) (c : ExC X.K C) (n : NoAttr X.K C f) (l : fs.lookup f = some v)
    (h : ∀ u s', Inv X pins σ H s' → RelV v u → Q u s') : wpAny (model X.prog X.w) A (getAttr (.ref a) f expr) Q E s := by
  obtain ⟨oe, vs, a1, a2, a3, a4⟩ := exk_at (I.hok a _ e)
  obtain ⟨mA, nA, r⟩ := I.hok d _ ed
  obtain ⟨od, hod, hl⟩ := lookIn_ns nA
  obtain ⟨u, hu, ru⟩ := RelO.some_of (v := v) (o := mA f) (by rw [← l]; exact r f)
  have J : PySem.W.InstAt s.heap a oe C (some od) := ⟨a1, a2, by unfold notCls; rw [a4], by rw [a3]; exact hod⟩
  exact get_exc I.kIn J c (PySem.W.findObj_own c.hd n rfl (by rw [hl, hu])) (handed_of ru) (h u _ (I.tok _) ru)
end
section
variable {X : Cx} {o e value : Expr} {f : Str} {pos pos' : Pos} {ta tv : TE}
def tXset (K : PySem.W.Frag) (ta tv : TE) (f : Str) : TS := fun D σ H => tv σ H fun y H1 => ta σ H1 fun x H2 => ∃ a C, x = .ref a ∧ H2 a = some (exm a (.ref C) none) ∧ ExC K C ∧ NoAttr K C f ∧ ∀ d, H2 d = none → d ≠ a → D.nx σ (upd (upd H2 d (.xd [(f, y)])) a (exm a (.ref C) (some d)))
theorem qs_xset (ha : QE X o ta) (hv : QE X value tv) (hs : swapsWith value (some (.Attribute o f pos')) pos.line X.env = pure false := by rfl) : QS X (.Assign [.Attribute o f pos'] value pos) (tXset X.K ta tv f) := by
  refine ⟨fun pins s σ H D I h => ?_⟩
  refine plainObj_wpAny_Assign_Attribute (thn (hv.run pins s σ H _ I h) fun u s1 ⟨y, H1, I1, ry, q⟩ => thn (ha.run pins s1 σ H1 _ I1 q) fun ov s2 ⟨x, H2, I2, rx, a, C, ex, ea, c, n, q2⟩ => ?_) hs
  subst ex
  obtain rfl : ov = Value.ref a := rx
  exact setattr_exm I2 ea c n ry fun d s3 hd hda I3 => ⟨σ, _, I3, q2 d hd hda⟩
def tXget (K : PySem.W.Frag) (ta : TE) (f : Str) : TE := fun σ H Q => ta σ H fun x H1 => ∃ a C d fs v, x = .ref a ∧ H1 a = some (exk a (.ref C) (some d)) ∧ H1 d = some (.xd fs) ∧ ExC K C ∧ NoAttr K C f ∧ fs.lookup f = some v ∧ Q v H1
theorem qe_xget (he : QE X e ta) (hb : attributeBase e f X.env (eval e X.env) = eval e X.env := by rfl) : QE X (.Attribute e f pos) (tXget X.K ta f) := by
  refine ⟨fun pins s σ H Q I h => ?_⟩
  refine attr_of hb (thn (he.run pins s σ H _ I h) fun u s1 ⟨x, H1, I1, rx, a, C, d, fs, v, ex, ea, ed, c, n, l, q⟩ => ?_)
  subst ex
  obtain rfl : u = Value.ref a := rx
  exact getattr_exk I1 ea ed c n l fun u' s2 I2 ru => ⟨v, H1, I2, ru, q⟩
end
section
open PySem.W
end
end L2

set_option Elab.async false
set_option linter.all false
set_option maxRecDepth 100000
set_option maxHeartbeats 4000000
namespace L2
open PySem PySem.Spec PyProof.Rows
def excI (K : PySem.W.Frag) (C : Addr) : Bool := match K.lookup C with
  | some ⟨.type "type", _, .cls cd, sl⟩ => (match cd.mro, sl.toList with
    | .ref C' :: bm, [_, _, _, _, some (.builtin n), _] => C' == C && n == "ValueError.__new__" && !cd.hasDel && PySem.W.tailIn K VE bm
    | _, _ => false)
  | _ => false
theorem excI_in {K : PySem.W.Frag} {C : Addr} (q : excI K C = true) :
    ∃ bm N nm q bs hdct sn sub ab col dd k0 k1 k2 k3 k5, ∀ h : Heap, K.In h → h.get? C = some (excClassObj nm q C N bs bm hdct sn sub ab col dd k0 k1 k2 k3 k5 "ValueError.__new__") ∧ OwnTail h VE bm := by
  unfold excI at q
  split at q
  · rename_i dd cd sl ho
    split at q
    · rename_i C' bm k0 k1 k2 k3 n k5 hm hs
      simp only [Bool.and_eq_true, beq_iff_eq, Bool.not_eq_true'] at q
      obtain ⟨⟨⟨rfl, rfl⟩, hdel⟩, ht⟩ := q
      obtain ⟨nm, bs, mro, ns, qn, hd, sn, sub, ab, col, del⟩ := cd
      dsimp only at hm hdel
      subst hm hdel
      have hsl : sl = #[k0, k1, k2, k3, some (.builtin "ValueError.__new__"), k5] := by
        obtain ⟨l⟩ := sl
        simp only at hs
        rw [hs]
      subst hsl
      exact ⟨bm, ns, nm, qn, bs, hd, sn, sub, ab, col, dd, k0, k1, k2, k3, k5, fun h kin => ⟨kin _ _ ho, PySem.W.tail_of_in kin ht⟩⟩
    · cases q
  · cases q
section
variable {prog : Program} {w : World} {A : Around} {E : Value → Shared → Prop} {h : Heap} {g : Array GenState} {d : Drawn} {t : Nat} {os : OsState}
variable {nm q : Str} {C N : Addr} {bs bm bmB : List Value} {hdct : Bool} {sn : List Str} {sub : List Value} {ab : Bool} {col : Option Bool} {dd : Option Addr} {k0 k1 k2 k3 k5 : Option Value} {B Bn newId nid initId inN : String} {bmN : List Value}
theorem type_call_excI {K : PySem.W.Frag} (Fn : ExcBaseFacts Bn newId inN bmN) (hBn : bmB.contains (.type Bn) = true) (F : ExcBaseFacts B nid initId bmB) (T : OwnTail h bmB bm) {rest : List Value} {fI : Addr} {Q : Fin → Shared → Prop} (X : K.In h)
    (hC : h.get? C = some (excClassObj nm q C N bs bm hdct sn sub ab col dd k0 k1 k2 k3 k5 newId)) (hi : PySem.W.findIn K (.ref C) "__init__" = some (some (.ref fI))) (hf : PySem.W.typeIn K (.ref fI) = some (.type "function"))
    (hq : ∀ h' e, Heap.MadeExcOf h h' e (.ref C) rest →
      wpAny (model prog w) A (call (.ref fI) (.ref e :: rest)) (fun r s' => r = .none ∧ Q (.done (.ret (.ref e))) s') E ⟨h', g, d, t, os⟩) (hrest : rest.length ≤ sizeLine := by size_fits) :
    wpAny (model prog w) A (Builtin.«type.__call__» ⟨.ref C :: rest, []⟩) Q E ⟨h, g, d, t, os⟩ := by
  repeat (first | with_reducible refine wpAny_loadPart_at hC ?_ | with_reducible refine wpAny_madeBy_exc hC ?_ | wp_step)
  refine codeAny_call_builtin_code (Code.quiet_builtin _ Fn.quiet) (wpAny_check_new_subU Fn hBn T hC ?_)
  refine codeAny_exc_new_subU Fn hBn F T hC ?_ hrest
  show wpAny _ _ _ _ _ _
  have hC₁ := Heap.get?_push_of_some { cls := .ref C, data := .fields #[.ref h.objs.size, .none, .none, .none, .bool false, .none] }
    (Heap.get?_push_of_some { cls := .type "tuple", data := .seq rest.toArray } hC)
  have hget : ((h.push { cls := .type "tuple", data := .seq rest.toArray }).push
      { cls := .ref C, data := .fields #[.ref h.objs.size, .none, .none, .none, .bool false, .none] }).get? (h.objs.size + 1) = some
      { cls := .ref C, data := .fields #[.ref h.objs.size, .none, .none, .none, .bool false, .none] } := by heap_get
  have hcC : (Value.ref C :: bm).contains (.ref C) = true := by simp
  have X₁ : K.In ((h.push { cls := .type "tuple", data := .seq rest.toArray }).push { cls := .ref C, data := .fields #[.ref h.objs.size, .none, .none, .none, .bool false, .none] }) := fun b o e => Heap.get?_push_of_some _ (Heap.get?_push_of_some _ (X b o e))
  unfold isInstance
  repeat (first | with_reducible refine wpAny_loadPart_at hget ?_ | (with_reducible refine wpAny_isSubtype_exc hC₁ ?_; rw [hcC]) | wp_step)
  show wpAny _ _ (typeLookup (.ref C) _) _ _ _
  refine (PySem.W.looks_findIn X₁ hi).at ?_
  refine wpAny_holding (wpAny_bind ((PySem.W.bind_fn X₁ _ hf).at ?_))
  refine wpAny_bind (wpAny_mono (hq _ (h.objs.size + 1) ⟨fun b o hb => Heap.get?_push_of_some _ (Heap.get?_push_of_some _ hb), Heap.get?_none_of_le (Nat.le_succ _), h.objs.size, hget, Heap.get?_none_of_le (Nat.le_refl _), ?_⟩) (fun r s' hr => ?_) fun _ _ x => x)
  · exact Heap.get?_push_of_some _ (Heap.get?_push_at rfl rfl)
  · obtain ⟨rfl, hQ⟩ := hr
    wp_walk
    exact hQ
theorem call_excI {K : PySem.W.Frag} (Fn : ExcBaseFacts Bn newId inN bmN) (hBn : bmB.contains (.type Bn) = true) (F : ExcBaseFacts B nid initId bmB) (T : OwnTail h bmB bm) {rest : List Value} {fI : Addr} {Q : Value → Shared → Prop} (X : K.In h)
    (hC : h.get? C = some (excClassObj nm q C N bs bm hdct sn sub ab col dd k0 k1 k2 k3 k5 newId)) (hi : PySem.W.findIn K (.ref C) "__init__" = some (some (.ref fI))) (hf : PySem.W.typeIn K (.ref fI) = some (.type "function"))
    (hq : ∀ h' e, Heap.MadeExcOf h h' e (.ref C) rest →
      wpAny (model prog w) (A.under (.builtin "type.__call__" ⟨.ref C :: rest, []⟩)) (call (.ref fI) (.ref e :: rest)) (fun r s' => r = .none ∧ Q (.ref e) s') E ⟨h', g, d, t, os⟩) (hrest : rest.length ≤ sizeLine := by size_fits) :
    wpAny (model prog w) A (call (.ref C) rest) Q E ⟨h, g, d, t, os⟩ := by
  have f1 := tc_lookup
  have f2 := tc_bind (.ref C)
  have hT : (⟨h, g, d, t, os⟩ : Shared).TypeIs (.ref C) "type" := ⟨_, hC, rfl⟩
  refine wpAny_call (codeAny_of_tree ?_)
  show wpAny _ _ (callAny (.ref C) _) _ _ _
  repeat (any_goals (first | assumption | with_reducible refine wpAny_loadPart_at hC ?_ | wp_step))
  refine ⟨rfl, ?_⟩
  refine codeAny_call_builtin_at (Code.quiet_builtin _ (by decide +kernel)) entry_typeCall (wpAny_check_type_call_sub hC (type_call_excI (hrest := hrest) Fn hBn F T X hC hi hf fun h' e hm => ?_))
  exact hq h' e hm
end
theorem raise_inst {K : PySem.W.Frag} {M : Model} {A : Around} {E : Value → Shared → Prop} {s : Shared} {env : Env} {x : Sem Value} {Q : Flow → Shared → Prop} {C : Addr} (hh : A.handled = none) (hb : PySem.W.subIn K (.ref C) (.type "BaseException") = some true) (hty : PySem.W.typeIn K (.ref C) = some (.type "type"))
    (h : wpAny M A x (fun v s₁ => ∃ e od, v = .ref e ∧ K.In s₁.heap ∧ Made s₁.heap e (.ref C) od ∧ E (.ref e) s₁) E s) : wpAny M A (raiseStmt env (some x) none) Q E s := by
  unfold raiseStmt
  refine wpAny_bind (wpAny_mono h (fun v s₁ h₁ => ?_) fun _ _ x => x)
  obtain ⟨e, od, rfl, X, ⟨oe, vs, a1, a2, a3, a4, a5⟩, hE⟩ := h₁
  have L3 := PySem.W.looks_subIn (M := M) X hb
  have L4 : PySem.W.Looks M s₁.heap (typeOf (.ref e)) (.ref C) := by
    intro A' Q' E' s' k q
    unfold typeOf
    exact wpAny_bind (wpAny_loadPart (k _ _ a1) (wpAny_pure (by rw [a2]; exact q)))
  have L5 : PySem.W.Looks M s₁.heap (isInstance (.ref e) (.type "BaseException")) true := L4.andThen L3
  have L6 : PySem.W.Looks M s₁.heap (isType (.ref e)) false := by
    intro A' Q' E' s' k q
    unfold isType loadHead
    refine wpAny_bind (wpAny_loadPart (k _ _ a1) ?_)
    rw [a4]
    exact wpAny_pure q
  have L7 : PySem.W.Looks M s₁.heap (typeOf (.ref C)) (.type "type") := PySem.W.looks_typeIn X hty
  unfold excFromValue isExcClass raisedInstance
  obtain ⟨hp, g, d, tk, os⟩ := s₁
  repeat (first | with_reducible refine L6.at ?_ | with_reducible refine L5.at ?_ | with_reducible refine L4.at ?_ | with_reducible refine L7.at ?_ | wp_step)
  rw [a4]
  refine wpAny_pure ?_
  dsimp only
  rw [a5]
  refine wpAny_pure ?_
  rw [if_neg (by decide)]
  exact wpAny_pure (wpAny_raiseNew_none hh hE)
section
variable {X : Cx} {k : Nat} {x : Str} {sp : Sp} {ps : List Str} {C f : Addr} {fd : FuncData} {np cpos pos : Pos} {a : Expr} {t : TA} {E : XK}
structure Rz (K : PySem.W.Frag) (C f : Addr) : Prop where
  ei : excI K C = true
  init : PySem.W.findIn K (.ref C) "__init__" = some (some (.ref f))
  fn : PySem.W.isFn K (.ref f) = true
  kp : PySem.W.keepIn K (.ref C) = true
  bs : PySem.W.subIn K (.ref C) (.type "BaseException") = some true
  ty : PySem.W.typeIn K (.ref C) = some (.type "type")
def tRz (C : Addr) (sp : Sp) (E : XK) (t : TA) : TS := fun D σ H => t σ H fun vs H1 => vs.length ≤ sizeLine ∧ ∀ e, H1 e = none → sp (.ref e :: vs) (upd H1 e (exm e (.ref C) none)) (fun v H2 => v = .non ∧ ∃ od, H2 e = some (exm e (.ref C) od) ∧ E (.ref C) od (del H2 e)) (fun _ _ _ => False)
theorem qs_raiseI (hc : X.calm = true) (R : Rz X.K C f) (F : FnOk X.prog X.w X.K X.mg X.base CX0 k f fd ps sp) (hr : Room (k + 1) X.A) (hb : Binds X.K fd ps []) (G : X.mg x = some (.ref C)) (ha : QA X [a] t) (hx : Raises X E) (hex : X.ex = []) (hg : Gl X x := by rfl) (hdb : (x == ("__debug__" : Str)) = false := by decide)
    (he : starEach [a] X.env = (false, eval a X.env) :: starEach [] X.env := by rfl) (hpl : (backTo cpos (starEach [] X.env)).any (·.1) = false := by rfl) : QS X (.Raise (some (.Call (.Name x np) [a] [] cpos)) none pos) (tRz C sp E t) := by
  refine ⟨fun pins s σ H D I h => ?_⟩
  rw [arm_exec_Raise]
  refine wpAny_bind (wpAny_standAt (raise_inst (K := X.K) (C := C) (I.ok.hd hc) R.bs R.ty (wpAny_bind (wpAny_mono (wpAny_Call_Name_kw (ld_glob I hg G ?_ hdb)) (fun v s₃ h₃ => wpAny_bind (wpAny_standAt (wpAny_pure h₃))) fun _ _ x => x))))
  refine PySem.W.callWith_K (h₀ := X.base) I.ok.mod.kin R.kp (thn (ha.run cpos pins s σ H _ I h) fun us s1 ⟨vs, H1, I1, r, hz, q⟩ => ⟨I1.kIn, ?_⟩) he hpl
  obtain ⟨bm, N, nm, qn, bs, hdct, sn, sub, ab, col, dd, k0, k1, k2, k3, k5, cl⟩ := excI_in R.ei
  obtain ⟨cC, cT⟩ := cl _ I1.kIn
  obtain ⟨hp, g, d, tk, os⟩ := s1
  refine call_excI PySem.F.excBase_ValueError (by decide) PySem.F.excBase_ValueError cT I1.kIn cC R.init (beq_iff_eq.mp R.fn) (fun h' e hm => ?_) (by show us.length ≤ sizeLine; rw [← r.length]; exact hz)
  obtain ⟨t', e1, _, _⟩ := hm.there
  have hn : H1 e = none := I1.hok.no hm.new
  have mk : Made h' e (.ref C) none := ⟨_, _, e1, rfl, rfl, rfl, rfl⟩
  have rf : Mvd (frs X.stack) [] h' h' := ⟨fun _ _ _ _ q => q, fun _ o _ q => ⟨o.slots, q⟩⟩
  have I2 : Inv X pins σ (upd H1 e (exm e (.ref C) none)) ⟨h', g, d, tk, os⟩ := I1.call' (s' := ⟨h', g, d, tk, os⟩) (ch := []) rfl ((Un.kept hm.keeps).land rf (fun b hb => absurd hb (by simp)) hm.new hn) ((I1.hok.kept hm.keeps).land rf (fun b hb => absurd hb (by simp)) (fun b hb => I1.stkFree b hb) hn (exm_ok mk)) I1.bare (fun b z => absurd z (by simp))
  have hq := q e hn
  have r2 : Vals (V.ref e :: vs) (Value.ref e :: us) := .cons rfl r
  have hl : (Value.ref e :: us).length = ps.length := by
    have z := r2.length
    rw [F.len _ _ _ _ hq] at z
    exact z.symm
  have hb' := hb ⟨h', g, d, tk, os⟩ (Value.ref e :: us) I2.kIn (by simpa using hl)
  rw [List.append_nil] at hb'
  refine wpAny_call (codeAny_mono (F.run _ X.stack _ _ ⟨Value.ref e :: us, []⟩ (Value.ref e :: us) _ _ _ (hr.make C us []) (I2.env0.make C us []) hb' r2 hq) fun r s' hq' => ?_)
  cases r with
  | error e => exact False.elim hq'
  | ok fl =>
    cases fl with
    | ret u =>
      obtain ⟨v, H', I3, rv, ev, od, q3, q4⟩ := I2.after hq'
      subst ev
      obtain rfl : u = Value.none := rv
      have h0 := I1.old hex hm.new
      exact ⟨rfl, e, od, rfl, I3.kIn, exm_at (I3.hok e _ q3), hx pins σ _ s' e _ od (I3.del h0 q3) (exm_at (I3.hok e _ q3)) h0 del_same q4⟩
    | next => exact False.elim hq'
    | brk => exact False.elim hq'
    | cont => exact False.elim hq'
end
end L2

set_option Elab.async false
set_option linter.all false
namespace L2
open PySem PySem.Spec PyProof.Rows
theorem qe_xgetK {X : Cx} {e : Expr} {f : Str} {pos : Pos} {ta : TE} (K : PySem.W.Frag) (he : QE X e ta) (hK : X.K = K := by rfl) (hb : attributeBase e f X.env (eval e X.env) = eval e X.env := by rfl) : QE X (.Attribute e f pos) (tXget K ta f) := by subst hK; exact qe_xget he hb
end L2

set_option Elab.async false
set_option linter.all false
set_option maxRecDepth 100000
set_option maxHeartbeats 4000000
namespace L2
open PySem PySem.Spec PyProof.Rows
structure RoomN (k : Nat) (A : Around) : Prop where
  dp : A.depth + 3 * k + 5 < recursionLimit
  un : A.units + 16 * k + 200 < cLine
theorem Room.n {k : Nat} {A : Around} (r : Room k A) : RoomN k A := ⟨r.dp, r.un⟩
theorem RoomN.mono {j k : Nat} {A : Around} (r : RoomN k A) (h : j ≤ k) : RoomN j A := ⟨by have := r.dp; omega, by have := r.un; omega⟩
theorem RoomN.deeper {k : Nat} {A : Around} (r : RoomN (k + 1) A) (env : Env) : RoomN k (A.deeper env) :=
  ⟨by have := r.dp; show A.depth + 1 + 3 * k + 5 < _; omega, by have := r.un; show A.units + 3 + 16 * k + 200 < _; omega⟩
theorem RoomN.mark {k : Nat} {A : Around} (r : RoomN k A) (e : Value) : RoomN k (A.mark (some e)) := ⟨r.dp, r.un⟩
structure FnOkN (P : Program) (w : World) (K : PySem.W.Frag) (mg : Str → Option Value) (base : Heap) (k : Nat) (f : Addr) (fd : FuncData) (ps : List Str) (sp : Sp) : Prop where
  len : ∀ vs H Q E, sp vs H Q E → vs.length = ps.length
  run : ∀ (A : Around) (outer : List Env) (s : Shared) (H : Hp) (args : Args) (us : List Value) (vs : List V) (Q : VK) (E : XK), RoomN k A → Env0 P w K mg base A outer s H → BindsTo s fd args (ps.zip us) → Vals vs us → sp vs H Q E →
    codeAny (model P w) A (.call (.ref f) args) (CR CX0 outer P w H s Q E) s
theorem FnOkN.fn {P : Program} {w : World} {K : PySem.W.Frag} {mg : Str → Option Value} {base : Heap} {k : Nat} {f : Addr} {fd : FuncData} {ps : List Str} {sp : Sp} (F : FnOkN P w K mg base k f fd ps sp) : FnOk P w K mg base CX0 k f fd ps sp :=
  ⟨F.len, fun A outer s H args us vs Q E hr => F.run A outer s H args us vs Q E hr.n⟩
section
variable {P : Program} {w : World} {K : PySem.W.Frag} {mg : Str → Option Value} {base : Heap}
theorem fn_ofN {k : Nat} {f : Addr} {name qual : Str} {params : Arguments} {body : List Stmt} {scope : Scope} {dV kV doc pm cdv ct oc : Value} {an od : Option Addr}
    {osl : Array (Option Value)} {N ps : List Str} {sp : Sp} (lk : K.lookup f = some ⟨oc, od, .func (PySem.W.fnOf name qual params body scope dV kV doc pm an cdv ct), osl⟩) (hcd : PySem.W.codeIn K cdv qual = true) (S : FnScope N ps scope)
    (len : ∀ vs H Q E, sp vs H Q E → vs.length = ps.length)
    (hbody : ∀ (A : Around) (outer : List Env) (s : Shared) (H : Hp) (vs : List V) (Q : VK) (E : XK), RoomN k (A.deeper (envOfC qual scope s.heap.objs.size f cdv)) → sp vs H Q E →
      ∃ t, PSs ((cxOf CX0 P w K mg base N qual scope f cdv A outer s H E).to (A.deeper (envOfC qual scope s.heap.objs.size f cdv)) false (fun _ _ => False)) body t ∧ t { nx := fun _ H' => Q .non H', rt := Q } (start N vs) H) :
    FnOkN P w K mg base (k + 1) f (PySem.W.fnOf name qual params body scope dV kV doc pm an cdv ct) ps sp := by
  refine ⟨len, fun A outer s H args us vs Q E hr e0 hb r hsp => ?_⟩
  have hl := len _ _ _ _ hsp
  have KX : K.In s.heap := e0.mod.kin.keeps fun b o e => (e0.bs b o e).1
  have lim : s.heap.NoLimit := e0.mod.nolimit.keeps fun b o e => (e0.bs b o e).1
  have hkind : ∀ y ∈ ps.zip us, scope.names.lookup y.1 = some .local ∨ (scope.names.lookup y.1 = some .cell ∧ ((cellsFrom (s.heap.objs.size + 1) scope.names []).lookup y.1).isSome = true) := fun ⟨n, v⟩ hy => by
    rcases S.par n (List.of_mem_zip hy).1 with q | q
    · exact .inl q
    · exact .inr ⟨q, PySem.W.cellsFrom_some _ _ _ (.inl q)⟩
  refine codeAny_call_function (by have := hr.dp; omega) (KX _ _ lk) rfl S.co S.gen rfl (PySem.W.codeRec_of KX hcd) (hb _ _ _ _ ?_)
  refine wpAny_newFunctionEnv_cells S.kind hkind fun env he s1 x => ?_
  subst he
  refine ⟨lim.keeps x.toInCall.keep, codeAny_func ?_⟩
  obtain ⟨t, ht, hq⟩ := hbody A outer s H vs Q E (hr.deeper _) hsp
  have e0' : Env0 P w K mg base { A with handled := none } outer s H := ⟨e0.frames, e0.mod, e0.bs, e0.bsz, e0.funs, e0.frf, e0.hok, e0.bare⟩
  have I0 : Inv (cxOf CX0 P w K mg base N qual scope f cdv { A with handled := none } outer s H E) [] (start N vs) H s1 := inv_start S rfl e0' hl r x
  have I : Inv ((cxOf CX0 P w K mg base N qual scope f cdv A outer s H E).to (A.deeper (envOfC qual scope s.heap.objs.size f cdv)) false (fun _ _ => False)) [] (start N vs) H s1 := I0.to (A := A.deeper (envOfC qual scope s.heap.objs.size f cdv)) (c := false) (XE := fun _ _ => False) rfl (by simp)
  refine wpAny_mono (ht [] s1 (start N vs) H _ I hq) (fun fl s' hs => ?_) fun e s' hs => False.elim hs
  have fin : ∀ {σ' : St} {H' : Hp} {v : V} {u : Value}, Inv ((cxOf CX0 P w K mg base N qual scope f cdv A outer s H E).to (A.deeper (envOfC qual scope s.heap.objs.size f cdv)) false (fun _ _ => False)) [] σ' H' s' → RelV v u → Q v H' → CE outer P w H s Q u s' :=
    fun {σ' H' v u} J rv q => ⟨v, H', J.os, J.bare, J.base, J.hok, rv, q⟩
  cases fl with
  | ret u =>
    obtain ⟨v, σ', H', J, rv, q⟩ := hs
    exact fin J rv q
  | next =>
    obtain ⟨σ', H', J, q⟩ := hs
    exact fin (v := V.non) (u := Value.none) J rfl q
  | brk =>
    obtain ⟨_, _, _, q⟩ := hs
    exact False.elim q
  | cont =>
    obtain ⟨_, _, _, q⟩ := hs
    exact False.elim q
theorem Fun.okN {x qual : Str} {st : Stmt} {f : Addr} {fd : FuncData} {N ps : List Str} {k : Nat} {sp : Sp} (F : Fun K x qual st f fd) (S : FnScope N ps (defScope st)) (len : ∀ vs H Q E, sp vs H Q E → vs.length = ps.length)
    (hbody : ∀ (cdv : Value) (A : Around) (outer : List Env) (s : Shared) (H : Hp) (vs : List V) (Q : VK) (E : XK), RoomN k (A.deeper (envOfC qual (defScope st) s.heap.objs.size f cdv)) → sp vs H Q E →
      ∃ t, QSs ((cxOf CX0 P w K mg base N qual (defScope st) f cdv A outer s H E).to (A.deeper (envOfC qual (defScope st) s.heap.objs.size f cdv)) false (fun _ _ => False)) (defBody st) t ∧ t { nx := fun _ H' => Q .non H', rt := Q } (start N vs) H) : FnOkN P w K mg base (k + 1) f fd ps sp := by
  obtain ⟨oc, od, kV, doc, pm, an, cdv, ct, osl, rfl, lk, hcd⟩ := F.ex
  refine fn_ofN lk hcd S len fun A outer s H vs Q E hr hsp => ?_
  obtain ⟨t, h, q⟩ := hbody cdv A outer s H vs Q E hr hsp
  exact ⟨t, h.run, q⟩
structure CalleeN (P : Program) (w : World) (K : PySem.W.Frag) (mg : Str → Option Value) (base : Heap) (k : Nat) (x : Str) (ps : List Str) (sp : Sp) : Prop where
  ex : ∃ (f : Addr) (fd : FuncData), FnOkN P w K mg base k f fd ps sp ∧ mg x = some (.ref f) ∧ PySem.W.keepIn K (.ref f) = true ∧ Binds K fd ps []
theorem calleen_of {k : Nat} {x : Str} {ps : List Str} {sp : Sp} {f : Addr} {fd : FuncData} (F : FnOkN P w K mg base k f fd ps sp) (m : mg x = some (.ref f)) (kp : PySem.W.keepIn K (.ref f) = true) (b : Binds K fd ps []) : CalleeN P w K mg base k x ps sp := ⟨f, fd, F, m, kp, b⟩
end
section
variable {X : Cx} {k : Nat} {x : Str} {ps : List Str} {sp : Sp} {p pos : Pos} {e : Expr} {es : List Expr} {t : TA}
theorem qe_fnN (C : CalleeN X.prog X.w X.K X.mg X.base k x ps sp) (hr : RoomN k X.A) (ha : QA X (e :: es) t) (hg : Gl X x := by rfl) (hdb : (x == ("__debug__" : Str)) = false := by decide)
    (he : starEach (e :: es) X.env = (false, eval e X.env) :: starEach es X.env := by rfl) (hpl : (backTo pos (starEach es X.env)).any (·.1) = false := by rfl) : QE X (.Call (.Name x p) (e :: es) [] pos) (tCall sp [] E0 t) := by
  obtain ⟨f, fd, F, hm, hk, hb⟩ := C.ex
  refine ⟨fun pins s σ H Q I h => ?_⟩
  refine wpAny_Call_Name_kw (ld_glob I hg hm ?_ hdb)
  refine PySem.W.callWith_K (h₀ := X.base) I.ok.mod.kin hk (thn (ha.run pos pins s σ H _ I h) fun us s1 ⟨vs, H1, I1, r, q⟩ => ⟨I1.kIn, ?_⟩) he hpl
  have q : sp (vs ++ []) H1 Q E0 := q
  rw [List.append_nil] at q
  have hl : us.length = ps.length := by rw [← r.length]; exact F.len _ _ _ _ q
  have hb' := hb s1 us I1.kIn (by simpa using hl)
  rw [List.append_nil] at hb'
  refine wpAny_call (codeAny_mono (F.run X.A X.stack s1 H1 ⟨us, []⟩ us vs Q _ hr I1.env0 hb' r q) fun r s' hq => ?_)
  cases r with
  | error e => exact False.elim hq
  | ok fl =>
    cases fl with
    | ret u => exact I1.after hq
    | next => exact False.elim hq
    | brk => exact False.elim hq
    | cont => exact False.elim hq
end
end L2

set_option Elab.async false
set_option linter.all false
set_option maxRecDepth 100000
set_option maxHeartbeats 4000000
namespace L2
open PySem PySem.Spec PyProof.Rows
structure ExN (K : PySem.W.Frag) (D : Addr) : Prop extends ExC K D where
  ca : PySem.W.findIn K (.ref D) "__class__" = some (some (.builtin "object.__class__"))
  cg : PySem.W.specialIn K (.builtin "object.__class__") "__get__" = some (some (.builtin "getset_descriptor.__get__"))
  ct : PySem.W.takesIn K (.builtin "object.__class__") = some true
section
open PySem.W PySem.Builtin PySem.Builtin.ObjectAttr
variable {prog : Program} {w : World} {A : Around} {E : Value → Shared → Prop} {s : Shared} {K : Frag} {x D : Addr} {ox : Obj} {od : Option Obj}
theorem exc_class {Q : Option Value → Shared → Prop} (X : K.In s.heap) (I : PySem.W.InstAt s.heap x ox D od) (c : ExN K D) (h : Q (some (.ref D)) { s with toks := s.toks + 1 }) : wpAny (model prog w) A (getAttr? (.ref x) "__class__") Q E s := by
  obtain ⟨cd, hc, ho⟩ := any_some c.ov
  have ne : cd.mro.isEmpty = false := by cases q : cd.mro with | nil => rw [q] at ho; cases ho | cons _ _ => rfl
  have hf : findObj K D od "__class__" = some (.bind (.builtin "getset_descriptor.__get__") (.builtin "object.__class__")) := by
    unfold findObj
    rw [hc, Option.bind_some, c.ca, Option.bind_some]
    dsimp only
    rw [c.cg, Option.bind_some]
    dsimp only
    rw [c.ct]
    rfl
  have hm : mroIn K D (.type "object") = some true := by unfold mroIn; rw [hc, Option.bind_some, if_neg (by rw [ne]; decide), (over_has ho).1]
  obtain ⟨hp, g, d, t, os⟩ := s
  have L0 := I.type (M := model prog w)
  have L1 := looks_findIn (M := model prog w) X c.ga
  have L2 := looks_findIn (M := model prog w) X c.gt
  have L3 := looks_find (M := model prog w) X I hf
  have L4 : Looks (model prog w) hp (isInstance (.ref x) (.type "BaseException")) true := I.type.andThen (looks_mroIn X (by unfold mroIn; rw [hc, Option.bind_some, if_neg (by rw [ne]; decide), (over_has ho).2]))
  have f3 := PySem.F.attr_ValueError.ga.bind (.ref x)
  have hx2 : (Value.builtin "BaseException.__getattribute__" == Value.builtin "object.__getattribute__") = false := by decide +kernel
  have hx1 : (onTheHeap (Value.ref D) && Value.builtin "BaseException.__getattribute__" == Value.builtin "object.__getattribute__") = false := by rw [hx2]; rfl
  have hk : builtinKind "BaseException.__getattribute__" = some .slot := by decide +kernel
  have hsplit : splitId "BaseException.__getattribute__" = some ("BaseException", "__getattribute__") := by decide +kernel
  unfold getAttr? getAttrBy? getAttrBy
  refine wpAny_bind (wpAny_mkText (wpAny_bind (wpAny_attempt (wpAny_holding (wpAny_bind (L0.at (wpAny_bind (L1.at ?_))))))))
  dsimp only
  rw [hx1]
  simp only [Bool.false_eq_true, if_false]
  unfold getAttrByItsOwn hookBefore callGetattribute
  rw [if_pos (show onTheHeap (Value.ref D) = true from rfl)]
  refine wpAny_bind (L2.at ?_)
  simp only [Bool.false_and, Bool.false_eq_true, if_false]
  unfold boundAndCalled
  rw [f3]
  refine wpAny_bind (wpAny_attempt (wpAny_holding (wpAny_bind (wpAny_pure (wpAny_call (codeAny_call_builtin PySem.F.attr_ValueError.ga.plain PySem.F.entry_bexc_ga (@check_slot (model prog w) _ _ ⟨hp, g, d, t + 1, os⟩ "BaseException.__getattribute__" "BaseException" "__getattribute__" (.ref x) [.str "__class__" t] [] _ hk hsplit L4 (PySem.F.args_bexc_ga (.ref x) (.str "__class__" t)) ?_)))))))
  show wpAny _ _ (Builtin.«object.__getattribute__» ⟨[.ref x, .str "__class__" t], []⟩) _ _ _
  refine wpAny_bind (wpAny_pure (wpAny_bind (wpAny_pure (wpAny_bind (L0.at (wpAny_bind (L3.at ?_)))))))
  show wpAny _ _ (holding [.builtin "object.__class__"] (call (.builtin "getset_descriptor.__get__") [.builtin "object.__class__", .ref x, .ref D]) >>= ret) _ _ _
  refine wpAny_bind (wpAny_holding (wpAny_call (class_get (s := ⟨hp, g, d, t + 1, os⟩) (ox := ox) (od := od) X I hm (wpAny_pure ?_))))
  show wpAny _ _ (handedOut (.ref D)) _ _ _
  rw [handedOut_of rfl]
  exact wpAny_pure (wpAny_pure h)
theorem kitx_exc (c : ExN K D) : KitX K (.ref x) (.ref D) (fun h => PySem.W.InstAt h x ox D od) where
  ty := fun _ _ _ I => I.type
  it := fun _ _ X _ => by
    obtain ⟨cd, hc, _⟩ := any_some c.ov
    exact looks_isType X (by rw [hc]; rfl)
  ne := fun h tp dd its n sl X htp => by
    obtain ⟨cdD, hcD, _⟩ := any_some c.ov
    refine Bool.eq_false_iff.mpr fun q => ?_
    have e : D = tp := Value.ref.inj (beq_iff_eq.mp q)
    subst e
    unfold clsIn at hcD
    split at hcD
    · rename_i c' d' cd' sl' ho
      have z := (X _ _ ho).symm.trans htp
      cases z
    · cases hcD
  ca := fun X I k => exc_class X I c k
end
def rIsY (K : PySem.W.Frag) : List V → Hp → VK → Prop := fun xs H Q => ∃ a C C' od b, xs = [.ref a, .ref C] ∧ H a = some (exk a (.ref C') od) ∧ (∀ d, od = some d → ∃ fs, H d = some (.xd fs)) ∧ ExN K C' ∧ PySem.W.kitOne K (.ref C') (.ref C) = some b ∧ Q (.bl b) H
def rIsYT (K : PySem.W.Frag) (T : String) : List V → Hp → VK → Prop := fun xs H Q => ∃ a C' od b, xs = [.ref a, .ty T] ∧ H a = some (exk a (.ref C') od) ∧ (∀ d, od = some d → ∃ fs, H d = some (.xd fs)) ∧ ExN K C' ∧ PySem.W.kitOne K (.ref C') (.type T) = some b ∧ Q (.bl b) H
section
variable {X : Cx} {pins : List (Addr × Obj)} {σ : St} {H : Hp} {s : Shared} {a C' : Addr} {od : Option Addr}
theorem exk_inst (I : Inv X pins σ H s) (ea : H a = some (exk a (.ref C') od)) (hd : ∀ d, od = some d → ∃ fs, H d = some (.xd fs)) : ∃ ox oo, PySem.W.InstAt s.heap a ox C' oo := by
  obtain ⟨oe, vs, a1, a2, a3, a4⟩ := exk_at (I.hok a _ ea)
  cases od with
  | none => exact ⟨oe, none, a1, a2, by unfold PySem.W.notCls; rw [a4], by rw [a3]; trivial⟩
  | some d =>
    obtain ⟨fs, ed⟩ := hd d rfl
    obtain ⟨mA, nA, r⟩ := I.hok d _ ed
    obtain ⟨oD, hoD, hl⟩ := lookIn_ns nA
    exact ⟨oe, some oD, a1, a2, by unfold PySem.W.notCls; rw [a4], by rw [a3]; exact hoD⟩
theorem k_isY {K : PySem.W.Frag} (hK : X.K = K := by rfl) : CallR X (.builtin "isinstance") (rIsY K) := by
  subst hK
  intro pins s σ H xs us Q I r h
  obtain ⟨a, C, C', od, b, rfl, ea, hd, c, e, q⟩ := h
  obtain ⟨u, v, rfl, ru, rv⟩ := r.two
  obtain rfl : u = Value.ref a := ru
  obtain rfl : v = Value.ref C := rv
  obtain ⟨ox, oo, J⟩ := exk_inst I ea hd
  exact PySem.W.kia_one (kitx_exc (ox := ox) (od := oo) c) I.kIn J e (fun z => nomatch z) fun tk => ⟨.bl b, H, I.tok tk, rfl, q⟩
theorem k_isYT {K : PySem.W.Frag} (T : String) (hK : X.K = K := by rfl) : CallR X (.builtin "isinstance") (rIsYT K T) := by
  subst hK
  intro pins s σ H xs us Q I r h
  obtain ⟨a, C', od, b, rfl, ea, hd, c, e, q⟩ := h
  obtain ⟨u, v, rfl, ru, rv⟩ := r.two
  obtain rfl : u = Value.ref a := ru
  obtain rfl : v = Value.type T := rv
  obtain ⟨ox, oo, J⟩ := exk_inst I ea hd
  exact PySem.W.kia_one (kitx_exc (ox := ox) (od := oo) c) I.kIn J e (fun z => nomatch z) fun tk => ⟨.bl b, H, I.tok tk, rfl, q⟩
end
end L2

set_option Elab.async false
set_option linter.all false
set_option maxRecDepth 100000
set_option maxHeartbeats 4000000
namespace L2
open PySem PySem.Spec PyProof.Rows
section
variable {X : Cx}
def rEqI (K : PySem.W.Frag) : R2 := fun x y H Q => ∃ (a c : Addr) (xs ys : List Int), x = .ref a ∧ y = .ref c ∧ SqT K H a (xs.map V.int) ∧ SqT K H c (ys.map V.int) ∧ Q (.bl (decide (xs = ys))) H
theorem op_eqI (hu : X.A.units + 200 < cLine) : OpR X (compareOp .Eq) (rEqI X.K) := by
  intro pins s σ H x y v u Q I rx ry h
  obtain ⟨a, c, xs, ys, rfl, rfl, hx, hy, q⟩ := h
  cases rx
  cases ry
  obtain ⟨its, r1, p1, _⟩ := I.tuple hx
  obtain ⟨its2, r2, p2, _⟩ := I.tuple hy
  obtain ⟨us, e1, f1⟩ := vals_pairs r1
  obtain ⟨vs, e2, f2⟩ := vals_pairs r2
  have l1 : us.length = xs.length := by rw [← f1, List.length_map]
  have l2 : vs.length = ys.length := by rw [← f2, List.length_map]
  refine SeqAt.eq_tupleAt (e := fun j => xs.getD j 0 == ys.getD j 0) (show s.heap.IsTuple a its.toArray from p1) (show s.heap.IsTuple c its2.toArray from p2) (by omega) (fun j h1 h2 => ?_) ?_
  · subst e1 e2
    simp only [List.size_toArray, List.length_map] at h1 h2
    have g1 : xs.getD j 0 = us[j].1 := by rw [← f1, List.getD_eq_getElem?_getD, List.getElem?_map, List.getElem?_eq_getElem h1]; rfl
    have g2 : ys.getD j 0 = vs[j].1 := by rw [← f2, List.getD_eq_getElem?_getD, List.getElem?_map, List.getElem?_eq_getElem h2]; rfl
    rw [g1, g2]
    simp only [List.getElem_toArray, List.getElem_map]
    exact SeqAt.EqAt.int_int _ _ _ _
  · have e : ((List.range (min its.toArray.size its2.toArray.size)).all (fun j => xs.getD j 0 == ys.getD j 0) && its.toArray.size == its2.toArray.size) = decide (xs = ys) := by
      have z1 : its.toArray.size = xs.length := by rw [List.size_toArray, e1, List.length_map, l1]
      have z2 : its2.toArray.size = ys.length := by rw [List.size_toArray, e2, List.length_map, l2]
      rw [z1, z2, all_eq_iff]
    rw [e]
    exact ⟨.bl _, H, I, rfl, q⟩
def rEqB (K : PySem.W.Frag) : R2 := fun x y H Q => rEqA K x y H Q ∨ rEqI K x y H Q
theorem k_eqB (K : PySem.W.Frag) (hu : X.A.units + 200 < cLine) (hK : X.K = K := by rfl) : OpR X (compareOp .Eq) (rEqB K) := by subst hK; exact (op_eqA hu).or (op_eqI hu)
theorem s_eqb {K : PySem.W.Frag} {x y : V} {H : Hp} {Q : VK} (hs : scal x y = true) (h : Q (.bl (decide (x = y))) H) : rEqB K x y H Q := .inl (.inl ⟨hs, h⟩)
theorem s_eqbD {K : PySem.W.Frag} {a c : Addr} {H : Hp} {Q : VK} {n : Nat} {d : Dt} (hn : n ≤ 190) (hx : IsD K H n (.ref a) d) (hy : IsD K H n (.ref c) d) (h : Q (.bl true) H) : rEqB K (.ref a) (.ref c) H Q := .inl (s_eqD hn hx hy h)
theorem s_eqbI {K : PySem.W.Frag} {a c : Addr} {xs ys : List Int} {H : Hp} {Q : VK} (hx : SqT K H a (xs.map V.int)) (hy : SqT K H c (ys.map V.int)) (h : Q (.bl (decide (xs = ys))) H) : rEqB K (.ref a) (.ref c) H Q := .inr ⟨a, c, xs, ys, rfl, rfl, hx, hy, h⟩
end
end L2

set_option Elab.async false
set_option linter.all false
set_option maxRecDepth 100000
set_option maxHeartbeats 4000000
namespace K19
open PySem L2
def shp (w : Str) (n : Dt) : Prop := (w = "fn" ∨ w = "let" ∨ w = "name" → ∃ t : Str, n = .flat (.str t)) ∧ (w = "rec" → ∃ t u : Str, n = .tup [.flat (.str t), .flat (.str u)])
inductive TrSh : Tr → Prop where
  | mk {w : Str} {n : Dt} {ts : List Tr} (h : shp w n) (hs : ∀ t ∈ ts, TrSh t) : TrSh (.mk w n ts)
theorem shp_non {w : Str} {n : Dt} (h1 : w ≠ "fn") (h2 : w ≠ "let") (h3 : w ≠ "name") (h4 : w ≠ "rec") : shp w n := ⟨fun h => by rcases h with h | h | h <;> contradiction, fun h => absurd h h4⟩
theorem TrSh.gap : TrSh gapT := .mk (shp_non (by decide +kernel) (by decide +kernel) (by decide +kernel) (by decide +kernel)) (fun t h => nomatch h)
theorem TrSh.let {u : Str} {s t : Tr} (hs : TrSh s) (ht : TrSh t) : TrSh (.mk "let" (.flat (.str u)) [s, t]) :=
  .mk ⟨fun _ => ⟨u, rfl⟩, fun h => absurd h (by decide +kernel)⟩ (fun x hx => by
    simp only [List.mem_cons, List.not_mem_nil, or_false] at hx
    rcases hx with rfl | rfl <;> assumption)
theorem TrSh.call {s t : Tr} (hs : TrSh s) (ht : TrSh t) : TrSh (.mk "call" (.flat .non) [s, t]) :=
  .mk (shp_non (by decide +kernel) (by decide +kernel) (by decide +kernel) (by decide +kernel)) (fun x hx => by
    simp only [List.mem_cons, List.not_mem_nil, or_false] at hx
    rcases hx with rfl | rfl <;> assumption)
theorem sh_snoc {ts : List Tr} {t : Tr} (h : ∀ x ∈ ts, TrSh x) (ht : TrSh t) : ∀ x ∈ ts ++ [t], TrSh x := fun x hx => by
  rcases List.mem_append.mp hx with hx | hx
  · exact h x hx
  · rw [List.mem_singleton.mp hx]; exact ht
inductive Sub : Tr → List Nat → Prop where
  | nil (t : Tr) : Sub t []
  | cons {w : Str} {n : Dt} {ts : List Tr} {j : Nat} {t : Tr} {r : List Nat} (h : ts[j]? = some t) (s : Sub t r) : Sub (.mk w n ts) (j :: r)
mutual
theorem walk_sub : ∀ (t : Tr) (x : List Nat × Tr), x ∈ walk [] t → Sub t x.1
  | .mk w n ps, x, h => by
    rw [walk] at h
    rcases List.mem_cons.mp h with rfl | h
    · exact .nil _
    · obtain ⟨j, t, r, e1, e2, e3⟩ := walks_sub 0 ps x h
      rw [e2, Nat.zero_add]
      exact .cons e1 e3
theorem walks_sub : ∀ (i : Nat) (ts : List Tr) (x : List Nat × Tr), x ∈ walks [] i ts → ∃ (j : Nat) (t : Tr) (r : List Nat), ts[j]? = some t ∧ x.1 = (i + j) :: r ∧ Sub t r
  | _, [], x, h => by rw [walks] at h; cases h
  | i, t :: q, x, h => by
    rw [walks] at h
    rcases List.mem_append.mp h with h | h
    · rw [walk_at_pl] at h
      obtain ⟨y, hy, rfl⟩ := List.mem_map.mp h
      exact ⟨0, t, y.1, rfl, rfl, walk_sub t y hy⟩
    · obtain ⟨j, t', r, e1, e2, e3⟩ := walks_sub (i + 1) q x h
      exact ⟨j + 1, t', r, by simpa using e1, by rw [e2]; congr 1; omega, e3⟩
end
def path : Tr → List Nat → List Tr
  | t, [] => [t]
  | .mk w n ps, k :: r => .mk w n ps :: (match ps[k]? with | some u => path u r | none => [])
theorem path_cons {w : Str} {n : Dt} {ts : List Tr} {j : Nat} {t : Tr} {r : List Nat} (h : ts[j]? = some t) : path (.mk w n ts) (j :: r) = .mk w n ts :: path t r := by rw [path, h]
theorem path_len {t : Tr} {pl : List Nat} (s : Sub t pl) : (path t pl).length = pl.length + 1 := by
  induction s with
  | nil t => cases t; rfl
  | cons h _ ih => rw [path_cons h, List.length_cons, ih, List.length_cons]
theorem path_zero (t : Tr) (pl : List Nat) : (path t pl)[0]? = some t := by
  cases t with
  | mk w n ps => cases pl <;> rfl
theorem path_at {t : Tr} {pl : List Nat} (s : Sub t pl) : ∀ (i : Nat) (k : Nat), pl[i]? = some k → ∃ w n ps u, (path t pl)[i]? = some (.mk w n ps) ∧ ps[k]? = some u ∧ (path t pl)[i + 1]? = some u := by
  induction s with
  | nil t => intro i k h; simp at h
  | @cons w n ts j u r h s ih =>
    intro i k hk
    rw [path_cons h]
    cases i with
    | zero =>
      have : j = k := by simpa using hk
      subst this
      exact ⟨w, n, ts, u, rfl, h, by simpa using path_zero u r⟩
    | succ i =>
      obtain ⟨w', n', ps, u', a, b, c⟩ := ih i k (by simpa using hk)
      exact ⟨w', n', ps, u', by simpa using a, b, by simpa using c⟩
def withAt : Tr → List Nat → Tr → Tr
  | _, [], f => f
  | .mk w n ps, k :: r, f => match ps[k]? with
    | some u => .mk w n (ps.set k (withAt u r f))
    | none => .mk w n ps
theorem with_cons {w : Str} {n : Dt} {ts : List Tr} {j : Nat} {t f : Tr} {r : List Nat} (h : ts[j]? = some t) : withAt (.mk w n ts) (j :: r) f = .mk w n (ts.set j (withAt t r f)) := by rw [withAt, h]
theorem with_nil (t f : Tr) : withAt t [] f = f := by cases t; rfl
theorem with_path {t f : Tr} {pl : List Nat} (s : Sub t pl) : ∀ (m k : Nat) (w : Str) (n : Dt) (ps : List Tr) (u : Tr), pl[m]? = some k → (path t pl)[m]? = some (.mk w n ps) → (path t pl)[m + 1]? = some u → withAt (.mk w n ps) (pl.drop m) f = .mk w n (ps.set k (withAt u (pl.drop (m + 1)) f)) := by
  intro m k w n ps u hk hp hu
  obtain ⟨w', n', ps', u', a, b, c⟩ := path_at s m k hk
  rw [hp] at a
  cases a
  rw [hu] at c
  cases c
  have hl := (List.getElem?_eq_some_iff.mp hk)
  obtain ⟨g, e⟩ := hl
  rw [List.drop_eq_getElem_cons g, e, with_cons b]
end K19

set_option Elab.async false
set_option linter.all false
set_option maxRecDepth 100000
set_option maxHeartbeats 4000000
namespace K17
open PySem L2 K19
mutual
theorem walk_form : ∀ (t : Tr) (x : List Nat × Tr), x ∈ walk [] t → (path t x.1)[x.1.length]? = some x.2
  | .mk w n ps, x, h => by
    rw [walk] at h
    rcases List.mem_cons.mp h with h | h
    · subst h; rfl
    · obtain ⟨j, t, r, h1, h2, h3⟩ := walks_form 0 ps x h
      rw [h2, Nat.zero_add, path_cons h1]
      exact h3
theorem walks_form : ∀ (i : Nat) (ts : List Tr) (x : List Nat × Tr), x ∈ walks [] i ts → ∃ (j : Nat) (t : Tr) (r : List Nat), ts[j]? = some t ∧ x.1 = (i + j) :: r ∧ (path t r)[r.length]? = some x.2
  | _, [], x, h => by rw [walks] at h; cases h
  | i, t :: q, x, h => by
    rw [walks] at h
    rcases List.mem_append.mp h with h | h
    · rw [List.nil_append, walk_at_pl] at h
      obtain ⟨y, hy, rfl⟩ := List.mem_map.mp h
      exact ⟨0, t, y.1, rfl, rfl, walk_form t y hy⟩
    · obtain ⟨j, t', r, h1, h2, h3⟩ := walks_form (i + 1) q x h
      exact ⟨j + 1, t', r, h1, by rw [h2]; congr 1; omega, h3⟩
end
end K17

set_option Elab.async false
set_option linter.all false
set_option maxRecDepth 100000
set_option maxHeartbeats 4000000
namespace K15
open PySem L2 K19 K17
def hd : Tr → Str × Dt × Nat
  | .mk w n ps => (w, n, ps.length)
def fl (t : Tr) : List (List Nat × Str × Dt × Nat) := (walk [] t).map fun x => (x.1, hd x.2)
def fls (i : Nat) (ts : List Tr) : List (List Nat × Str × Dt × Nat) := (walks [] i ts).map fun x => (x.1, hd x.2)
theorem fl_mk (w : Str) (n : Dt) (ts : List Tr) : fl (.mk w n ts) = ([], w, n, ts.length) :: fls 0 ts := by
  unfold fl fls
  rw [walk, List.map_cons]
  rfl
theorem fls_cons (i : Nat) (t : Tr) (r : List Tr) : fls i (t :: r) = ((fl t).map fun x => (i :: x.1, x.2)) ++ fls (i + 1) r := by
  unfold fl fls
  rw [walks, List.map_append, List.nil_append, walk_at_pl, List.map_map, List.map_map]
  rfl
theorem fm_congr {α β : Type} {f g : α → List β} : ∀ {l : List α}, (∀ x ∈ l, f x = g x) → l.flatMap f = l.flatMap g
  | [], _ => rfl
  | a :: r, h => by rw [List.flatMap_cons, List.flatMap_cons, h a List.mem_cons_self, fm_congr fun x hx => h x (List.mem_cons_of_mem _ hx)]
def dueR (pl : List Nat) (fo : List (List Nat × Str × Dt × Nat)) (r : List Nat × Str × Dt × Nat) : List (List Nat × Str × Dt × Nat) :=
  if r.1 = pl then fo.map fun x => (pl ++ x.1, x.2) else if r.1.take pl.length ≠ pl then [r] else []
theorem due_fls {j : Nat} {r : List Nat} {f : Tr} {u : Tr} (ih : fl (withAt u r f) = (fl u).flatMap (dueR r (fl f))) :
    ∀ (i : Nat) (ts : List Tr), (∀ k, k + i = j → ts[k]? = some u) → fls i (if i ≤ j then ts.set (j - i) (withAt u r f) else ts) = (fls i ts).flatMap (dueR (j :: r) (fl f))
  | i, [], _ => by
    have : (if i ≤ j then ([] : List Tr).set (j - i) (withAt u r f) else []) = [] := by split <;> rfl
    rw [this]
    rfl
  | i, t :: q, h => by
    rw [fls_cons, List.flatMap_append]
    by_cases hij : i = j
    · subst hij
      have e := h 0 (by omega)
      have e : t = u := by simpa using e
      subst e
      rw [if_pos (Nat.le_refl _), Nat.sub_self, List.set_cons_zero, fls_cons, ih]
      have hq := due_fls (j := i) ih (i + 1) q (fun k hk => by omega)
      rw [if_neg (by omega)] at hq
      rw [← hq]
      congr 1
      rw [List.map_flatMap, List.flatMap_map]
      refine fm_congr fun x _ => ?_
      unfold dueR
      by_cases c1 : x.1 = r
      · rw [if_pos c1, if_pos (by rw [c1]), List.map_map]
        rfl
      · have n1 : ¬ ((i :: x.1, x.2) : List Nat × Str × Dt × Nat).1 = i :: r := by
          intro z
          have z : i :: x.1 = i :: r := z
          injection z with _ z
          exact c1 z
        by_cases c2 : x.1.take r.length ≠ r
        · have n2 : ((i :: x.1, x.2) : List Nat × Str × Dt × Nat).1.take (i :: r).length ≠ i :: r := by
            intro z
            have z : i :: x.1.take r.length = i :: r := z
            injection z with _ z
            exact c2 z
          rw [if_neg c1, if_pos c2, if_neg n1, if_pos n2]
          rfl
        · have n2 : ¬ ((i :: x.1, x.2) : List Nat × Str × Dt × Nat).1.take (i :: r).length ≠ i :: r := by
            intro z
            refine z ?_
            show i :: x.1.take r.length = i :: r
            rw [Decidable.not_not.mp c2]
          rw [if_neg c1, if_neg c2, if_neg n1, if_neg n2]
          rfl
    · have keep : ((fl t).map fun x => (i :: x.1, x.2)).flatMap (dueR (j :: r) (fl f)) = (fl t).map fun x => (i :: x.1, x.2) := by
        rw [List.flatMap_map]
        have : ∀ x ∈ fl t, dueR (j :: r) (fl f) (i :: x.1, x.2) = [(i :: x.1, x.2)] := fun x _ => by
          unfold dueR
          rw [if_neg (by intro z; injection z with z _; exact hij z), if_pos (by intro z; simp at z; exact hij z.1)]
        rw [fm_congr this]
        exact (List.map_eq_flatMap ..).symm
      rw [keep]
      by_cases hle : i ≤ j
      · rw [if_pos hle, show j - i = (j - (i + 1)) + 1 by omega, List.set_cons_succ, fls_cons]
        congr 1
        have hq := due_fls (j := j) ih (i + 1) q (fun k hk => by have := h (k + 1) (by omega); simpa using this)
        rw [if_pos (by omega)] at hq
        exact hq
      · rw [if_neg hle, fls_cons]
        congr 1
        have hq := due_fls (j := j) ih (i + 1) q (fun k hk => by omega)
        rw [if_neg (by omega)] at hq
        exact hq
theorem fl_with {t f : Tr} {pl : List Nat} (s : Sub t pl) : fl (withAt t pl f) = (fl t).flatMap (dueR pl (fl f)) := by
  induction s with
  | nil t =>
    rw [with_nil]
    cases t with
    | mk w n ts =>
      rw [fl_mk, List.flatMap_cons]
      have e1 : dueR [] (fl f) ([], w, n, ts.length) = fl f := by
        unfold dueR
        rw [if_pos rfl]
        simp
      have e2 : (fls 0 ts).flatMap (dueR [] (fl f)) = [] := by
        rw [List.flatMap_eq_nil_iff]
        intro x hx
        unfold fls at hx
        obtain ⟨y, hy, rfl⟩ := List.mem_map.mp hx
        obtain ⟨k, t', r, _, h2, _⟩ := walks_sub 0 ts y hy
        unfold dueR
        rw [if_neg (by show y.1 ≠ []; rw [h2]; simp), if_neg (by simp)]
      rw [e1, e2, List.append_nil]
  | @cons w n ts j u r h hs ih =>
    rw [with_cons h, fl_mk, fl_mk, List.flatMap_cons]
    have e1 : dueR (j :: r) (fl f) ([], w, n, ts.length) = [([], w, n, ts.length)] := by
      unfold dueR
      rw [if_neg (by simp), if_pos (by simp)]
    have h0 : ∀ k, k + 0 = j → ts[k]? = some u := fun k hk => by
      have hk : k = j := hk
      rw [hk]
      exact h
    have e2 := due_fls (j := j) ih 0 ts h0
    rw [if_pos (Nat.zero_le _), Nat.sub_zero] at e2
    rw [e1, ← e2, List.length_set]
    rfl
end K15

set_option Elab.async false
set_option linter.all false
set_option maxRecDepth 100000
namespace K15
open PySem L2 K19 K17
theorem fls_none (i : Nat) (ts : List Tr) : ∀ x ∈ fls i ts, ∃ k r, x.1 = k :: r ∧ i ≤ k := by
  intro x hx
  unfold fls at hx
  obtain ⟨y, hy, rfl⟩ := List.mem_map.mp hx
  obtain ⟨k, t', r, _, h2, _⟩ := walks_sub i ts y hy
  exact ⟨i + k, r, h2, Nat.le_add_right _ _⟩
theorem cons_count (i j : Nat) (r : List Nat) (l : List (List Nat × Str × Dt × Nat)) : ((l.map fun x => (i :: x.1, x.2)).filter fun x => decide (x.1 = j :: r)).length = if i = j then (l.filter fun x => decide (x.1 = r)).length else 0 := by
  induction l with
  | nil => simp
  | cons a b ih =>
    rw [List.map_cons, List.filter_cons, List.filter_cons]
    by_cases hij : i = j
    · subst hij
      rw [if_pos rfl] at ih ⊢
      by_cases ha : a.1 = r
      · rw [if_pos (by simpa using ha), if_pos (by simpa using ha), List.length_cons, List.length_cons, ih]
      · rw [if_neg (by simpa using ha), if_neg (by simpa using ha), ih]
    · rw [if_neg hij] at ih ⊢
      rw [if_neg (by simp [hij]), ih]
mutual
theorem fl_one : ∀ (t : Tr) (pl : List Nat), ((fl t).filter fun r => decide (r.1 = pl)).length ≤ 1
  | .mk w n ts, [] => by
    rw [fl_mk, List.filter_cons, if_pos (by simp), List.length_cons]
    have : (fls 0 ts).filter (fun r => decide (r.1 = [])) = [] := by
      rw [List.filter_eq_nil_iff]
      intro x hx
      obtain ⟨k, r, h, _⟩ := fls_none 0 ts x hx
      simp [h]
    rw [this]
    simp
  | .mk w n ts, j :: r => by
    rw [fl_mk, List.filter_cons, if_neg (by simp)]
    exact fls_one ts 0 j r
theorem fls_one : ∀ (ts : List Tr) (i j : Nat) (r : List Nat), ((fls i ts).filter fun x => decide (x.1 = j :: r)).length ≤ 1
  | [], i, j, r => by unfold fls; rw [walks]; simp
  | t :: q, i, j, r => by
    rw [fls_cons, List.filter_append, List.length_append, cons_count]
    by_cases hij : i = j
    · rw [if_pos hij]
      have h1 := fl_one t r
      have h2 : (fls (i + 1) q).filter (fun x => decide (x.1 = j :: r)) = [] := by
        rw [List.filter_eq_nil_iff]
        intro x hx
        obtain ⟨k, s, h, hk⟩ := fls_none (i + 1) q x hx
        have : k ≠ j := by omega
        simp [h, this]
      rw [h2]
      simpa using h1
    · rw [if_neg hij]
      have := fls_one q (i + 1) j r
      omega
end
end K15

set_option Elab.async false
set_option linter.all false
set_option maxRecDepth 100000
namespace K15
open PySem L2 K19 K17
mutual
def dep : Tr → Nat
  | .mk _ _ ps => 1 + deps ps
def deps : List Tr → Nat
  | [] => 0
  | t :: r => max (dep t) (deps r)
end
theorem dep_mk (w : Str) (n : Dt) (ts : List Tr) : dep (.mk w n ts) = 1 + deps ts := by rw [dep]
theorem deps_nil : deps [] = 0 := by rw [deps]
theorem deps_cons (t : Tr) (r : List Tr) : deps (t :: r) = max (dep t) (deps r) := by rw [deps]
theorem gapT_dep : dep gapT = 1 := by unfold gapT; rw [dep, deps]
theorem deps_append (a b : List Tr) : deps (a ++ b) = max (deps a) (deps b) := by
  induction a with
  | nil => rw [List.nil_append, deps]; omega
  | cons t r ih => rw [List.cons_append, deps, deps, ih]; omega
theorem deps_snoc (a : List Tr) (t : Tr) : deps (a ++ [t]) = max (deps a) (dep t) := by rw [deps_append, deps, deps]; omega
theorem deps_get {ts : List Tr} {j : Nat} {t : Tr} (h : ts[j]? = some t) : dep t ≤ deps ts := by
  induction ts generalizing j with
  | nil => simp at h
  | cons x r ih =>
    rw [deps]
    cases j with
    | zero => simp at h; subst h; omega
    | succ j => have := ih (j := j) (by simpa using h); omega
theorem deps_set (ts : List Tr) (j : Nat) (u : Tr) : deps (ts.set j u) ≤ max (deps ts) (dep u) := by
  induction ts generalizing j with
  | nil => simp [deps]
  | cons x r ih =>
    cases j with
    | zero => rw [List.set_cons_zero, deps, deps]; omega
    | succ j => rw [List.set_cons_succ, deps, deps]; have := ih j; omega
theorem with_dep {t f : Tr} {pl : List Nat} (s : Sub t pl) : dep (withAt t pl f) ≤ dep t + dep f := by
  induction s with
  | nil t => rw [with_nil]; omega
  | @cons w n ts j u r h _ ih =>
    rw [with_cons h, dep, dep]
    have h1 := deps_set ts j (withAt u r f)
    have h2 := deps_get h
    omega
theorem path_dep {t : Tr} {pl : List Nat} (s : Sub t pl) : ∀ u ∈ path t pl, dep u ≤ dep t := by
  induction s with
  | nil t => intro u hu; cases t; rw [path] at hu; rw [List.mem_singleton.mp hu]; omega
  | @cons w n ts j v r h _ ih =>
    intro u hu
    rw [path_cons h] at hu
    rcases List.mem_cons.mp hu with rfl | hu
    · exact Nat.le_refl _
    · have := ih u hu
      have := deps_get h
      rw [dep]
      omega
mutual
def trD : Tr → Dt
  | .mk w n ps => .tup [.flat (.str w), n, .tup (trDs ps)]
def trDs : List Tr → List Dt
  | [] => []
  | t :: r => trD t :: trDs r
end
theorem trDs_len : ∀ ts : List Tr, (trDs ts).length = ts.length
  | [] => by rw [trDs]; rfl
  | t :: r => by rw [trDs, List.length_cons, trDs_len r, List.length_cons]
theorem trDs_get : ∀ (ts : List Tr) (j : Nat), (trDs ts)[j]? = (ts[j]?).map trD
  | [], j => by rw [trDs]; simp
  | t :: r, 0 => by rw [trDs]; simp
  | t :: r, j + 1 => by rw [trDs, List.getElem?_cons_succ, List.getElem?_cons_succ, trDs_get r j]
theorem tr_isD {K : PySem.W.Frag} {H : Hp} {v : V} {t : Tr} (h : TrAt K H v t) : ∀ {n : Nat}, 2 * dep t ≤ n → IsD K H n v (trD t) := by
  induction h with
  | @mk a p wd nv nt vs ts q hn qp l hc ih =>
    intro n hd
    rw [dep] at hd
    obtain ⟨m, rfl⟩ : ∃ m, n = m + 1 + 1 := ⟨n - 2, by omega⟩
    rw [trD]
    refine .tup q rfl fun j v d h1 h2 => ?_
    match j, h1, h2 with
    | 0, h1, h2 => cases h1; cases h2; exact .flat rfl
    | 1, h1, h2 => cases h1; cases h2; exact hn.d.up (by omega)
    | 2, h1, h2 =>
      cases h1; cases h2
      refine .tup qp (by rw [trDs_len]; exact l) fun j v d h1 h2 => ?_
      rw [trDs_get] at h2
      obtain ⟨t, ht, rfl⟩ := Option.map_eq_some_iff.mp h2
      have := deps_get ht
      exact ih j v t h1 ht (by omega)
end K15

set_option Elab.async false
set_option linter.all false
set_option maxRecDepth 100000
set_option maxHeartbeats 4000000
namespace K15
open PySem L2 K19 K17
def top (i : Nat) : Stmt := PySem.Challenge.pw_gapscribe_k15_forms_at_places.main.body.getD i (.Pass ⟨0, 0, 0, 0⟩)
abbrev s_is_whole : Stmt := top 8
abbrev s_has_part : Stmt := top 10
abbrev s_forms_down_to : Stmt := top 11
abbrev s_form_at : Stmt := top 12
abbrev s_with_part : Stmt := top 13
abbrev s_with_at : Stmt := top 14
abbrev s_law_cell : Stmt := top 16
abbrev s_law_names : Stmt := top 17
abbrev s_law_odd : Stmt := top 18
abbrev s_law_number : Stmt := top 19
abbrev s_law_head : Stmt := top 20
abbrev s_law_many : Stmt := top 21
abbrev s_law_tree : Stmt := top 22
abbrev s_law_walk : Stmt := top 23
abbrev s_law_flat : Stmt := top 24
abbrev s_law_due : Stmt := top 25
abbrev s_law_is_tree : Stmt := top 26
abbrev s_law_no_place : Stmt := top 27
abbrev s_law_kinds : Stmt := top 28
abbrev s_law_refused : Stmt := top 29
abbrev s_law : Stmt := top 30
structure Txt (K : PySem.W.Frag) (mg : Str → Option Value) : Prop where
  isinstance : mg "isinstance" = none
  int : mg "int" = none
  bool : mg "bool" = none
  len : mg "len" = none
  reversed : mg "reversed" = none
  list : mg "list" = none
  zip : mg "zip" = none
  range : mg "range" = none
  tuple : mg "tuple" = none
  enumerate : mg "enumerate" = none
  ValueError : mg "ValueError" = none
end K15
namespace K15
open PySem L2 K19 K17
structure Script (K : PySem.W.Frag) (H : Hp) (a : Addr) : Prop where
  ex : ∃ ns : List Int, SqL K H a (ns.map V.int) ∧ ns.length ≤ 63
theorem Script.same {K : PySem.W.Frag} {H H' : Hp} {a : Addr} (S : Script K H a) (h : Same H H') : Script K H' a := by
  obtain ⟨ns, q, l⟩ := S.ex
  exact ⟨ns, h.seq q, l⟩
end K15

set_option Elab.async false
set_option linter.all false
set_option maxRecDepth 100000
set_option maxHeartbeats 4000000
local macro_rules | `(tactic| walk_at "r1") => `(tactic| (first | (with_reducible first | refine L2.s_seq ?_ | refine L2.s_asg ?_ | refine L2.s_ret ?_ | refine L2.s_ifS ?_ | refine L2.s_test ?_ | refine L2.s_op ?_ | refine L2.s_c ?_ | refine L2.s_cons ?_ | refine L2.s_nil ?_ | refine L2.s_call ?_ | refine L2.s_cb ?_ | refine L2.s_gname ?_ | refine L2.s_ex ?_ | refine L2.s_exi ?_ | refine L2.s_drop ?_ | refine L2.s_next ?_ | refine L2.s_un ?_ | refine L2.s_tB ?_ | refine L2.s_not ?_ | refine L2.s_and ?_ | refine L2.s_or ?_ | refine L2.s_andV ?_ | refine L2.s_orV ?_ | refine L2.s_notV ?_ | refine L2.s_vals ?_ | refine L2.s_tup ?_ | refine L2.s_lst ?_ | refine L2.s_bm ?_ | refine L2.s_bm0 ?_ | refine L2.s_sl ?_ | refine L2.s_po ?_ | refine L2.s_po0 ?_ | refine L2.s_gcons ?_ | refine L2.s_gnil ?_ | refine L2.s_gsub ?_ | refine L2.s_isN ?_ | refine L2.s_notN ?_ | refine L2.s_rI0 ?_ | refine L2.s_rU ?_ | refine L2.s_add_int ?_ | refine L2.s_lt ?_ | refine L2.s_le ?_ | refine L2.iteT ?_ | refine L2.iteF ?_ | refine L2.s_comp ?_ | refine L2.s_for ?_ | refine L2.s_rng1 ?_ | refine L2.s_rng3 ?_ | refine L2.s_exr ?_ | refine L2.s_iany ?_ | refine L2.s_irev ?_ | refine L2.s_ienum ?_ | refine L2.s_listen ?_ | refine L2.s_listrev ?_ | refine L2.s_izip ?_ | refine L2.s_ienumT ?_ | refine L2.s_listzp ?_ | refine L2.s_ipI ?_ | refine L2.s_yes ?_ | refine L2.s_turn ?_ | refine L2.s_int_b ?_ | refine L2.s_intb ?_ | refine L2.s_truth ?_ | refine L2.s_chain ?_ | refine L2.s_nt ?_ | refine L2.s_nf ?_) | ((with_reducible refine' L2.s_var ?e ?_); (case e => exact rfl)) | ((with_reducible refine' L2.s_aug ?e ?_); (case e => exact rfl)) | ((with_reducible refine' L2.s_eq ?e ?_); (case e => exact rfl)) | ((with_reducible refine' L2.s_ne ?e ?_); (case e => exact rfl)) | ((with_reducible refine' L2.s_neb ?e ?_); (case e => exact rfl)) | ((with_reducible refine' L2.s_rI ?c ?_); (case c => first | decide | exact ⟨by decide, by decide⟩ | exact ⟨by decide, by decide, by decide⟩)) | ((with_reducible refine' L2.s_mul_r ?a ?b ?_); (case a => decide); (case b => decide)) | ((with_reducible refine' L2.s_mul_l ?a ?b ?_); (case a => decide); (case b => decide)) | ((with_reducible refine' L2.s_exr3 ?e ?_); (case e => decide))))
local macro_rules | `(tactic| walk_at "r") => `(tactic| (repeat walk_at "r1"))
namespace K15
open PySem L2 K19 K17
section
variable {P : Program} {w : World} {K : PySem.W.Frag} {mg : Str → Option Value} {base : Heap}
def sp_cell (K : PySem.W.Frag) : Sp := fun vs H Q _ => ∃ (a : Addr) (k : Int), vs = [.ref a, .int k] ∧ Script K H a ∧ 0 ≤ k ∧ ∀ z : Int, Q (.int z) H
theorem sc_law_cell : FnScope ["_law_script", "_law_k", "_law_many_here", "_law_first"] ["_law_script", "_law_k"] (defScope s_law_cell) := ⟨rfl, rfl, rfl, by decide +kernel, rfl, by decide +kernel, by decide +kernel⟩
theorem ok_cell {f : Addr} {fd : FuncData} (F : Fun K "_law_cell" "_law_cell" s_law_cell f fd) (T : Txt K mg) : FnOk P w K mg base CX0 1 f fd ["_law_script", "_law_k"] (sp_cell K) := by
  refine F.okq sc_law_cell (fun vs H Q E h => ?_) (fun cdv A outer s H vs Q E hr h => ?_)
  · obtain ⟨a, k, rfl, _⟩ := h
    rfl
  · obtain ⟨a, k, rfl, S, h0, q⟩ := h
    obtain ⟨ns, hS, hl⟩ := S.ex
    refine ⟨_, qss_cons (qs_if (qt_cmpR op_ltA (qv 1) (qe_callB (k_len K) (by rfl) T.len (by decide +kernel) (qa_cons (qv 0) qa_nil)) (nomark _)) (qss_one (qs_ret (qe_ix (k_ix K) (qv 0) (qv 1) (fun _ _ => rfl)))) (qss_nil))
      (qss_cons (qs_set (i := 2) sc_law_cell.nd rfl (Or.inl rfl) (qe_callB (k_len K) (by rfl) T.len (by decide +kernel) (qa_cons (qv 0) qa_nil)))
      (qss_cons (qs_set (i := 3) sc_law_cell.nd rfl (Or.inl rfl) (qe_int))
      (qss_cons (qs_if (qt_cmpR op_gt (qv 2) (qe_int) (nomark _)) (qss_one (qs_set (i := 3) sc_law_cell.nd rfl (Or.inl rfl) (qe_op op_mod (qe_ix (k_ix K) (qv 0) (qe_op op_mod (qv 1) (qv 2)) (fun _ _ => rfl)) (qe_int)))) (qss_nil))
      (qss_one (qs_ret (qe_op op_mod (qe_op (k_add K) (qe_op (k_add K) (qe_op op_mulA (qv 3) (qe_int)) (qe_op op_mulA (qv 2) (qe_int))) (qe_op op_mulA (qv 1) (qe_int))) (qe_int))))))), ?_⟩
    walk_at "r"
    refine s_len_lst hS ?_
    walk_at "r"
    refine ite2 (fun h => ?_) (fun h => ?_)
    · have h1 : k < (ns.map V.int).length := by simpa using h
      obtain ⟨v, hv, m⟩ := atI_in h0 h1
      obtain ⟨z, _, rfl⟩ := List.mem_map.mp m
      walk_at "r"
      exact s_ix_lst hS hv (q z)
    · walk_at "r"
      refine s_len_lst hS ?_
      walk_at "r"
      refine ite2 (fun h => ?_) (fun h => ?_)
      · have hp : (0 : Int) < (ns.map V.int).length := by simpa using h
        obtain ⟨v, hv, m⟩ := atI_in (xs := ns.map V.int) (Int.emod_nonneg k (by omega)) (Int.emod_lt_of_pos k hp)
        obtain ⟨z, _, rfl⟩ := List.mem_map.mp m
        walk_at "r"
        refine s_rI hp ?_
        refine s_ix_lst hS hv ?_
        walk_at "r"
        exact q _
      · walk_at "r"
        exact q _
end
end K15

set_option Elab.async false
set_option linter.all false
set_option maxRecDepth 100000
set_option maxHeartbeats 4000000
namespace K15
open PySem L2 K19 K17
section
variable {P : Program} {w : World} {K : PySem.W.Frag} {mg : Str → Option Value} {base : Heap}
def LETS : Str := "abcdefghijklmnopqrstuvwxyz_"
theorem lets_len : LETS.cps.toList.length = 27 := by decide +kernel
theorem lets_size : LETS.length ≤ sizeLine := by decide +kernel
theorem catlen (u v : Str) : (u ++ v).length = u.length + v.length := by
  show (u.cps ++ v.cps).size = _
  simp [Str.length]
theorem one_len (c : Nat) : (⟨#[c]⟩ : Str).length = 1 := rfl
theorem big : 100000 ≤ sizeLine := by decide
def sp_names : Sp := fun vs H Q _ => ∃ (a b : Int), vs = [.int a, .int b] ∧ ∀ (p : Addr) (t0 t1 t2 : Str) (H' : Hp), Same H H' → H p = none → H' p = some (.lst [.str t0, .str t1, .str t2]) → Q (.ref p) H'
theorem nd_law_names_1 : (["_law_k", "_law_one"] : List Str).Nodup := by decide +kernel
theorem sc_law_names : FnScope ["_law_one", "_law_other", "_law_letters", "_law_size", "_law_base", "_law_step", "_law_names_here", "_law_j", "_law_name", "_law_k", "_law_move"] ["_law_one", "_law_other"] (defScope s_law_names) := ⟨rfl, rfl, rfl, by decide +kernel, rfl, by decide +kernel, by decide +kernel⟩
theorem three {α : Type} {xs : List α} (h : xs.length = 3) : ∃ a b c, xs = [a, b, c] := by
  match xs, h with
  | [a, b, c], _ => exact ⟨a, b, c, rfl⟩
def NmJ (H : Hp) (a b : Int) (D p : Addr) (ms : List Int) (j : Nat) (σ' : St) (H' : Hp) : Prop := ∃ (v7 v8 v9 v10 : Option V) (ts : List Str), σ' = [some (.int a), some (.int b), some (.str LETS), some (.int (1 + a % 8)), some (.ref D), some (.int (1 + b / 8 % 13)), some (.ref p), v7, v8, v9, v10] ∧ H' D = some (.lst (ms.map V.int)) ∧ H' p = some (.lst (ts.map V.str)) ∧ ts.length = j ∧ (∀ t ∈ ts, t.length ≤ 10) ∧ Same H H'
theorem ok_names {f : Addr} {fd : FuncData} (F : Fun K "_law_names" "_law_names" s_law_names f fd) (T : Txt K mg) : FnOk P w K mg base CX0 1 f fd ["_law_one", "_law_other"] sp_names := by
  refine F.okq sc_law_names (fun vs H Q E h => ?_) (fun cdv A outer s H vs Q E hr h => ?_)
  · obtain ⟨a, b, rfl, _⟩ := h
    rfl
  · obtain ⟨a, b, rfl, q⟩ := h
    refine ⟨_, qss_cons (qs_set (i := 2) sc_law_names.nd rfl (Or.inl rfl) (qe_str))
      (qss_cons (qs_set (i := 3) sc_law_names.nd rfl (Or.inl rfl) (qe_op (k_add K) (qe_int) (qe_op op_mod (qv 0) (qe_int))))
      (qss_cons (qs_setC (i := 4) (N := ["_law_k", "_law_one"]) (σ0 := capSt 1 [0]) rfl (cscope_fn rfl (by decide +kernel) (by decide +kernel) (by decide +kernel)) (qi_range1 rfl T.range (qa_cons (qv 3) qa_nil)) (takes_in rfl (by rfl)) (fun _ _ _ _ => qg_name (i := 0) nd_law_names_1 rfl (Or.inl rfl)) (fun _ _ _ _ => qts_nil) (fun _ _ _ _ => qe_op op_mod (qe_op op_mod (qe_op op_mulA (qv 1) (qe_op (k_add K) (qe_op op_mulA (qe_int) (qv 0)) (qe_int))) (qe_int)) (qe_int)) sc_law_names.nd rfl (Or.inl rfl))
      (qss_cons (qs_set (i := 5) sc_law_names.nd rfl (Or.inl rfl) (qe_op (k_add K) (qe_int) (qe_op op_mod (qe_op op_fdiv (qv 1) (qe_int)) (qe_int))))
      (qss_cons (qs_set (i := 6) sc_law_names.nd rfl (Or.inl rfl) (qe_lst (qa_nil)))
      (qss_cons (qs_for PassesOwn.never rfl (qi_range1 rfl T.range (qa_cons (qe_int) qa_nil)) (qg_name (i := 7) sc_law_names.nd rfl (Or.inl rfl)) (qss_cons (qs_set (i := 8) sc_law_names.nd rfl (Or.inl rfl) (qe_str))
      (qss_cons (qs_for PassesOwn.never rfl (qi_range1 rfl T.range (qa_cons (qv 3) qa_nil)) (qg_name (i := 9) sc_law_names.nd rfl (Or.inl rfl)) (qss_cons (qs_set (i := 10) sc_law_names.nd rfl (Or.inl rfl) (qe_op op_mulA (qe_op op_mulA (qv 7) (qv 5)) (qe_callTy k_int (by rfl) T.int (by decide +kernel) (qa_cons (qe_cmpR (k_eq K hr.u200) (qv 9) (qe_op op_mod (qv 1) (qv 3)) (nomark _)) qa_nil))))
      (qss_one (qs_set (i := 8) sc_law_names.nd rfl (Or.inl rfl) (qe_op (k_add K) (qv 8) (qe_ix (k_ix K) (qv 2) (qe_op op_mod (qe_op (k_add K) (qe_ix (k_ix K) (qv 4) (qv 9) (fun _ _ => rfl)) (qv 10)) (qe_int)) (fun _ _ => rfl)))))))
      (qss_cons (qs_if (qt_cmpR (k_in K) (qv 8) (qe_tup (qa_consts (xs := [.str "let", .str "in", .str "if", .str "then", .str "else", .str "fn", .str "rec", .str "yes", .str "no"]) rfl)) (by rfl)) (qss_one (qs_set (i := 8) sc_law_names.nd rfl (Or.inl rfl) (qe_op (k_add K) (qv 8) (qe_str)))) (qss_nil))
      (qss_one (qs_expr (qe_bmK K PySem.F.plainAttrs_list PySem.F.slot_list_append PySem.F.type_list_append mt_append (qv 6) (qa_cons (qv 8) qa_nil))))))))
      (qss_cons (qs_if (QW.qt (qw_and (qt_cmpR (k_eq K hr.u200) (qe_op op_mod (qe_op op_fdiv (qv 1) (qe_int)) (qe_int)) (qe_int) (nomark _)) (qw_and1 (qt_cmpR op_ltA (qe_callB (k_len K) (by rfl) T.len (by decide +kernel) (qa_cons (qe_ix (k_ix K) (qv 6) (qe_int) (fun _ _ => rfl)) qa_nil)) (qe_int) (nomark _))))) (qss_one (qs_asg (qe_op (k_add K) (qe_ix (k_ix K) (qv 6) (qe_int) (fun _ _ => rfl)) (qe_str)) (qg_sub (qv 6) (qe_int) set_list))) (qss_nil))
      (qss_one (qs_ret (qv 6))))))))), ?_⟩
    have bg := big
    have hs0 : 0 ≤ a % 8 := Int.emod_nonneg a (by decide)
    have hs1 : a % 8 < 8 := Int.emod_lt_of_pos a (by decide)
    have hst0 : 0 ≤ b / 8 % 13 := Int.emod_nonneg _ (by decide)
    have hst1 : b / 8 % 13 < 13 := Int.emod_lt_of_pos _ (by decide)
    walk_at "r"
    refine ⟨by omega, by omega, fun D hD => ?_⟩
    refine comp_range (Pv := fun i ys σ' H' => ∃ kv ms, σ' = [kv, some (.int a)] ∧ ys = ms.map V.int ∧ ms.length = i ∧ Same H H') ⟨none, [], rfl, rfl, rfl, Same.upd hD⟩ ?_ ?_
    · rintro i ys σ' H' hi hys ⟨kv, ms, rfl, rfl, hl, hH⟩
      walk_at "r"
      refine s_mul_r (by omega) (by omega) ?_
      walk_at "r"
      refine ⟨_, hys, by rw [List.length_map]; omega, _, upd_same, ?_⟩
      exact ⟨_, ms ++ [_], rfl, by rw [List.map_append]; rfl, by simp [hl], hH.over hD⟩
    · rintro ys σ' H1 hys ⟨kv, ms, rfl, rfl, hl, hH⟩
      walk_at "r"
      refine ⟨by show 0 ≤ sizeLine; decide, fun p hp => ?_⟩
      have hpD : D ≠ p := fun z => by rw [z, hp] at hys; cases hys
      have hp0 : H p = none := hH.free hp
      have hys' : upd H1 p (.lst []) D = some (.lst (ms.map V.int)) := by rw [upd_ne hpD]; exact hys
      walk_at "r"
      refine ⟨by decide, by decide, ?_⟩
      refine for_range (n := 3) (NmJ H a b D p ms) ⟨_, _, _, _, [], rfl, hys', upd_same, rfl, (fun t h => nomatch h), hH.put hp⟩ ?_ ?_
      · rintro j σ' H2 hj ⟨v7, v8, v9, v10, ts, rfl, hD2, hp2, hl2, hle2, sm2⟩
        walk_at "r"
        refine ⟨by omega, by omega, ?_⟩
        refine for_range (n := (1 + a % 8).toNat) (fun k σ' H' => ∃ v9 v10 t, σ' = [some (.int a), some (.int b), some (.str LETS), some (.int (1 + a % 8)), some (.ref D), some (.int (1 + b / 8 % 13)), some (.ref p), some (.int (0 + j)), some (.str t), v9, v10] ∧ t.length = k ∧ H' = H2) ⟨_, _, Str.empty, rfl, rfl, rfl⟩ ?_ ?_
        · rintro k σ' H3 hk ⟨v9', v10', t, rfl, hl3, rfl⟩
          walk_at "r"
          refine s_mul_l (by omega) (by omega) ?_
          walk_at "r"
          refine s_rI (by omega) ?_
          walk_at "r"
          refine s_mul_r (by split <;> decide) (by split <;> decide) ?_
          walk_at "r"
          have hk' : (k : Int) < ((ms.map V.int).length : Int) := by rw [List.length_map]; omega
          obtain ⟨v, hv, m⟩ := atI_in (xs := ms.map V.int) (i := 0 + (k : Int)) (by omega) (by omega)
          obtain ⟨z, _, rfl⟩ := List.mem_map.mp m
          refine s_ix_lst (SqL.of hD2) hv ?_
          walk_at "r"
          obtain ⟨c, hc, _⟩ := atI_in (xs := LETS.cps.toList) (i := (z + (0 + (j : Int)) * (1 + b / 8 % 13) * (if decide (V.int (0 + (k : Int)) = V.int (b % (1 + a % 8))) = true then 1 else 0)) % 27) (Int.emod_nonneg _ (by decide)) (by rw [lets_len]; exact Int.emod_lt_of_pos _ (by decide))
          refine s_ix_str lets_size hc ?_
          refine s_add_str (by rw [one_len]; omega) ?_
          exact ⟨_, _, _, rfl, by rw [catlen, one_len]; omega, rfl⟩
        · rintro σ' H3 ⟨v9', v10', t, rfl, hl3, rfl⟩
          walk_at "r"
          refine ⟨by show 9 ≤ sizeLine; decide, fun p9 h9 => ?_⟩
          refine s_in_seq (.inr (SqT.of upd_same)) rfl rfl ?_
          have nD : D ≠ p9 := fun z => by rw [z, h9] at hD2; cases hD2
          have np : p ≠ p9 := fun z => by rw [z, h9] at hp2; cases hp2
          have hpU : ∀ o, upd H3 p9 o p = some (.lst (ts.map V.str)) := fun o => by rw [upd_ne np]; exact hp2
          have hDU : ∀ o, upd H3 p9 o D = some (.lst (ms.map V.int)) := fun o => by rw [upd_ne nD]; exact hD2
          have smU : ∀ o, Same H (upd H3 p9 o) := fun o => sm2.put h9
          have fin : ∀ (t' : Str) (o : HO), t'.length ≤ 10 → NmJ H a b D p ms (j + 1) [some (.int a), some (.int b), some (.str LETS), some (.int (1 + a % 8)), some (.ref D), some (.int (1 + b / 8 % 13)), some (.ref p), some (.int (0 + (j : Int))), some (.str t'), v9', v10'] (upd (upd H3 p9 o) p (.lst (ts.map V.str ++ [.str t']))) := fun t' o ht' =>
            ⟨_, _, _, _, ts ++ [t'], rfl, by rw [upd_ne hpD]; exact hDU o, by rw [upd_same, List.map_append]; rfl, by simp [hl2], fun u hu => by
              rcases List.mem_append.mp hu with hu | hu
              · exact hle2 u hu
              · rw [List.mem_singleton.mp hu]; exact ht', (smU o).over hp0⟩
          walk_at "r"
          refine ite2 (fun _ => ?_) (fun _ => ?_)
          · walk_at "r"
            have l1 : (Str.ofString "_").length = 1 := by decide +kernel
            refine s_add_str (by rw [l1]; omega) ?_
            walk_at "r"
            refine s_tyL (SqL.of (hpU _)) ?_
            walk_at "r"
            refine s_app (hpU _) (by rw [List.length_map]; omega) ?_
            exact fin _ _ (by rw [catlen, l1]; omega)
          · walk_at "r"
            refine s_tyL (SqL.of (hpU _)) ?_
            walk_at "r"
            refine s_app (hpU _) (by rw [List.length_map]; omega) ?_
            exact fin _ _ (by omega)
      · rintro σ' H2 ⟨v7, v8, v9, v10, ts, rfl, hD2, hp2, hl2, hle2, sm2⟩
        obtain ⟨t0, t1, t2, rfl⟩ := three hl2
        have l0 := hle2 t0 (by simp)
        walk_at "r"
        refine ite2 (fun _ => ?_) (fun _ => ?_)
        · walk_at "r"
          refine s_ix_lst (SqL.of hp2) (v := .str t0) rfl ?_
          walk_at "r"
          refine s_len_str (by omega) ?_
          walk_at "r"
          refine ite2 (fun _ => ?_) (fun _ => ?_)
          · walk_at "r"
            refine s_ix_lst (SqL.of hp2) (v := .str t0) rfl ?_
            have l1 : (Str.ofString "_").length = 1 := by decide +kernel
            refine s_add_str (by rw [l1]; omega) ?_
            walk_at "r"
            refine s_setL hp2 (j := 2) rfl ?_
            walk_at "r"
            exact q p _ _ _ _ (sm2.over hp0) hp0 upd_same
          · walk_at "r"
            exact q p _ _ _ _ sm2 hp0 hp2
        · walk_at "r"
          exact q p _ _ _ _ sm2 hp0 hp2
end
end K15

set_option Elab.async false
set_option linter.all false
set_option maxRecDepth 100000
set_option maxHeartbeats 4000000
namespace K15
open PySem L2 K19 K17
section
variable {P : Program} {w : World} {K : PySem.W.Frag} {mg : Str → Option Value} {base : Heap}
def SIG91 : Str := "!\"#$&'*+,-./0123456789:;<=>?@ABCDEFGHIJKLMNOPQRSTUVWXYZ[\\]^_`abcdefghijklmnopqrstuvwxyz{|}~"
def SIG27 : Str := "!\"#$&'*,./:;=>@AQZ[\\]^`{|}~"
theorem sig91_len : SIG91.cps.toList.length = 91 := by decide +kernel
theorem sig91_size : SIG91.length ≤ sizeLine := by decide +kernel
theorem sig27_len : SIG27.cps.toList.length = 27 := by decide +kernel
theorem sig27_size : SIG27.length ≤ sizeLine := by decide +kernel
def sp_odd : Sp := fun vs H Q _ => ∃ c : Int, vs = [.int c] ∧ ∀ (t : Str) (H' : Hp), Same H H' → Q (.str t) H'
theorem sum_ones {ts : List Str} (h : ∀ t ∈ ts, t.length = 1) : (ts.map (·.length)).sum = ts.length := by
  induction ts with
  | nil => rfl
  | cons t r ih =>
    rw [List.map_cons, List.sum_cons, h t List.mem_cons_self, ih fun u hu => h u (List.mem_cons_of_mem _ hu), List.length_cons]
    omega
theorem join_le {ts : List Str} (h : ∀ t ∈ ts, t.length = 1) : (Txt.join "" ts).length ≤ ts.length := by
  have e : ("" : Str) = Str.empty := by decide +kernel
  have := PySem.StrLaws.join_length_le Str.empty ts
  rw [sum_ones h, show Str.empty.length = 0 from rfl] at this
  unfold Txt.join
  rw [PySem.StrLaws.glued_eq_join, e]
  omega
theorem nd_law_odd_1 : (["_law_k", "_law_signs", "_law_cell_here"] : List Str).Nodup := by decide +kernel
theorem sc_law_odd : FnScope ["_law_cell_here", "_law_some", "_law_signs", "_law_size", "_law_text", "_law_at"] ["_law_cell_here"] (defScope s_law_odd) := ⟨rfl, rfl, rfl, by decide +kernel, rfl, by decide +kernel, by decide +kernel⟩
theorem ok_odd {f : Addr} {fd : FuncData} (F : Fun K "_law_odd" "_law_odd" s_law_odd f fd) (T : Txt K mg) : FnOk P w K mg base CX0 1 f fd ["_law_cell_here"] sp_odd := by
  refine F.okq sc_law_odd (fun vs H Q E h => ?_) (fun cdv A outer s H vs Q E hr h => ?_)
  · obtain ⟨a, rfl, _⟩ := h
    rfl
  · obtain ⟨c, rfl, q⟩ := h
    refine ⟨_, qss_cons (qs_set (i := 1) sc_law_odd.nd rfl (Or.inl rfl) (qe_lst (qa_consts (xs := [.str "in", .str "then", .str "else", .str "=", .str "=>", .str "007", .str "--", .str "??", .str "ninesigns"]) rfl)))
      (qss_cons (qs_if (qt_cmpR (k_eq K hr.u200) (qe_op op_mod (qv 0) (qe_int)) (qe_int) (nomark _)) (qss_one (qs_ret (qe_ix (k_ix K) (qv 1) (qe_op op_mod (qe_op op_fdiv (qv 0) (qe_int)) (qe_int)) (fun _ _ => rfl)))) (qss_nil))
      (qss_cons (qs_set (i := 2) sc_law_odd.nd rfl (Or.inr rfl) (qe_str))
      (qss_cons (qs_set (i := 3) sc_law_odd.nd rfl (Or.inl rfl) (qe_ix (k_ix K) (qe_lst (qa_consts (xs := [.int 2, .int 1, .int 5, .int 7, .int 60]) rfl)) (qe_op op_mod (qe_op op_fdiv (qv 0) (qe_int)) (qe_int)) (fun _ _ => rfl)))
      (qss_cons (qs_set (i := 4) sc_law_odd.nd rfl (Or.inl rfl) (qe_bmK K PySem.F.plainAttrs_str PySem.F.slot_str_join PySem.F.type_str_join (k_join K) (qe_str) (qa_cons (qe_comp (N := ["_law_k", "_law_signs", "_law_cell_here"]) (σ0 := capSt 1 [2, 0]) rfl (cscope_fn rfl (by decide +kernel) (by decide +kernel) (by decide +kernel)) (qi_range1 rfl T.range (qa_cons (qe_op op_sub (qv 3) (qe_int)) qa_nil)) (takes_in rfl (by rfl)) (fun _ _ _ _ => qg_name (i := 0) nd_law_odd_1 rfl (Or.inl rfl)) (fun _ _ _ _ => qts_nil) (fun _ _ _ _ => qe_ix (k_ix K) (qv 1) (qe_op op_mod (qe_op op_mod (qe_op op_mulA (qv 2) (qe_op (k_add K) (qv 0) (qe_int))) (qe_int)) (qe_int)) (fun _ _ => rfl))) qa_nil)))
      (qss_cons (qs_set (i := 5) sc_law_odd.nd rfl (Or.inl rfl) (qe_op op_mod (qe_op op_fdiv (qv 0) (qe_int)) (qv 3)))
      (qss_one (qs_ret (qe_op (k_add K) (qe_op (k_add K) (qe_slice (k_sl K) (qv 4) (qo_none) (qo_some (qv 5))) (qe_ix (k_ix K) (qe_str) (qe_op op_mod (qe_op op_fdiv (qv 0) (qe_int)) (qe_int)) (fun _ _ => rfl))) (qe_slice (k_sl K) (qv 4) (qo_some (qv 5)) (qo_none)))))))))), ?_⟩
    have bg := big
    walk_at "r"
    refine ⟨by show 9 ≤ sizeLine; decide, fun p hp => ?_⟩
    have sm := Same.upd (o := .lst [.str "in", .str "then", .str "else", .str "=", .str "=>", .str "007", .str "--", .str "??", .str "ninesigns"]) hp
    walk_at "r"
    refine ite2 (fun _ => ?_) (fun _ => ?_)
    · walk_at "r"
      obtain ⟨v, hv, m⟩ := atI_in (xs := ([.str "in", .str "then", .str "else", .str "=", .str "=>", .str "007", .str "--", .str "??", .str "ninesigns"] : List V)) (i := c / 3 % 9) (Int.emod_nonneg _ (by decide)) (Int.emod_lt_of_pos _ (by decide))
      obtain ⟨t, rfl⟩ : ∃ t, v = V.str t := by
        simp only [List.mem_cons, List.not_mem_nil, or_false] at m
        rcases m with h | h | h | h | h | h | h | h | h <;> exact ⟨_, h⟩
      exact s_ix_lst (SqL.of upd_same) hv (q t _ sm)
    · walk_at "r"
      refine ⟨by show 5 ≤ sizeLine; decide, fun p2 hp2 => ?_⟩
      have sm2 := sm.put (o := .lst [.int 2, .int 1, .int 5, .int 7, .int 60]) hp2
      walk_at "r"
      obtain ⟨v, hv, m⟩ := atI_in (xs := ([.int 2, .int 1, .int 5, .int 7, .int 60] : List V)) (i := c / 3 % 5) (Int.emod_nonneg _ (by decide)) (Int.emod_lt_of_pos _ (by decide))
      obtain ⟨n, rfl, n1, n2⟩ : ∃ n : Int, v = V.int n ∧ 1 ≤ n ∧ n ≤ 60 := by
        simp only [List.mem_cons, List.not_mem_nil, or_false] at m
        rcases m with h | h | h | h | h <;> exact ⟨_, h, by decide, by decide⟩
      refine s_ix_lst (SqL.of upd_same) hv ?_
      walk_at "r"
      refine ⟨rfl, ?_⟩
      walk_at "r"
      refine ⟨by omega, by omega, fun D hD => ?_⟩
      refine comp_range (Pv := fun i ys σ' H' => ∃ kv ts, σ' = [kv, some (.str SIG91), some (.int c)] ∧ ys = ts.map V.str ∧ ts.length = i ∧ (∀ t ∈ ts, t.length = 1) ∧ Same H H') ⟨none, [], rfl, rfl, rfl, (fun t h => nomatch h), sm2.put hD⟩ ?_ ?_
      · rintro i ys σ' H' hi hys ⟨kv, ts, rfl, rfl, hl, h1, hH⟩
        walk_at "r"
        refine s_mul_r (by omega) (by omega) ?_
        walk_at "r"
        obtain ⟨d, hd, _⟩ := atI_in (xs := SIG91.cps.toList) (i := c * (0 + (i : Int) + 6007) % 1000003 % 91) (Int.emod_nonneg _ (by decide)) (by rw [sig91_len]; exact Int.emod_lt_of_pos _ (by decide))
        refine s_ix_str sig91_size hd ?_
        refine ⟨_, hys, by rw [List.length_map]; omega, _, upd_same, ?_⟩
        refine ⟨_, ts ++ [⟨#[d]⟩], rfl, by rw [List.map_append]; rfl, by simp [hl], fun t ht => ?_, hH.over (sm2.free hD)⟩
        rcases List.mem_append.mp ht with ht | ht
        · exact h1 t ht
        · rw [List.mem_singleton.mp ht]; rfl
      · rintro ys σ' H1 hys ⟨kv, ts, rfl, rfl, hl, h1, hH⟩
        have e0 : (Str.ofString "").length = 0 := by decide +kernel
        walk_at "r"
        refine s_join (K := K) (SqL.of hys) (by rw [sum_ones h1, e0]; omega) ?_
        have jl := join_le h1
        walk_at "r"
        refine s_rI (by omega) ?_
        walk_at "r"
        refine s_sl_str (by omega) ?_
        walk_at "r"
        obtain ⟨d, hd, _⟩ := atI_in (xs := SIG27.cps.toList) (i := c / 7 % 27) (Int.emod_nonneg _ (by decide)) (by rw [sig27_len]; exact Int.emod_lt_of_pos _ (by decide))
        refine s_ix_str sig27_size hd ?_
        have l1 := Txt.slice_le (Txt.join "" ts) none (some (c / 15 % n))
        have l2 := Txt.slice_le (Txt.join "" ts) (some (c / 15 % n)) none
        refine s_add_str (by rw [one_len]; omega) ?_
        walk_at "r"
        refine s_sl_str (by omega) ?_
        refine s_add_str (by rw [catlen, one_len]; omega) ?_
        exact q _ _ hH
end
end K15

set_option Elab.async false
set_option linter.all false
set_option maxRecDepth 100000
set_option maxHeartbeats 4000000
namespace K15
open PySem L2 K19 K17
section
variable {P : Program} {w : World} {K : PySem.W.Frag} {mg : Str → Option Value} {base : Heap}
def sp_num : Sp := fun vs H Q _ => ∃ c : Int, vs = [.int c] ∧ ∀ z : Int, Q (.int z) H
theorem sc_law_number : FnScope ["_law_cell_here"] ["_law_cell_here"] (defScope s_law_number) := ⟨rfl, rfl, rfl, by decide +kernel, rfl, by decide +kernel, by decide +kernel⟩
theorem ok_num {f : Addr} {fd : FuncData} (F : Fun K "_law_number" "_law_number" s_law_number f fd) (T : Txt K mg) : FnOk P w K mg base CX0 1 f fd ["_law_cell_here"] sp_num := by
  refine F.okq sc_law_number (fun vs H Q E h => ?_) (fun cdv A outer s H vs Q E hr h => ?_)
  · obtain ⟨a, rfl, _⟩ := h
    rfl
  · obtain ⟨c, rfl, q⟩ := h
    refine ⟨_, qss_cons (qs_if (qt_cmpR (k_eq K hr.u200) (qe_op op_mod (qv 0) (qe_int)) (qe_int) (nomark _)) (qss_one (qs_ret (qe_op op_mod (qe_op op_fdiv (qv 0) (qe_int)) (qe_int)))) (qss_nil))
      (qss_cons (qs_if (qt_cmpR (k_eq K hr.u200) (qe_op op_mod (qv 0) (qe_int)) (qe_int) (nomark _)) (qss_one (qs_ret (qe_op op_sub (qe_op op_sub (qe_op op_pow (qe_int) (qe_int)) (qe_int)) (qe_op op_mod (qe_op op_fdiv (qv 0) (qe_int)) (qe_int))))) (qss_nil))
      (qss_one (qs_ret (qe_op op_mod (qe_op op_mulA (qe_op op_fdiv (qv 0) (qe_int)) (qe_int)) (qe_op op_pow (qe_int) (qe_int)))))), ?_⟩
    walk_at "r"
    refine ite2 (fun _ => ?_) (fun _ => ?_)
    · walk_at "r"
      exact q _
    · walk_at "r"
      refine ite2 (fun _ => ?_) (fun _ => ?_)
      · walk_at "r"
        exact q _
      · walk_at "r"
        exact q _
end
end K15

set_option Elab.async false
set_option linter.all false
set_option maxRecDepth 100000
set_option maxHeartbeats 4000000
namespace K15
open PySem L2 K19 K17
section
variable {P : Program} {w : World} {K : PySem.W.Frag} {mg : Str → Option Value} {base : Heap}
def sp_head (K : PySem.W.Frag) : Sp := fun vs H Q _ => ∃ (c : Int) (p : Addr) (t0 t1 t2 : Str), vs = [.int c, .ref p] ∧ SqL K H p [.str t0, .str t1, .str t2] ∧
  ∀ (a : Addr) (wd : Str) (note : V) (n : Dt) (H' : Hp), Same H H' → SqT K H' a [.str wd, note] → IsN K H' note n → shp wd n → Q (.ref a) H'
theorem pick3 {t0 t1 t2 : Str} (c : Int) : ∃ t : Str, atI ([.str t0, .str t1, .str t2] : List V) (c % 3) = some (.str t) := by
  obtain ⟨v, hv, m⟩ := atI_in (xs := ([.str t0, .str t1, .str t2] : List V)) (i := c % 3) (Int.emod_nonneg _ (by decide)) (Int.emod_lt_of_pos _ (by decide))
  simp only [List.mem_cons, List.not_mem_nil, or_false] at m
  rcases m with h | h | h <;> exact ⟨_, by rw [hv, h]⟩
theorem sc_law_head : FnScope ["_law_cell_here", "_law_names_here", "_law_heads", "_law_word", "_law_more"] ["_law_cell_here", "_law_names_here"] (defScope s_law_head) := ⟨rfl, rfl, rfl, by decide +kernel, rfl, by decide +kernel, by decide +kernel⟩
theorem ok_head {f : Addr} {fd : FuncData} (F : Fun K "_law_head" "_law_head" s_law_head f fd) (T : Txt K mg) (C__law_odd : Callee P w K mg base 1 "_law_odd" ["_law_cell_here"] sp_odd) (C__law_number : Callee P w K mg base 1 "_law_number" ["_law_cell_here"] sp_num) : FnOk P w K mg base CX0 2 f fd ["_law_cell_here", "_law_names_here"] (sp_head K) := by
  refine F.okq sc_law_head (fun vs H Q E h => ?_) (fun cdv A outer s H vs Q E hr h => ?_)
  · obtain ⟨c, p, t0, t1, t2, rfl, _⟩ := h
    rfl
  · obtain ⟨c, p, t0, t1, t2, rfl, hp, q⟩ := h
    refine ⟨_, qss_cons (qs_set (i := 2) sc_law_head.nd rfl (Or.inl rfl) (qe_lst (qa_consts (xs := [.str "gap", .str "odd", .str "num", .str "truth", .str "name", .str "plus", .str "minus", .str "less", .str "call", .str "if", .str "fn"]) rfl)))
      (qss_cons (qs_set (i := 3) sc_law_head.nd rfl (Or.inl rfl) (qe_ix (k_ix K) (qe_op (k_add K) (qv 2) (qe_lst (qa_cons (qe_str) (qa_cons (qe_str) qa_nil)))) (qe_op op_mod (qv 0) (qe_int)) (fun _ _ => rfl)))
      (qss_cons (qs_set (i := 4) sc_law_head.nd rfl (Or.inl rfl) (qe_op op_fdiv (qv 0) (qe_int)))
      (qss_cons (qs_if (qt_cmpR (k_eq K hr.u200) (qv 3) (qe_str) (nomark _)) (qss_one (qs_ret (qe_tup (qa_cons (qv 3) (qa_cons (qe_fn C__law_odd (hr.mono (by decide)) (qa_cons (qv 4) qa_nil)) qa_nil))))) (qss_nil))
      (qss_cons (qs_if (qt_cmpR (k_eq K hr.u200) (qv 3) (qe_str) (nomark _)) (qss_one (qs_ret (qe_tup (qa_cons (qv 3) (qa_cons (qe_fn C__law_number (hr.mono (by decide)) (qa_cons (qv 4) qa_nil)) qa_nil))))) (qss_nil))
      (qss_cons (qs_if (qt_cmpR (k_eq K hr.u200) (qv 3) (qe_str) (nomark _)) (qss_one (qs_ret (qe_tup (qa_cons (qv 3) (qa_cons (qe_cmpR (k_eq K hr.u200) (qe_op op_mod (qv 4) (qe_int)) (qe_int) (nomark _)) qa_nil))))) (qss_nil))
      (qss_cons (qs_if (qt_cmpR (k_in K) (qv 3) (qe_tup (qa_cons (qe_str) (qa_cons (qe_str) (qa_cons (qe_str) qa_nil)))) (by rfl)) (qss_one (qs_ret (qe_tup (qa_cons (qv 3) (qa_cons (qe_ix (k_ix K) (qv 1) (qe_op op_mod (qv 4) (qe_int)) (fun _ _ => rfl)) qa_nil))))) (qss_nil))
      (qss_cons (qs_if (qt_cmpR (k_eq K hr.u200) (qv 3) (qe_str) (nomark _)) (qss_one (qs_ret (qe_tup (qa_cons (qv 3) (qa_cons (qe_tup (qa_cons (qe_ix (k_ix K) (qv 1) (qe_op op_mod (qv 4) (qe_int)) (fun _ _ => rfl)) (qa_cons (qe_ix (k_ix K) (qv 1) (qe_op op_mod (qe_op op_fdiv (qv 4) (qe_int)) (qe_int)) (fun _ _ => rfl)) qa_nil))) qa_nil))))) (qss_nil))
      (qss_one (qs_ret (qe_tup (qa_cons (qv 3) (qa_cons (qe_non) qa_nil)))))))))))), ?_⟩
    walk_at "r"
    refine ⟨by show 11 ≤ sizeLine; decide, fun p1 h1 => ?_⟩
    walk_at "r"
    refine ⟨by show 2 ≤ sizeLine; decide, fun p2 h2 => ?_⟩
    have n12 : p1 ≠ p2 := fun z => by rw [z, ← z, upd_same] at h2; cases h2
    refine s_add_lst (by rw [upd_ne n12]; exact upd_same) upd_same (by show 13 ≤ sizeLine; decide) fun p3 h3 => ?_
    walk_at "r"
    obtain ⟨v, hv, m⟩ := atI_in (xs := ([.str "gap", .str "odd", .str "num", .str "truth", .str "name", .str "plus", .str "minus", .str "less", .str "call", .str "if", .str "fn"] ++ [.str "rec", .str "let"] : List V)) (i := c % 13) (Int.emod_nonneg _ (by decide)) (Int.emod_lt_of_pos _ (by decide))
    obtain ⟨wd, rfl⟩ : ∃ t, v = V.str t := by
      simp only [List.cons_append, List.nil_append, List.mem_cons, List.not_mem_nil, or_false] at m
      rcases m with h | h | h | h | h | h | h | h | h | h | h | h | h <;> exact ⟨_, h⟩
    refine s_ix_lst (SqL.of upd_same) hv ?_
    have sm3 := ((Same.upd (o := .lst [.str "gap", .str "odd", .str "num", .str "truth", .str "name", .str "plus", .str "minus", .str "less", .str "call", .str "if", .str "fn"]) h1).put (o := .lst [.str "rec", .str "let"]) h2).put (o := .lst ([.str "gap", .str "odd", .str "num", .str "truth", .str "name", .str "plus", .str "minus", .str "less", .str "call", .str "if", .str "fn"] ++ [.str "rec", .str "let"])) h3
    revert sm3
    generalize upd (upd (upd H p1 _) p2 _) p3 _ = H3
    intro sm3
    have two : ∀ (note : V) (n : Dt) (H4 : Hp), Same H3 H4 → IsN K H4 note n → shp wd n → ([V.str wd, note] : List V).length ≤ sizeLine ∧ ∀ p, H4 p = none → Q (.ref p) (upd H4 p (.tup [.str wd, note])) := fun note n H4 s4 hn hsh =>
      ⟨by show 2 ≤ sizeLine; decide, fun p4 h4 => q p4 wd note n _ (sm3.trans (s4.put h4)) (SqT.of upd_same) (hn.same (SameT.new h4)) hsh⟩
    walk_at "r"
    refine ite2 (fun cc => ?_) (fun cc => ?_)
    · walk_at "r"
      refine ⟨_, rfl, fun t H4 s4 => ?_⟩
      walk_at "r"
      exact two _ _ _ s4 (.inl ⟨rfl, rfl⟩) (by rw [show wd = "odd" by simpa using cc]; exact shp_non (by decide +kernel) (by decide +kernel) (by decide +kernel) (by decide +kernel))
    have g1 : wd ≠ "odd" := fun e => cc (by simp [e])
    walk_at "r"
    refine ite2 (fun cc => ?_) (fun cc => ?_)
    · walk_at "r"
      refine ⟨_, rfl, fun z => ?_⟩
      walk_at "r"
      exact two _ _ _ (Same.refl _) (.inl ⟨rfl, rfl⟩) (by rw [show wd = "num" by simpa using cc]; exact shp_non (by decide +kernel) (by decide +kernel) (by decide +kernel) (by decide +kernel))
    have g2 : wd ≠ "num" := fun e => cc (by simp [e])
    walk_at "r"
    refine ite2 (fun cc => ?_) (fun cc => ?_)
    · walk_at "r"
      exact two _ _ _ (Same.refl _) (.inl ⟨rfl, rfl⟩) (by rw [show wd = "truth" by simpa using cc]; exact shp_non (by decide +kernel) (by decide +kernel) (by decide +kernel) (by decide +kernel))
    have g3 : wd ≠ "truth" := fun e => cc (by simp [e])
    walk_at "r"
    refine ⟨by show 3 ≤ sizeLine; decide, fun p4 h4 => ?_⟩
    refine s_in_seq (.inr (SqT.of upd_same)) rfl rfl ?_
    have s4 := Same.upd (o := .tup [.str "name", .str "fn", .str "let"]) h4
    walk_at "r"
    refine ite2 (fun cc => ?_) (fun cc => ?_)
    · walk_at "r"
      obtain ⟨t, ht⟩ := pick3 (t0 := t0) (t1 := t1) (t2 := t2) (c / 13)
      refine s_ix_lst ((sm3.trans s4).seq hp) ht ?_
      walk_at "r"
      exact two _ _ _ s4 (.inl ⟨rfl, rfl⟩) ⟨fun _ => ⟨t, rfl⟩, fun e => absurd cc (by rw [e]; decide +kernel)⟩
    have g4 : wd ≠ "name" := fun e => cc (by rw [e]; decide +kernel)
    have g5 : wd ≠ "fn" := fun e => cc (by rw [e]; decide +kernel)
    have g6 : wd ≠ "let" := fun e => cc (by rw [e]; decide +kernel)
    walk_at "r"
    refine ite2 (fun cc => ?_) (fun cc => ?_)
    · walk_at "r"
      obtain ⟨t, ht⟩ := pick3 (t0 := t0) (t1 := t1) (t2 := t2) (c / 13)
      obtain ⟨u, hu⟩ := pick3 (t0 := t0) (t1 := t1) (t2 := t2) (c / 13 / 3)
      refine s_ix_lst ((sm3.trans s4).seq hp) ht ?_
      walk_at "r"
      refine s_ix_lst ((sm3.trans s4).seq hp) hu ?_
      walk_at "r"
      refine ⟨by show 2 ≤ sizeLine; decide, fun p5 h5 => ?_⟩
      walk_at "r"
      exact two _ _ _ (s4.put h5) (.inr ⟨p5, [.str t, .str u], rfl, SqT.of upd_same, rfl, rfl⟩) ⟨fun e => by rcases e with e | e | e <;> contradiction, fun _ => ⟨t, u, rfl⟩⟩
    · walk_at "r"
      exact two _ _ _ s4 (.inl ⟨rfl, rfl⟩) (shp_non g5 g6 g4 (fun e => cc (by simp [e])))
end
end K15

set_option Elab.async false
set_option linter.all false
set_option maxRecDepth 100000
set_option maxHeartbeats 4000000
namespace K15
open PySem L2 K19 K17
section
variable {P : Program} {w : World} {K : PySem.W.Frag} {mg : Str → Option Value} {base : Heap}
def sp_many : Sp := fun vs H Q _ => ∃ wd : Str, vs = [.str wd] ∧ ∀ (z : Int) (H' : Hp), 0 ≤ z → z ≤ 3 → Same H H' → Q (.int z) H'
theorem sc_law_many : FnScope ["_law_word"] ["_law_word"] (defScope s_law_many) := ⟨rfl, rfl, rfl, by decide +kernel, rfl, by decide +kernel, by decide +kernel⟩
theorem ok_many {f : Addr} {fd : FuncData} (F : Fun K "_law_many" "_law_many" s_law_many f fd) (T : Txt K mg) : FnOk P w K mg base CX0 1 f fd ["_law_word"] sp_many := by
  refine F.okq sc_law_many (fun vs H Q E h => ?_) (fun cdv A outer s H vs Q E hr h => ?_)
  · obtain ⟨a, rfl, _⟩ := h
    rfl
  · obtain ⟨wd, rfl, q⟩ := h
    refine ⟨_, qss_cons (qs_if (qt_cmpR (k_in K) (qv 0) (qe_tup (qa_consts (xs := [.str "plus", .str "minus", .str "less", .str "call", .str "let"]) rfl)) (by rfl)) (qss_one (qs_ret (qe_int))) (qss_nil))
      (qss_cons (qs_if (qt_cmpR (k_eq K hr.u200) (qv 0) (qe_str) (nomark _)) (qss_one (qs_ret (qe_int))) (qss_nil))
      (qss_one (qs_ret (qe_callTy k_int (by rfl) T.int (by decide +kernel) (qa_cons (qe_cmpR (k_in K) (qv 0) (qe_tup (qa_cons (qe_str) (qa_cons (qe_str) qa_nil))) (by rfl)) qa_nil))))), ?_⟩
    walk_at "r"
    refine ⟨by show 5 ≤ sizeLine; decide, fun p1 h1 => ?_⟩
    refine s_in_seq (.inr (SqT.of upd_same)) rfl rfl ?_
    have s1 := Same.upd (o := .tup [.str "plus", .str "minus", .str "less", .str "call", .str "let"]) h1
    walk_at "r"
    refine ite2 (fun _ => ?_) (fun _ => ?_)
    · walk_at "r"
      exact q _ _ (by decide) (by decide) s1
    walk_at "r"
    refine ite2 (fun _ => ?_) (fun _ => ?_)
    · walk_at "r"
      exact q _ _ (by decide) (by decide) s1
    walk_at "r"
    refine ⟨by show 2 ≤ sizeLine; decide, fun p2 h2 => ?_⟩
    refine s_in_seq (.inr (SqT.of upd_same)) rfl rfl ?_
    walk_at "r"
    have h01 : ∀ b : Bool, (0 : Int) ≤ (if b = true then 1 else 0) ∧ (if b = true then (1 : Int) else 0) ≤ 3 := by decide
    exact q _ _ (h01 _).1 (h01 _).2 (s1.put h2)
end
end K15

set_option Elab.async false
set_option linter.all false
set_option maxRecDepth 100000
set_option maxHeartbeats 4000000
namespace K15
open PySem L2 K19 K17
section
variable {P : Program} {w : World} {K : PySem.W.Frag} {mg : Str → Option Value} {base : Heap}
def sp_tree (K : PySem.W.Frag) : Sp := fun vs H Q _ => ∃ (c p : Addr) (ns : List Int) (t0 t1 t2 : Str), vs = [.ref c, .ref p] ∧ SqL K H c (ns.map V.int) ∧ ns.length ≤ 63 ∧ SqL K H p [.str t0, .str t1, .str t2] ∧
  ∀ (v : V) (t : Tr) (H' : Hp), Same H H' → TrAt K H' v t → TrSh t → t.size ≤ 1 + 5 * ns.length → dep t ≤ 1 + 2 * ns.length → Q v H'
theorem sc_law_tree : FnScope ["_law_cells", "_law_names_here", "_law_left", "_law_cell_here", "_law_word", "_law_note", "_law_parts", "_law_k", "_law_tree_here", "_law_form"] ["_law_cells", "_law_names_here"] (defScope s_law_tree) := ⟨rfl, rfl, rfl, by decide +kernel, rfl, by decide +kernel, by decide +kernel⟩
def TreeJ (K : PySem.W.Frag) (H : Hp) (c p pl : Addr) (i : Nat) (σ : St) (H' : Hp) : Prop := ∃ (v3 v4 v5 v6 v7 v8 v9 : Option V) (lv : List V) (lt : List Tr), σ = [some (.ref c), some (.ref p), some (.ref pl), v3, v4, v5, v6, v7, v8, v9] ∧ H' pl = some (.lst lv) ∧ Al (TrAt K H') lv lt ∧ sizes lt ≤ 4 * i ∧ lt.length ≤ i ∧ (∀ t ∈ lt, TrSh t) ∧ deps lt ≤ i + 1 ∧ Same H H'
theorem TrAt.al {K : PySem.W.Frag} {H H' : Hp} {vs : List V} {ts : List Tr} (h : Al (TrAt K H) vs ts) (e : SameT H H') : Al (TrAt K H') vs ts := h.mono fun _ _ a => a.sameT e
theorem ok_tree {f : Addr} {fd : FuncData} (F : Fun K "_law_tree" "_law_tree" s_law_tree f fd) (T : Txt K mg) (C__law_head : Callee P w K mg base 2 "_law_head" ["_law_cell_here", "_law_names_here"] (sp_head K)) (C__law_many : Callee P w K mg base 1 "_law_many" ["_law_word"] sp_many) : FnOk P w K mg base CX0 3 f fd ["_law_cells", "_law_names_here"] (sp_tree K) := by
  refine F.okq sc_law_tree (fun vs H Q E h => ?_) (fun cdv A outer s H vs Q E hr h => ?_)
  · obtain ⟨c, p, ns, t0, t1, t2, rfl, _⟩ := h
    rfl
  · obtain ⟨c, p, ns, t0, t1, t2, rfl, hc, hn, hp, q⟩ := h
    refine ⟨_, qss_cons (qs_set (i := 2) sc_law_tree.nd rfl (Or.inl rfl) (qe_lst (qa_nil)))
      (qss_cons (qs_for PassesOwn.never rfl (qi_anyK K (qv 0)) (qg_name (i := 3) sc_law_tree.nd rfl (Or.inl rfl)) (qss_cons (qs_asg (qe_fn C__law_head (hr.mono (by decide)) (qa_cons (qv 3) (qa_cons (qv 1) qa_nil))) (qg_tupK K (n := 2) rfl (qgs_cons (qg_name (i := 4) sc_law_tree.nd rfl (Or.inl rfl)) (qgs_cons (qg_name (i := 5) sc_law_tree.nd rfl (Or.inl rfl)) (qgs_nil)))))
      (qss_cons (qs_set (i := 6) sc_law_tree.nd rfl (Or.inl rfl) (qe_lst (qa_nil)))
      (qss_cons (qs_for PassesOwn.never rfl (qi_range1 rfl T.range (qa_cons (qe_fn C__law_many (hr.mono (by decide)) (qa_cons (qv 4) qa_nil)) qa_nil)) (qg_name (i := 7) sc_law_tree.nd rfl (Or.inl rfl)) (qss_one (qs_if (QW.qt (qw_and (qt_cmpR op_gt (qe_callB (k_len K) (by rfl) T.len (by decide +kernel) (qa_cons (qv 2) qa_nil)) (qe_int) (nomark _)) (qw_and1 (qt_cmpR op_gt (qe_op op_mod (qe_op op_mod (qe_op op_mulA (qv 3) (qe_op (k_add K) (qe_op op_mulA (qe_int) (qv 7)) (qe_int))) (qe_int)) (qe_int)) (qe_int) (nomark _))))) (qss_one (qs_expr (qe_bmK K PySem.F.plainAttrs_list PySem.F.slot_list_append PySem.F.type_list_append mt_append (qv 6) (qa_cons (qe_bm0K K PySem.F.plainAttrs_list PySem.F.slot_list_pop PySem.F.type_list_pop mt_pop (qv 2)) qa_nil)))) (qss_one (qs_expr (qe_bmK K PySem.F.plainAttrs_list PySem.F.slot_list_append PySem.F.type_list_append mt_append (qv 6) (qa_cons (qe_tup (qa_cons (qe_str) (qa_cons (qe_non) (qa_cons (qe_tup (qa_nil)) qa_nil)))) qa_nil)))))))
      (qss_one (qs_expr (qe_bmK K PySem.F.plainAttrs_list PySem.F.slot_list_append PySem.F.type_list_append mt_append (qv 2) (qa_cons (qe_tup (qa_cons (qv 4) (qa_cons (qv 5) (qa_cons (qe_callTy (k_tuple K) (by rfl) T.tuple (by decide +kernel) (qa_cons (qv 6) qa_nil)) qa_nil)))) qa_nil))))))))
      (qss_cons (qs_set (i := 8) sc_law_tree.nd rfl (Or.inl rfl) (qe_tup (qa_cons (qe_str) (qa_cons (qe_non) (qa_cons (qe_tup (qa_nil)) qa_nil)))))
      (qss_cons (qs_for PassesOwn.never rfl (qi_enumK K rfl T.enumerate (qa_cons (qv 2) qa_nil)) (qg_tupK K (n := 2) rfl (qgs_cons (qg_name (i := 7) sc_law_tree.nd rfl (Or.inl rfl)) (qgs_cons (qg_name (i := 9) sc_law_tree.nd rfl (Or.inl rfl)) (qgs_nil)))) (qss_one (qs_if (qt_cmpR (k_eq K hr.u200) (qv 7) (qe_int) (nomark _)) (qss_one (qs_set (i := 8) sc_law_tree.nd rfl (Or.inl rfl) (qv 9))) (qss_one (qs_if (qt_cmpR (k_eq K hr.u200) (qe_op op_mod (qv 7) (qe_int)) (qe_int) (nomark _)) (qss_one (qs_set (i := 8) sc_law_tree.nd rfl (Or.inl rfl) (qe_tup (qa_cons (qe_str) (qa_cons (qe_ix (k_ix K) (qv 1) (qe_op op_mod (qv 7) (qe_int)) (fun _ _ => rfl)) (qa_cons (qe_tup (qa_cons (qv 8) (qa_cons (qv 9) qa_nil))) qa_nil)))))) (qss_one (qs_set (i := 8) sc_law_tree.nd rfl (Or.inl rfl) (qe_tup (qa_cons (qe_str) (qa_cons (qe_non) (qa_cons (qe_tup (qa_cons (qv 9) (qa_cons (qv 8) qa_nil))) qa_nil)))))))))))
      (qss_one (qs_ret (qv 8)))))), ?_⟩
    have bg := big
    walk_at "r"
    refine ⟨by show 0 ≤ sizeLine; decide, fun pl hpl => ?_⟩
    have s1 := Same.upd (o := .lst []) hpl
    walk_at "r"
    refine .inl ⟨c, rfl, ⟨_, s1.seq hc⟩, ?_⟩
    refine for_list (K := K) (a := c) (xs := ns.map V.int) (TreeJ K H c p pl) ⟨_, _, _, _, _, _, _, [], [], rfl, upd_same, .nil, Nat.zero_le _, Nat.zero_le _, (fun t h => nomatch h), (by rw [deps_nil]; omega), s1⟩ ?_ ?_ ?_
    · rintro i σ' H' _ ⟨_, _, _, _, _, _, _, _, _, _, _, _, _, _, _, _, sm⟩
      exact sm.seq hc
    · rintro i x σ' H1 hx ⟨v3, v4, v5, v6, v7, v8, v9, lv, lt, rfl, el, al, hsz, hln, hok, hdp, sm⟩
      obtain ⟨z, _, rfl⟩ := List.mem_map.mp (List.mem_of_getElem? hx)
      have hi := (List.getElem?_eq_some_iff.mp hx).1
      rw [List.length_map] at hi
      walk_at "r"
      refine ⟨z, p, t0, t1, t2, rfl, sm.seq hp, fun a wd note n H2 s2 qa hno hsh => ?_⟩
      refine s_gtup qa rfl ?_
      walk_at "r"
      refine ⟨by show 0 ≤ sizeLine; decide, fun pp hpp => ?_⟩
      have el2 := s2 _ _ el
      have npp : pl ≠ pp := ne_of_none el2 hpp
      have s3 := Same.upd (o := .lst []) hpp
      walk_at "r"
      refine ⟨wd, rfl, fun k H3 k0 k3 s4 => ?_⟩
      have sm3 := sm.trans (s2.trans (s3.trans s4))
      have hpp0 : H pp = none := (sm.trans s2).free hpp
      walk_at "r"
      refine ⟨by omega, by omega, ?_⟩
      refine for_range (n := k.toNat) (fun j σ5 H5 => ∃ (v7 : Option V) (lv5 pv5 : List V) (lt5 pt5 : List Tr), σ5 = [some (.ref c), some (.ref p), some (.ref pl), some (.int z), some (.str wd), some note, some (.ref pp), v7, v8, v9] ∧ H5 pl = some (.lst lv5) ∧ H5 pp = some (.lst pv5) ∧ Al (TrAt K H5) lv5 lt5 ∧ Al (TrAt K H5) pv5 pt5 ∧ pt5.length = j ∧ (∀ t ∈ lt5, TrSh t) ∧ (∀ t ∈ pt5, TrSh t) ∧ sizes lt5 + sizes pt5 ≤ sizes lt + j ∧ lt5.length ≤ i ∧ deps lt5 ≤ i + 1 ∧ deps pt5 ≤ i + 1 ∧ SameT H3 H5 ∧ Same H H5)
        ⟨_, lv, [], lt, [], rfl, s4 _ _ (s3 _ _ el2), s4 _ _ upd_same, TrAt.al al (s2.trans (s3.trans s4)).t, .nil, rfl, hok, (fun t h => nomatch h), by simp [sizes], hln, hdp, (by rw [deps_nil]; omega), SameT.refl _, sm3⟩ ?_ ?_
      · rintro j σ5 H5 hj ⟨v7', lv5, pv5, lt5, pt5, rfl, e5l, e5p, al5, ap5, hpt, ok5, okp, hs5, hl5, hd5, hq5, t5, sm5⟩
        have hpv : pv5.length = j := by rw [ap5.1, hpt]
        -- a gap in this place
        have gap : ∀ σ6 : St, σ6 = [some (.ref c), some (.ref p), some (.ref pl), some (.int z), some (.str wd), some note, some (.ref pp), some (.int (0 + (j : Int))), v8, v9] →
            ∀ pa, H5 pa = none → ∀ pb, upd H5 pa (.tup []) pb = none → rAppend (.ref pp) [.ref pb] (upd (upd H5 pa (.tup [])) pb (.tup [.str "gap", .non, .ref pa])) fun _ H6 => ∃ (v7 : Option V) (lv5 pv5 : List V) (lt5 pt5 : List Tr), σ6 = [some (.ref c), some (.ref p), some (.ref pl), some (.int z), some (.str wd), some note, some (.ref pp), v7, v8, v9] ∧ H6 pl = some (.lst lv5) ∧ H6 pp = some (.lst pv5) ∧ Al (TrAt K H6) lv5 lt5 ∧ Al (TrAt K H6) pv5 pt5 ∧ pt5.length = j + 1 ∧ (∀ t ∈ lt5, TrSh t) ∧ (∀ t ∈ pt5, TrSh t) ∧ sizes lt5 + sizes pt5 ≤ sizes lt + (j + 1) ∧ lt5.length ≤ i ∧ deps lt5 ≤ i + 1 ∧ deps pt5 ≤ i + 1 ∧ SameT H3 H6 ∧ Same H H6 := fun σ6 e6 pa hpa pb hpb => by
          have s6 := (Same.upd (o := .tup []) hpa).put (o := .tup [.str "gap", .non, .ref pa]) hpb
          have e6p := s6 _ _ e5p
          have t6 : SameT H5 (upd (upd (upd H5 pa (.tup [])) pb (.tup [.str "gap", .non, .ref pa])) pp (.lst (pv5 ++ [.ref pb]))) := s6.t.trans (SameT.set e6p)
          refine s_app e6p (by omega) ⟨_, lv5, pv5 ++ [.ref pb], lt5, pt5 ++ [gapT], e6, by rw [upd_ne npp]; exact s6 _ _ e5l, upd_same, TrAt.al al5 t6, (TrAt.al ap5 t6).snoc ?_, by simp [hpt], ok5, sh_snoc okp TrSh.gap, ?_, hl5, hd5, (by rw [deps_snoc, gapT_dep]; omega), t5.trans t6, (sm5.trans s6).over hpp0⟩
          · exact TrAt.gap ((SameT.set e6p).tup (SqT.of upd_same)) (((SameT.new (o := .tup [.str "gap", .non, .ref pa]) hpb).trans (SameT.set e6p)).tup (SqT.of upd_same))
          · have e1 : sizes [gapT] = 1 := by rw [sizes, gapT_size, sizes]
            rw [sizes_append, e1]
            omega
        walk_at "r"
        refine s_len_lst (SqL.of e5l) ?_
        walk_at "r"
        by_cases hlv : lv5 = []
        · subst hlv
          refine iteF ?_
          walk_at "r"
          refine s_tyL (SqL.of e5p) ?_
          walk_at "r"
          refine ⟨by show 0 ≤ sizeLine; decide, fun pa hpa => ?_⟩
          walk_at "r"
          refine ⟨by show 3 ≤ sizeLine; decide, fun pb hpb => ?_⟩
          walk_at "r"
          exact gap _ rfl pa hpa pb hpb
        · obtain ⟨lv6, x6, lt6, t6, rfl, rfl, al6, hx6⟩ := al5.last hlv
          have hne : decide ((0 : Int) < ((lv6 ++ [x6]).length : Int)) = true := decide_eq_true (by rw [List.length_append, List.length_singleton]; omega)
          rw [hne]
          walk_at "r"
          refine s_mul_r (by omega) (by omega) ?_
          walk_at "r"
          refine ite2 (fun _ => ?_) (fun _ => ?_)
          · walk_at "r"
            refine s_tyL (SqL.of e5p) ?_
            walk_at "r"
            refine s_tyL (SqL.of e5l) ?_
            refine s_pop e5l ?_
            walk_at "r"
            have e6p : upd H5 pl (.lst lv6) pp = some (.lst pv5) := by rw [upd_ne npp.symm]; exact e5p
            have t6' : SameT H5 (upd (upd H5 pl (.lst lv6)) pp (.lst (pv5 ++ [x6]))) := (SameT.set e5l).trans (SameT.set e6p)
            have hs6 : sizes (lt6 ++ [t6]) = sizes lt6 + t6.size := by rw [sizes_append, sizes, sizes]; omega
            refine s_app e6p (by omega) ⟨_, lv6, pv5 ++ [x6], lt6, pt5 ++ [t6], rfl, by rw [upd_ne npp, upd_same], upd_same, TrAt.al al6 t6', (TrAt.al ap5 t6').snoc (hx6.sameT t6'), by simp [hpt], fun t ht => ok5 t (List.mem_append_left _ ht), sh_snoc okp (ok5 t6 (by simp)), ?_, ?_, (by rw [deps_snoc] at hd5; omega), (by rw [deps_snoc] at hd5 ⊢; omega), t5.trans t6', (sm5.over hpl).over hpp0⟩
            · have e2 : sizes (pt5 ++ [t6]) = sizes pt5 + t6.size := by rw [sizes_append, sizes, sizes]; omega
              omega
            · rw [List.length_append, List.length_singleton] at hl5
              omega
          · walk_at "r"
            refine s_tyL (SqL.of e5p) ?_
            walk_at "r"
            refine ⟨by show 0 ≤ sizeLine; decide, fun pa hpa => ?_⟩
            walk_at "r"
            refine ⟨by show 3 ≤ sizeLine; decide, fun pb hpb => ?_⟩
            walk_at "r"
            exact gap _ rfl pa hpa pb hpb
      · rintro σ5 H5 ⟨v7', lv5, pv5, lt5, pt5, rfl, e5l, e5p, al5, ap5, hpt, ok5, okp, hs5, hl5, hd5, hq5, t5, sm5⟩
        walk_at "r"
        refine s_tyL (SqL.of e5l) ?_
        walk_at "r"
        refine s_tupL (SqL.of e5p) fun pq hpq => ?_
        walk_at "r"
        refine ⟨by show 3 ≤ sizeLine; decide, fun pr hpr => ?_⟩
        walk_at "r"
        have s6 := (Same.upd (o := .tup pv5) hpq).put (o := .tup [.str wd, note, .ref pq]) hpr
        have e6l := s6 _ _ e5l
        have hll : lv5.length ≤ i := by rw [al5.1]; exact hl5
        have t6 : SameT H5 (upd (upd (upd H5 pq (.tup pv5)) pr (.tup [.str wd, note, .ref pq])) pl (.lst (lv5 ++ [.ref pr]))) := s6.t.trans (SameT.set e6l)
        refine s_app e6l (by omega) ⟨_, _, _, _, _, _, _, lv5 ++ [.ref pr], lt5 ++ [.mk wd n pt5], rfl, upd_same, (TrAt.al al5 t6).snoc ?_, ?_, by simp; omega, sh_snoc ok5 (.mk hsh okp), (by rw [deps_snoc, dep_mk]; omega), (sm5.trans s6).over hpl⟩
        · have ap6 := TrAt.al ap5 t6
          exact .mk ((SameT.set e6l).tup (SqT.of upd_same)) (hno.same (((s3.trans s4).t.trans t5).trans t6)) (((SameT.new (o := .tup [.str wd, note, .ref pq]) hpr).trans (SameT.set e6l)).tup (SqT.of upd_same)) ap6.1 ap6.2
        · have e1 : sizes (lt5 ++ [.mk wd n pt5]) = sizes lt5 + (1 + sizes pt5) := by rw [sizes_append, sizes, sizes, Tr.size]; omega
          omega
    · rintro σ' H1 ⟨v3, v4, v5, v6, v7, v8, v9, lv, lt, rfl, el, al, hsz, hln, hok, hdp, sm⟩
      rw [List.length_map] at hsz hln hdp
      walk_at "r"
      refine ⟨by show 0 ≤ sizeLine; decide, fun pa hpa => ?_⟩
      walk_at "r"
      refine ⟨by show 3 ≤ sizeLine; decide, fun pb hpb => ?_⟩
      have s2 := (Same.upd (o := .tup []) hpa).put (o := .tup [.str "gap", .non, .ref pa]) hpb
      walk_at "r"
      refine ⟨pl, lv, rfl, SqL.of (s2 _ _ el), ?_⟩
      refine for_enum (K := K) (a := pl) (xs := lv) (fun i σ5 H5 => ∃ (v7 v9 : Option V) (tv : V) (t : Tr), σ5 = [some (.ref c), some (.ref p), some (.ref pl), v3, v4, v5, v6, v7, some tv, v9] ∧ TrAt K H5 tv t ∧ TrSh t ∧ t.size ≤ 1 + sizes (lt.take i) + i ∧ dep t ≤ ns.length + 1 + i ∧ Same H1 H5)
        ⟨_, _, _, gapT, rfl, TrAt.gap (SqT.of upd_same) ((SameT.new (o := .tup [.str "gap", .non, .ref pa]) hpb).tup (SqT.of upd_same)), TrSh.gap, by rw [gapT_size]; omega, by rw [gapT_dep]; omega, s2⟩ ?_ ?_ ?_
      · rintro i σ5 H5 _ ⟨_, _, _, _, _, _, _, _, _, sm5⟩
        exact SqL.of (sm5 _ _ el)
      · rintro i x tt σ5 H5 hx htt ⟨v7', v9', tv, t, rfl, htv, hto, hts, htd, sm5⟩
        obtain ⟨tx, htx, hax⟩ := al.get hx
        have hxo := hok tx (List.mem_of_getElem? htx)
        have hxd := deps_get htx
        have s6 := Same.upd (o := .tup [.int i, x]) htt
        have hst : sizes (lt.take (i + 1)) = sizes (lt.take i) + tx.size := by
          rw [List.take_add_one, htx, sizes_append]
          show _ + sizes [tx] = _
          rw [sizes, sizes]
          omega
        refine s_gtup (SqT.of upd_same) rfl ?_
        walk_at "r"
        refine ite2 (fun _ => ?_) (fun _ => ?_)
        · walk_at "r"
          exact ⟨_, _, x, tx, rfl, hax.same (sm5.trans s6), hxo, by omega, by omega, sm5.trans s6⟩
        walk_at "r"
        refine ite2 (fun _ => ?_) (fun _ => ?_)
        · walk_at "r"
          obtain ⟨u, hu⟩ := pick3 (t0 := t0) (t1 := t1) (t2 := t2) (i : Int)
          refine s_ix_lst ((sm.trans (sm5.trans s6)).seq hp) hu ?_
          walk_at "r"
          refine ⟨by show 2 ≤ sizeLine; decide, fun p8 h8 => ?_⟩
          walk_at "r"
          refine ⟨by show 3 ≤ sizeLine; decide, fun p9 h9 => ?_⟩
          walk_at "r"
          have s8 := s6.trans ((Same.upd (o := .tup [tv, x]) h8).put (o := .tup [.str "let", .str u, .ref p8]) h9)
          have ax := hax.same (sm5.trans s8)
          have at' := htv.same s8
          have e8 := (SameT.new (o := .tup [.str "let", .str u, .ref p8]) h9).tup (K := K) (SqT.of upd_same)
          refine ⟨_, _, .ref p9, .mk "let" (.flat (.str u)) [t, tx], rfl, .mk (SqT.of upd_same) (.inl ⟨rfl, rfl⟩) e8 rfl fun j v y f1 f2 => ?_, TrSh.let hto hxo, ?_, (by rw [dep_mk, deps_cons, deps_cons, deps_nil]; omega), sm5.trans s8⟩
          · match j, f1, f2 with
            | 0, f1, f2 => cases f1; cases f2; exact at'
            | 1, f1, f2 => cases f1; cases f2; exact ax
          · rw [Tr.size, sizes, sizes, sizes]
            omega
        · walk_at "r"
          refine ⟨by show 2 ≤ sizeLine; decide, fun p8 h8 => ?_⟩
          walk_at "r"
          refine ⟨by show 3 ≤ sizeLine; decide, fun p9 h9 => ?_⟩
          walk_at "r"
          have s8 := s6.trans ((Same.upd (o := .tup [x, tv]) h8).put (o := .tup [.str "call", .non, .ref p8]) h9)
          have ax := hax.same (sm5.trans s8)
          have at' := htv.same s8
          have e8 := (SameT.new (o := .tup [.str "call", .non, .ref p8]) h9).tup (K := K) (SqT.of upd_same)
          refine ⟨_, _, .ref p9, .mk "call" (.flat .non) [tx, t], rfl, .mk (SqT.of upd_same) (.inl ⟨rfl, rfl⟩) e8 rfl fun j v y f1 f2 => ?_, TrSh.call hxo hto, ?_, (by rw [dep_mk, deps_cons, deps_cons, deps_nil]; omega), sm5.trans s8⟩
          · match j, f1, f2 with
            | 0, f1, f2 => cases f1; cases f2; exact ax
            | 1, f1, f2 => cases f1; cases f2; exact at'
          · rw [Tr.size, sizes, sizes, sizes]
            omega
      · rintro σ5 H5 ⟨v7', v9', tv, t, rfl, htv, hto, hts, htd, sm5⟩
        walk_at "r"
        rw [al.1, List.take_length] at hts
        rw [al.1] at htd
        exact q tv t H5 (sm.trans sm5) htv hto (by omega) (by omega)
end
end K15

set_option Elab.async false
set_option linter.all false
set_option maxRecDepth 100000
set_option maxHeartbeats 4000000
namespace K15
open PySem L2 K19 K17
section
variable {P : Program} {w : World} {K : PySem.W.Frag} {mg : Str → Option Value} {base : Heap}
def sp_placed (K : PySem.W.Frag) : Sp := fun vs H Q _ => ∃ (v : V) (t : Tr), vs = [v] ∧ TrAt K H v t ∧ t.size ≤ 2000 ∧ ∀ (p : Addr) (rows : List V) (H' : Hp), Same H H' → H p = none → H' p = some (.lst rows) → Al (RowAt K H') rows (walk [] t) → Q (.ref p) H'
theorem sc_law_walk : FnScope ["_law_tree_here", "_law_rows", "_law_left", "_law_place", "_law_form", "_law_k"] ["_law_tree_here"] (defScope s_law_walk) := ⟨rfl, rfl, rfl, by decide +kernel, rfl, by decide +kernel, by decide +kernel⟩
def WkJ (K : PySem.W.Frag) (H : Hp) (v : V) (t : Tr) (pt pw : Addr) (m : Nat) (σ : St) (H' : Hp) : Prop := ∃ (v3 v4 v5 : Option V) (tv wv : List V) (dn st : List (List Nat × Tr)), σ = [some v, some (.ref pt), some (.ref pw), v3, v4, v5] ∧ H' pt = some (.lst tv) ∧ H' pw = some (.lst wv) ∧
  Al (RowAt K H') tv dn ∧ Al (RowAt K H') wv st ∧ dn ++ todo st = walk [] t ∧ m = load st ∧ Same H H'
theorem ok_walk {f : Addr} {fd : FuncData} (F : Fun K "_law_walk" "_law_walk" s_law_walk f fd) (T : Txt K mg) : FnOk P w K mg base CX0 1 f fd ["_law_tree_here"] (sp_placed K) := by
  refine F.okq sc_law_walk (fun vs H Q E h => ?_) (fun cdv A outer s H vs Q E hr h => ?_)
  · obtain ⟨v, t, rfl, _⟩ := h
    rfl
  · obtain ⟨v, t, rfl, ht, hz, q⟩ := h
    refine ⟨_, qss_cons (qs_set (i := 1) sc_law_walk.nd rfl (Or.inl rfl) (qe_lst (qa_nil)))
      (qss_cons (qs_set (i := 2) sc_law_walk.nd rfl (Or.inl rfl) (qe_lst (qa_cons (qe_tup (qa_cons (qe_tup (qa_nil)) (qa_cons (qv 0) qa_nil))) qa_nil)))
      (qss_cons (qs_while PassesOwn.never (qt_cmpR op_gt (qe_callB (k_len K) (by rfl) T.len (by decide +kernel) (qa_cons (qv 2) qa_nil)) (qe_int) (nomark _)) (qss_cons (qs_asg (qe_bm0K K PySem.F.plainAttrs_list PySem.F.slot_list_pop PySem.F.type_list_pop mt_pop (qv 2)) (qg_tupK K (n := 2) rfl (qgs_cons (qg_name (i := 3) sc_law_walk.nd rfl (Or.inl rfl)) (qgs_cons (qg_name (i := 4) sc_law_walk.nd rfl (Or.inl rfl)) (qgs_nil)))))
      (qss_cons (qs_expr (qe_bmK K PySem.F.plainAttrs_list PySem.F.slot_list_append PySem.F.type_list_append mt_append (qv 1) (qa_cons (qe_tup (qa_cons (qv 3) (qa_cons (qv 4) qa_nil))) qa_nil)))
      (qss_one (qs_for PassesOwn.never rfl (qi_range3 rfl T.range (qa_cons (qe_op op_sub (qe_callB (k_len K) (by rfl) T.len (by decide +kernel) (qa_cons (qe_ix (k_ix K) (qv 4) (qe_int) (fun _ _ => rfl)) qa_nil)) (qe_int)) (qa_cons (qe_un un_neg (qe_int)) (qa_cons (qe_un un_neg (qe_int)) qa_nil)))) (qg_name (i := 5) sc_law_walk.nd rfl (Or.inl rfl)) (qss_one (qs_expr (qe_bmK K PySem.F.plainAttrs_list PySem.F.slot_list_append PySem.F.type_list_append mt_append (qv 2) (qa_cons (qe_tup (qa_cons (qe_op (k_add K) (qv 3) (qe_tup (qa_cons (qv 5) qa_nil))) (qa_cons (qe_ix (k_ix K) (qe_ix (k_ix K) (qv 4) (qe_int) (fun _ _ => rfl)) (qv 5) (fun _ _ => rfl)) qa_nil))) qa_nil)))))))))
      (qss_one (qs_ret (qv 1))))), ?_⟩
    have bg := big
    walk_at "r"
    refine ⟨by show 0 ≤ sizeLine; decide, fun pt hpt => ?_⟩
    walk_at "r"
    refine ⟨by show 0 ≤ sizeLine; decide, fun p0 hp0 => ?_⟩
    walk_at "r"
    refine ⟨by show 2 ≤ sizeLine; decide, fun p1 hp1 => ?_⟩
    walk_at "r"
    refine ⟨by show 1 ≤ sizeLine; decide, fun pw hpw => ?_⟩
    walk_at "r"
    have s0 : Same (upd H pt (.lst [])) _ := ((Same.upd (o := .tup []) hp0).put (o := .tup [.ref p0, v]) hp1).put (o := .lst [.ref p1]) hpw
    have s1 : Same (upd (upd H pt (.lst [])) p0 (.tup [])) _ := (Same.upd (o := .tup [.ref p0, v]) hp1).put (o := .lst [.ref p1]) hpw
    have s2 := Same.upd (o := .lst [.ref p1]) hpw
    have sH := (Same.upd (o := .lst []) hpt).trans s0
    have ept := s0 pt _ upd_same
    have epw : upd (upd (upd (upd H pt (.lst [])) p0 (.tup [])) p1 (.tup [.ref p0, v])) pw (.lst [.ref p1]) pw = some (.lst [.ref p1]) := upd_same
    have ep0 := s1 p0 _ upd_same
    have ep1 := s2 p1 _ upd_same
    have npw : pt ≠ pw := fun z => by rw [z] at ept; rw [upd_same] at ept; cases ept
    have hpw0 : H pw = none := ((Same.upd (o := .lst []) hpt).trans ((Same.upd (o := .tup []) hp0).put (o := .tup [.ref p0, v]) hp1)).free hpw
    refine ⟨WkJ K H v t pt pw, ⟨_, none, none, none, [], [.ref p1], [], [([], t)], rfl, ept, epw, .nil, Al.nil.snoc ⟨p1, p0, v, rfl, SqT.of ep1, SqT.of ep0, ht.same sH⟩, by simp [todo], rfl, sH⟩, ?_⟩
    rintro m σ' H' ⟨v3, v4, v5, tv, wv, dn, st, rfl, et, ew, al1, al2, hw, rfl, sm⟩
    have hdl : dn.length + load st = t.size := by
      have := congrArg List.length hw
      rw [List.length_append, walk_len] at this
      exact this
    have htl : tv.length = dn.length := al1.1
    walk_at "r"
    refine s_len_lst (SqL.of ew) ?_
    walk_at "r"
    by_cases hwv : wv = []
    · subst hwv
      have hst : st = [] := List.eq_nil_of_length_eq_zero al2.1.symm
      subst hst
      refine iteF ?_
      walk_at "r"
      rw [todo_nil, List.append_nil] at hw
      rw [hw] at al1
      exact q pt tv H' sm hpt et al1
    obtain ⟨wv', tp, st', x, rfl, rfl, al3, hrow⟩ := al2.last hwv
    have hne : decide ((0 : Int) < ((wv' ++ [tp]).length : Int)) = true := decide_eq_true (by rw [List.length_append, List.length_singleton]; omega)
    rw [hne]
    refine iteT ?_
    obtain ⟨pl, tx⟩ := x
    have hx : (pl, tx) ∈ walk [] t := by rw [← hw, todo_pop]; simp
    have hpl : pl.length ≤ 2000 := by have := walk_depth [] t _ hx; simp at this; omega
    have hload := load_pop st' (pl, tx)
    have hll := load_len (st' ++ (kids pl 0 tx.ps).reverse)
    refine ⟨fun σ2 H2 => ∃ m', m' < load (st' ++ [(pl, tx)]) ∧ WkJ K H v t pt pw m' σ2 H2, fun _ _ h => h, ?_⟩
    walk_at "r"
    refine s_tyL (SqL.of ew) ?_
    refine s_pop ew ?_
    have t1 : SameT H' (upd H' pw (.lst wv')) := SameT.set ew
    have et2 : upd H' pw (.lst wv') pt = some (.lst tv) := by rw [upd_ne npw]; exact et
    obtain ⟨a, p, u, rfl, qa, qp, hu⟩ := id hrow
    refine s_gtup (t1.tup qa) rfl ?_
    walk_at "r"
    refine s_tyL (SqL.of et2) ?_
    walk_at "r"
    refine ⟨by show 2 ≤ sizeLine; decide, fun pr hpr => ?_⟩
    walk_at "r"
    have s2' := Same.upd (o := .tup [.ref p, u]) hpr
    have et2' := s2' _ _ et2
    refine s_app et2' (by omega) ?_
    have t2 : SameT H' (upd (upd (upd H' pw (.lst wv')) pr (.tup [.ref p, u])) pt (.lst (tv ++ [.ref pr]))) := t1.trans (s2'.t.trans (SameT.set et2'))
    have et3 : upd (upd (upd H' pw (.lst wv')) pr (.tup [.ref p, u])) pt (.lst (tv ++ [.ref pr])) pt = some (.lst (tv ++ [.ref pr])) := upd_same
    have ew3 : upd (upd (upd H' pw (.lst wv')) pr (.tup [.ref p, u])) pt (.lst (tv ++ [.ref pr])) pw = some (.lst wv') := by rw [upd_ne npw.symm]; exact s2' _ _ upd_same
    have er3 : upd (upd (upd H' pw (.lst wv')) pr (.tup [.ref p, u])) pt (.lst (tv ++ [.ref pr])) pr = some (.tup [.ref p, u]) := by rw [upd_ne (ne_of_none et2 hpr).symm]; exact upd_same
    have sm3 : Same H (upd (upd (upd H' pw (.lst wv')) pr (.tup [.ref p, u])) pt (.lst (tv ++ [.ref pr]))) := ((sm.over hpw0).put hpr).over hpt
    revert t2 et3 ew3 sm3 er3
    generalize upd (upd (upd H' pw (.lst wv')) pr (.tup [.ref p, u])) pt (.lst (tv ++ [.ref pr])) = H4
    intro t2 et3 ew3 er3 sm3
    have hu4 := hu.sameT t2
    have qp4 := t2.tup qp
    have hrow4 : RowAt K H4 (.ref pr) (pl, tx) := ⟨pr, p, u, rfl, SqT.of er3, qp4, hu4⟩
    cases hu4 with
    | @mk b pp wd nv n vs ts qb hn qpp hl hch =>
    walk_at "r"
    refine s_ix_tup qb rfl ?_
    walk_at "r"
    refine s_len_tup qpp ?_
    walk_at "r"
    have hvl : vs.length ≤ 2000 := by
      have h1 := sizes_len ts
      have h2 := Tr.size_eq (.mk wd n ts)
      have h3 : (walk [] t).length = t.size := walk_len _ _
      have h4 : (Tr.mk wd n ts).size ≤ L2.load (st' ++ [(pl, Tr.mk wd n ts)]) := by
        unfold L2.load todo
        rw [List.reverse_append, List.reverse_singleton, List.flatMap_append, List.flatMap_singleton, List.length_append, walk_len]
        exact Nat.le_add_right _ _
      have h5 : (Tr.mk wd n ts).ps = ts := rfl
      rw [h5] at h2
      omega
    refine ⟨by omega, ?_⟩
    have al4 : Al (RowAt K H4) wv' st' := al3.mono (RowAt.same t2)
    have hkl : (kids pl 0 ts).length = vs.length := by rw [kids_len]; omega
    have hn' : ((vs.length : Int) - 1 - -1).toNat = vs.length := by omega
    rw [hn']
    refine for_down (n := vs.length) (fun j σ5 H5 => ∃ (v5 : Option V) (wv5 : List V), σ5 = [some v, some (.ref pt), some (.ref pw), some (.ref p), some (.ref b), v5] ∧ H5 pt = some (.lst (tv ++ [.ref pr])) ∧ H5 pw = some (.lst wv5) ∧ Al (RowAt K H5) wv5 (st' ++ ((kids pl 0 ts).drop (vs.length - j)).reverse) ∧ SameT H4 H5 ∧ Same H H5)
      ⟨_, wv', rfl, et3, ew3, by rw [Nat.sub_zero, List.drop_of_length_le (by omega)]; simpa using al4, SameT.refl _, sm3⟩ ?_ ?_
    · rintro i σ5 H5 hi ⟨v5', wv5, rfl, e5t, e5w, al5, t5, sm5⟩
      have hk : (vs.length : Int) - 1 - (i : Int) = ((vs.length - 1 - i : Nat) : Int) := by omega
      rw [hk]
      walk_at "r"
      refine s_tyL (SqL.of e5w) ?_
      walk_at "r"
      refine ⟨by show 1 ≤ sizeLine; decide, fun p6 h6 => ?_⟩
      refine s_add_tup ((t5.trans (SameT.new h6)).tup qp4) (SqT.of upd_same) (by show (plV pl).length + 1 ≤ sizeLine; unfold plV; rw [List.length_map]; omega) fun r H7 s7 q7 => ?_
      have s57 : Same H5 H7 := (Same.upd h6).trans s7
      have hj : vs.length - 1 - i < vs.length := by omega
      walk_at "r"
      refine s_ix_tup ((t5.trans s57.t).tup qb) rfl ?_
      walk_at "r"
      refine s_ix_tup ((t5.trans s57.t).tup qpp) (atI_nat (List.getElem?_eq_getElem hj)) ?_
      walk_at "r"
      refine ⟨by show 2 ≤ sizeLine; decide, fun p7 h7 => ?_⟩
      walk_at "r"
      have s58 := s57.put (o := .tup [.ref r, vs[vs.length - 1 - i]]) h7
      have hlw : wv5.length = st'.length + ((kids pl 0 ts).drop (vs.length - i)).length := by have := al5.1; simp at this ⊢; omega
      have hlk : (st' ++ (kids pl 0 ts).reverse).length = st'.length + vs.length := by rw [List.length_append, List.length_reverse, hkl]
      have hll' : (st' ++ (kids pl 0 ts).reverse).length ≤ 2000 := by
        have h1 : load (st' ++ (kids pl 0 (Tr.mk wd n ts).ps).reverse) < load (st' ++ [(pl, Tr.mk wd n ts)]) := hload
        have h2 : (st' ++ (kids pl 0 (Tr.mk wd n ts).ps).reverse).length ≤ load (st' ++ (kids pl 0 (Tr.mk wd n ts).ps).reverse) := hll
        have h3 : (Tr.mk wd n ts).ps = ts := rfl
        rw [h3] at h1 h2
        omega
      have hdr : ((kids pl 0 ts).drop (vs.length - i)).length ≤ vs.length := by rw [List.length_drop]; omega
      refine s_app (s58 _ _ e5w) (by omega) ?_
      have e8w := s58 _ _ e5w
      have t9 : SameT H5 (upd (upd H7 p7 (.tup [.ref r, vs[vs.length - 1 - i]])) pw (.lst (wv5 ++ [.ref p7]))) := s58.t.trans (SameT.set e8w)
      have hj' : vs.length - 1 - i < ts.length := by omega
      have hat := hch _ _ _ (List.getElem?_eq_getElem hj) (List.getElem?_eq_getElem hj')
      have hkid : (kids pl 0 ts)[vs.length - 1 - i]? = some (pl ++ [vs.length - 1 - i], ts[vs.length - 1 - i]) := by
        rw [kids_get, List.getElem?_eq_getElem hj']
        simp
      refine ⟨_, wv5 ++ [.ref p7], rfl, ?_, upd_same, ?_, t5.trans t9, (sm5.trans s58).over hpw0⟩
      · rw [upd_ne npw]; exact s58 _ _ e5t
      · rw [drop_step hkl hi hkid, ← List.append_assoc]
        refine (al5.mono (RowAt.same t9)).snoc ⟨p7, r, _, rfl, (SameT.set e8w).tup (SqT.of upd_same), ?_, hat.sameT (t5.trans t9)⟩
        have q9 := ((SameT.new (o := .tup [.ref r, vs[vs.length - 1 - i]]) h7).trans (SameT.set (o := .lst (wv5 ++ [.ref p7])) e8w)).tup q7
        have e : plV (pl ++ [vs.length - 1 - i]) = plV pl ++ [.int ((vs.length - 1 - i : Nat) : Int)] := by unfold plV; rw [List.map_append]; rfl
        show SqT K _ r (plV (pl ++ [vs.length - 1 - i]))
        rw [e]
        exact q9
    · rintro σ5 H5 ⟨v5', wv5, rfl, e5t, e5w, al5, t5, sm5⟩
      rw [Nat.sub_self, List.drop_zero] at al5
      refine ⟨_, hload, _, _, _, tv ++ [.ref pr], wv5, dn ++ [(pl, .mk wd n ts)], _, rfl, e5t, e5w, ?_, al5, ?_, rfl, sm5⟩
      · exact (al1.mono (RowAt.same (t2.trans t5))).snoc (RowAt.same t5 _ _ hrow4)
      · rw [← hw, todo_pop, List.append_assoc]
        rfl
end
end K15

set_option Elab.async false
set_option linter.all false
set_option maxRecDepth 100000
set_option maxHeartbeats 4000000
namespace K15
open PySem L2 K19 K17
section
variable {P : Program} {w : World} {K : PySem.W.Frag} {mg : Str → Option Value} {base : Heap}
def FlAt (K : PySem.W.Frag) (H : Hp) (v : V) (x : List Nat × Str × Dt × Nat) : Prop := ∃ (a p : Addr) (nv : V), v = .ref a ∧ SqT K H a [.ref p, .str x.2.1, nv, .int (x.2.2.2 : Nat)] ∧ SqT K H p (plV x.1) ∧ IsN K H nv x.2.2.1
theorem FlAt.same {H H' : Hp} (e : SameT H H') (v : V) (x : List Nat × Str × Dt × Nat) (h : FlAt K H v x) : FlAt K H' v x := by
  obtain ⟨a, p, nv, h1, h2, h3, h4⟩ := h
  exact ⟨a, p, nv, h1, e.tup h2, e.tup h3, h4.same e⟩
def sp_flat (K : PySem.W.Frag) : Sp := fun vs H Q _ => ∃ (v : V) (t : Tr), vs = [v] ∧ TrAt K H v t ∧ t.size ≤ 2000 ∧ ∀ (q : Addr) (ws : List V) (H' : Hp), Same H H' → H q = none → H' q = some (.lst ws) → Al (FlAt K H') ws (fl t) → Q (.ref q) H'
theorem nd_law_flat_1 : (["_law_place", "_law_form"] : List Str).Nodup := by decide +kernel
theorem sc_law_flat : FnScope ["_law_tree_here"] ["_law_tree_here"] (defScope s_law_flat) := ⟨rfl, rfl, rfl, by decide +kernel, rfl, by decide +kernel, by decide +kernel⟩
theorem ok_flat {f : Addr} {fd : FuncData} (F : Fun K "_law_flat" "_law_flat" s_law_flat f fd) (T : Txt K mg) (C__law_walk : Callee P w K mg base 1 "_law_walk" ["_law_tree_here"] (sp_placed K)) : FnOk P w K mg base CX0 2 f fd ["_law_tree_here"] (sp_flat K) := by
  refine F.okq sc_law_flat (fun vs H Q E h => ?_) (fun cdv A outer s H vs Q E hr h => ?_)
  · obtain ⟨v, t, rfl, _⟩ := h
    rfl
  · obtain ⟨v, t, rfl, ht, hz, q⟩ := h
    refine ⟨_, qss_one (qs_ret (qe_comp (N := ["_law_place", "_law_form"]) (σ0 := capSt 2 []) rfl (cscope_fn rfl (by decide +kernel) (by decide +kernel) (by decide +kernel)) (qi_anyK K (qe_fn C__law_walk (hr.mono (by decide)) (qa_cons (qv 0) qa_nil))) (takes_in rfl (by rfl)) (fun _ _ _ _ => qg_tupK K (n := 2) rfl (qgs_cons (qg_name (i := 0) nd_law_flat_1 rfl (Or.inl rfl)) (qgs_cons (qg_name (i := 1) nd_law_flat_1 rfl (Or.inl rfl)) (qgs_nil)))) (fun _ _ _ _ => qts_nil) (fun _ _ _ _ => qe_tup (qa_cons (qv 0) (qa_cons (qe_ix (k_ix K) (qv 1) (qe_int) (fun _ _ => rfl)) (qa_cons (qe_ix (k_ix K) (qv 1) (qe_int) (fun _ _ => rfl)) (qa_cons (qe_callB (k_len K) (by rfl) T.len (by decide +kernel) (qa_cons (qe_ix (k_ix K) (qv 1) (qe_int) (fun _ _ => rfl)) qa_nil)) qa_nil))))))), ?_⟩
    have bg := big
    have wl := walk_len [] t
    walk_at "r"
    refine ⟨v, t, rfl, ht, hz, fun p rows H1 s1 hp er al => ?_⟩
    refine .inl ⟨p, rfl, ⟨_, SqL.of er⟩, fun D hD => ?_⟩
    have nD : p ≠ D := ne_of_none er hD
    have hrl : rows.length = t.size := by rw [al.1, wl]
    refine comp_list (K := K) (a := p) (xs := rows) (Pv := fun i ys σ' H' => ∃ v0 v1, σ' = [v0, v1] ∧ H' p = some (.lst rows) ∧ Al (FlAt K H') ys ((fl t).take i) ∧ SameT H1 H' ∧ Same H1 H') ⟨none, none, rfl, by rw [upd_ne nD]; exact er, Al.nil, SameT.new hD, Same.upd hD⟩ ?_ ?_ ?_
    · rintro i ys σ' H' _ ⟨_, _, _, e, _⟩
      exact SqL.of e
    · rintro i x ys σ' H' hx hys ⟨v0, v1, rfl, e, aly, t2, sm⟩
      obtain ⟨⟨pl, tx⟩, hy, a, rp, u, rfl, g1, g2, g3⟩ := al.get hx
      have hi := (List.getElem?_eq_some_iff.mp hx).1
      have hf : (fl t)[i]? = some (pl, hd tx) := by unfold fl; rw [List.getElem?_map, hy]; rfl
      have g3' := g3.sameT t2
      cases g3' with
      | @mk b pp wd nv n vs ts qb hn qpp hl hch =>
      walk_at "r"
      refine s_gtup (t2.tup g1) rfl ?_
      walk_at "r"
      refine s_ix_tup qb rfl ?_
      walk_at "r"
      refine s_ix_tup qb rfl ?_
      walk_at "r"
      refine s_ix_tup qb rfl ?_
      walk_at "r"
      refine s_len_tup qpp ?_
      walk_at "r"
      refine ⟨by show 4 ≤ sizeLine; decide, fun p10 h10 => ?_⟩
      walk_at "r"
      have s10 := Same.upd (o := .tup [.ref rp, .str wd, nv, .int vs.length]) h10
      have yl : ys.length ≤ 2000 := by rw [aly.1, List.length_take]; omega
      refine ⟨_, s10 _ _ hys, by omega, _, upd_same, ?_⟩
      have t11 := s10.t.trans (SameT.set (o := .lst (ys ++ [.ref p10])) (s10 _ _ hys))
      refine ⟨_, _, rfl, by rw [upd_ne nD]; exact s10 _ _ e, ?_, t2.trans t11, (sm.trans s10).over hD⟩
      rw [List.take_add_one, hf]
      refine (aly.mono (FlAt.same t11)).snoc ⟨p10, rp, nv, rfl, ?_, (t2.trans t11).tup g2, hn.same t11⟩
      have z := (SameT.set (o := .lst (ys ++ [.ref p10])) (s10 _ _ hys)).tup (K := K) (SqT.of upd_same)
      show SqT K _ p10 [.ref rp, .str wd, nv, .int (ts.length : Nat)]
      rw [← hl]
      exact z
    · rintro ys σ' H' hys ⟨v0, v1, rfl, e, aly, t2, sm⟩
      have fll : (fl t).length = t.size := by unfold fl; rw [List.length_map, wl]
      rw [hrl, ← fll, List.take_length] at aly
      exact q D ys H' (s1.trans sm) (s1.free hD) hys aly
end
end K15

set_option Elab.async false
set_option linter.all false
set_option maxRecDepth 100000
set_option maxHeartbeats 4000000
namespace K15
open PySem L2 K19 K17
section
variable {P : Program} {w : World} {K : PySem.W.Frag} {mg : Str → Option Value} {base : Heap}
def sp_whole : Sp := fun vs H Q _ => ∃ k : Int, vs = [.int k] ∧ Q (.bl true) H
theorem sc_is_whole : FnScope ["thing"] ["thing"] (defScope s_is_whole) := ⟨rfl, rfl, rfl, by decide +kernel, rfl, by decide +kernel, by decide +kernel⟩
theorem ok_whole {f : Addr} {fd : FuncData} (F : Fun K "is_whole" "is_whole" s_is_whole f fd) (T : Txt K mg) : FnOk P w K mg base CX0 1 f fd ["thing"] sp_whole := by
  refine F.okq sc_is_whole (fun vs H Q E h => ?_) (fun cdv A outer s H vs Q E hr h => ?_)
  · obtain ⟨k, rfl, _⟩ := h
    rfl
  · obtain ⟨k, rfl, q⟩ := h
    refine ⟨_, qss_one (qs_ret (qe_and (qe_callB (k_isi K "int") (by rfl) T.isinstance (by decide +kernel) (qa_cons (qv 0) (qa_cons (qe_bltn (v := .ty "int") (by rfl) T.int (by decide +kernel) rfl) qa_nil))) (qe_one (qe_not (qe_callB (k_isi K "bool") (by rfl) T.isinstance (by decide +kernel) (qa_cons (qv 0) (qa_cons (qe_bltn (v := .ty "bool") (by rfl) T.bool (by decide +kernel) rfl) qa_nil))))))), ?_⟩
    walk_at "r"
    refine s_isi (.int _) kit_same ?_
    walk_at "r"
    refine s_isi (.int _) kit_int_bool ?_
    walk_at "r"
    exact q
end
end K15

set_option Elab.async false
set_option linter.all false
set_option maxRecDepth 100000
set_option maxHeartbeats 4000000
namespace K15
open PySem L2 K19 K17
section
variable {P : Program} {w : World} {K : PySem.W.Frag} {mg : Str → Option Value} {base : Heap}
def sp_has (K : PySem.W.Frag) : Sp := fun vs H Q _ => ∃ (v : V) (w : Str) (n : Dt) (ps : List Tr) (k : Nat), vs = [v, .int (k : Nat)] ∧ TrAt K H v (.mk w n ps) ∧ k < ps.length ∧ Q (.bl true) H
theorem sc_has_part : FnScope ["form", "number"] ["form", "number"] (defScope s_has_part) := ⟨rfl, rfl, rfl, by decide +kernel, rfl, by decide +kernel, by decide +kernel⟩
theorem ok_has {f : Addr} {fd : FuncData} (F : Fun K "has_part" "has_part" s_has_part f fd) (T : Txt K mg) (C_is_whole : Callee P w K mg base 1 "is_whole" ["thing"] sp_whole) : FnOk P w K mg base CX0 2 f fd ["form", "number"] (sp_has K) := by
  refine F.okq sc_has_part (fun vs H Q E h => ?_) (fun cdv A outer s H vs Q E hr h => ?_)
  · obtain ⟨v, w, n, ps, k, rfl, _⟩ := h
    rfl
  · obtain ⟨v, w, n, ps, k, rfl, ht, hk, q⟩ := h
    refine ⟨_, qss_one (qs_ret (qe_and (qe_fn C_is_whole (hr.mono (by decide)) (qa_cons (qv 1) qa_nil)) (qe_one (qe_chain op_leA op_ltA (qe_int) (qv 1) (qe_callB (k_len K) (by rfl) T.len (by decide +kernel) (qa_cons (qe_ix (k_ix K) (qv 0) (qe_int) (fun _ _ => rfl)) qa_nil)))))), ?_⟩
    cases ht with
    | @mk b pp _ nv _ us _ qb hn qp l hch =>
    walk_at "r"
    refine ⟨_, rfl, ?_⟩
    walk_at "r"
    refine ite2 (fun _ => ?_) (fun c => absurd (decide_eq_true (by omega)) c)
    walk_at "r"
    refine s_ix_tup qb rfl ?_
    walk_at "r"
    refine s_len_tup qp ?_
    walk_at "r"
    have e : decide ((k : Int) < (us.length : Int)) = true := decide_eq_true (by omega)
    rw [e]
    exact q
end
end K15

set_option Elab.async false
set_option linter.all false
set_option maxRecDepth 100000
set_option maxHeartbeats 4000000
namespace K15
open PySem L2 K19 K17
section
variable {P : Program} {w : World} {K : PySem.W.Frag} {mg : Str → Option Value} {base : Heap}
abbrev s_init : Stmt := match top 4 with
  | .ClassDef _ _ _ b _ _ _ _ _ _ _ => b.getD 0 (.Pass ⟨0, 0, 0, 0⟩)
  | s => s
theorem sc_init : FnScope ["self", "place"] ["self", "place"] (defScope s_init) := ⟨rfl, rfl, rfl, by decide +kernel, rfl, by decide +kernel, by decide +kernel⟩
def sp_init (K : PySem.W.Frag) : Sp := fun vs H Q _ => ∃ (a C : Addr) (v : V), vs = [.ref a, v] ∧ H a = some (exm a (.ref C) none) ∧ ExC K C ∧ NoAttr K C "place" ∧ ∀ d, H d = none → d ≠ a → Q .non (upd (upd H d (.xd [("place", v)])) a (exm a (.ref C) (some d)))
theorem ok_init {f : Addr} {fd : FuncData} (F : Fun K "__init__" "NoPlace.__init__" s_init f fd) : FnOk P w K mg base CX0 1 f fd ["self", "place"] (sp_init K) := by
  refine F.okq sc_init (fun vs H Q E h => ?_) (fun cdv A outer s H vs Q E hr h => ?_)
  · obtain ⟨a, C, v, rfl, _⟩ := h
    rfl
  · obtain ⟨a, C, v, rfl, h1, h2, h3, q⟩ := h
    refine ⟨_, qss_one (qs_xset (qv 0) (qv 1)), ?_⟩
    exact ⟨v, rfl, .ref a, rfl, a, C, rfl, h1, h2, h3, q⟩
end
end K15

set_option Elab.async false
set_option linter.all false
set_option maxRecDepth 100000
set_option maxHeartbeats 4000000
namespace K15
open PySem L2 K19 K17
section
variable {P : Program} {w : World} {K : PySem.W.Frag} {mg : Str → Option Value} {base : Heap}
def sp_hasZ (K : PySem.W.Frag) : Sp := fun vs H Q _ => ∃ (v : V) (w : Str) (n : Dt) (ps : List Tr) (k : Int), vs = [v, .int k] ∧ TrAt K H v (.mk w n ps) ∧ Q (.bl (decide (0 ≤ k ∧ k < ps.length))) H
theorem ok_hasZ {f : Addr} {fd : FuncData} (F : Fun K "has_part" "has_part" s_has_part f fd) (T : Txt K mg) (C_is_whole : Callee P w K mg base 1 "is_whole" ["thing"] sp_whole) : FnOk P w K mg base CX0 2 f fd ["form", "number"] (sp_hasZ K) := by
  refine F.okq sc_has_part (fun vs H Q E h => ?_) (fun cdv A outer s H vs Q E hr h => ?_)
  · obtain ⟨v, w, n, ps, k, rfl, _⟩ := h
    rfl
  · obtain ⟨v, w, n, ps, k, rfl, ht, q⟩ := h
    refine ⟨_, qss_one (qs_ret (qe_and (qe_fn C_is_whole (hr.mono (by decide)) (qa_cons (qv 1) qa_nil)) (qe_one (qe_chain op_leA op_ltA (qe_int) (qv 1) (qe_callB (k_len K) (by rfl) T.len (by decide +kernel) (qa_cons (qe_ix (k_ix K) (qv 0) (qe_int) (fun _ _ => rfl)) qa_nil)))))), ?_⟩
    cases ht with
    | @mk b pp _ nv _ us _ qb hn qp l hch =>
    walk_at "r"
    refine ⟨_, rfl, ?_⟩
    walk_at "r"
    refine ite2 (fun c => ?_) (fun c => ?_)
    · have c : 0 ≤ k := by simpa using c
      walk_at "r"
      refine s_ix_tup qb rfl ?_
      walk_at "r"
      refine s_len_tup qp ?_
      walk_at "r"
      have e : decide (k < (us.length : Int)) = decide (0 ≤ k ∧ k < (ps.length : Int)) := by rw [l]; exact decide_eq_decide.mpr ⟨fun h => ⟨c, h⟩, fun h => h.2⟩
      rw [e]
      exact q
    · have c : ¬ 0 ≤ k := fun h => c (by simpa using h)
      have e : decide (0 ≤ k ∧ k < (ps.length : Int)) = false := decide_eq_false fun h => c h.1
      rw [e] at q
      walk_at "r"
      exact q
end
end K15

set_option Elab.async false
set_option linter.all false
set_option maxRecDepth 100000
set_option maxHeartbeats 4000000
namespace K15
open PySem L2 K19 K17
section
variable {P : Program} {w : World} {K : PySem.W.Frag} {mg : Str → Option Value} {base : Heap}
theorem atI_last {α : Type} {xs : List α} {x : α} (h : xs[xs.length - 1]? = some x) : atI xs (-1) = some x := by
  have hl := (List.getElem?_eq_some_iff.mp h).1
  unfold atI ixN
  rw [if_neg (by omega), if_pos (by omega)]
  have e : ((-1 : Int) + (xs.length : Int)).toNat = xs.length - 1 := by omega
  simpa [e] using h
theorem atI_ok {α : Type} {xs : List α} {i : Int} {x : α} (j : Nat) (hj : (j : Int) = i) (h : xs[j]? = some x) : atI xs i = some x := by
  have hl := (List.getElem?_eq_some_iff.mp h).1
  subst hj
  unfold atI ixN
  rw [if_pos (by omega), if_pos (by omega)]
  simpa using h
theorem plV_at {pl : List Nat} {i : Nat} {v : V} (h : (plV pl)[i]? = some v) : ∃ k, v = .int (k : Nat) ∧ pl[i]? = some k := by
  unfold plV at h
  rw [List.getElem?_map] at h
  cases e : pl[i]? with
  | none => rw [e] at h; cases h
  | some x => rw [e] at h; exact ⟨x, (Option.some.inj h).symm, rfl⟩
theorem plV_len (pl : List Nat) : (plV pl).length = pl.length := by unfold plV; simp
def sp_down (K : PySem.W.Frag) : Sp := fun vs H Q _ => ∃ (v : V) (t : Tr) (p : Addr) (pl : List Nat), vs = [v, .ref p] ∧ TrAt K H v t ∧ SqT K H p (plV pl) ∧ Sub t pl ∧ pl.length ≤ 1000 ∧
  ∀ (q : Addr) (ws : List V) (H' : Hp), H q = none → Same H H' → H' q = some (.lst ws) → Al (TrAt K H') ws (path t pl) → Q (.ref q) H'
theorem sc_forms_down_to : FnScope ["tree", "place", "passed", "number"] ["tree", "place"] (defScope s_forms_down_to) := ⟨rfl, rfl, rfl, by decide +kernel, rfl, by decide +kernel, by decide +kernel⟩
theorem ok_down {f : Addr} {fd : FuncData} (F : Fun K "forms_down_to" "forms_down_to" s_forms_down_to f fd) (T : Txt K mg) (C_has_part : Callee P w K mg base 2 "has_part" ["form", "number"] (sp_has K)) : FnOk P w K mg base CX0 3 f fd ["tree", "place"] (sp_down K) := by
  refine F.okq sc_forms_down_to (fun vs H Q E h => ?_) (fun cdv A outer s H vs Q E hr h => ?_)
  · obtain ⟨v, t, p, pl, rfl, _⟩ := h
    rfl
  · obtain ⟨v, t, p, pl, rfl, ht, hp, hs, hl, q⟩ := h
    refine ⟨_, qss_cons (qs_set (i := 2) sc_forms_down_to.nd rfl (Or.inl rfl) (qe_lst (qa_cons (qv 0) qa_nil)))
      (qss_cons (qs_for PassesOwn.never rfl (qi_anyK K (qv 1)) (qg_name (i := 3) sc_forms_down_to.nd rfl (Or.inl rfl)) (qss_cons (qs_if (qt_not (qt_val (qe_fn C_has_part (hr.mono (by decide)) (qa_cons (qe_ix (k_ix K) (qv 2) (qe_un un_neg (qe_int)) (fun _ _ => rfl)) (qa_cons (qv 3) qa_nil))))) (qss_one (qs_dead)) (qss_nil))
      (qss_one (qs_expr (qe_bmK K PySem.F.plainAttrs_list PySem.F.slot_list_append PySem.F.type_list_append mt_append (qv 2) (qa_cons (qe_ix (k_ix K) (qe_ix (k_ix K) (qe_ix (k_ix K) (qv 2) (qe_un un_neg (qe_int)) (fun _ _ => rfl)) (qe_int) (fun _ _ => rfl)) (qv 3) (fun _ _ => rfl)) qa_nil))))))
      (qss_one (qs_ret (qv 2)))), ?_⟩
    have bg := big
    walk_at "r"
    refine ⟨by show 1 ≤ sizeLine; decide, fun q0 hq0 => ?_⟩
    have s1 : Same H (upd H q0 (.lst [v])) := Same.upd hq0
    have e1 : upd H q0 (.lst [v]) q0 = some (.lst [v]) := upd_same
    revert s1 e1
    generalize upd H q0 (.lst [v]) = H1
    intro s1 e1
    walk_at "r"
    refine .inr (.inl ⟨p, rfl, ⟨_, s1.tup hp⟩, ?_⟩)
    have p0 : (path t pl).take 1 = [t] := by
      have := path_zero t pl
      cases e : path t pl with
      | nil => rw [e] at this; cases this
      | cons a r =>
        rw [e] at this
        have h : a = t := by simpa using this
        rw [h]
        rfl
    refine for_tup (K := K) (a := p) (xs := plV pl) (fun i σ' H' => ∃ w3 ws, σ' = [some v, some (.ref p), some (.ref q0), w3] ∧ H' q0 = some (.lst ws) ∧ Al (TrAt K H') ws ((path t pl).take (i + 1)) ∧ Same H H') ⟨none, [v], rfl, e1, by rw [p0]; exact Al.nil.snoc (ht.same s1), s1⟩ ?_ ?_ ?_
    · rintro i σ' H' _ ⟨_, _, _, _, _, sm⟩
      exact sm.tup hp
    · rintro i x σ' H' hx ⟨w3, ws, rfl, e2, al, sm⟩
      obtain ⟨k, rfl, hk⟩ := plV_at hx
      obtain ⟨w', n', ps, u, a1, a2, a3⟩ := path_at hs i k hk
      have hi := (List.getElem?_eq_some_iff.mp hk).1
      have hpl := path_len hs
      have hwl : ws.length = i + 1 := by rw [al.1, List.length_take]; omega
      have hx1 : ((path t pl).take (i + 1))[i]? = some (.mk w' n' ps) := by rw [List.getElem?_take, if_pos (by omega)]; exact a1
      obtain ⟨vi, hvi, hti⟩ := al.get' hx1
      have hlast : atI ws (-1) = some vi := atI_last (by rw [hwl]; exact hvi)
      cases hti with
      | @mk b pp _ nv _ us _ qb hn qp l hch =>
      have hku : k < us.length := by rw [l]; exact (List.getElem?_eq_some_iff.mp a2).1
      walk_at "r"
      refine s_ix_lst (SqL.of e2) hlast ?_
      walk_at "r"
      refine ⟨_, w', n', ps, k, rfl, .mk qb hn qp l hch, by omega, ?_⟩
      walk_at "r"
      refine s_tyL (SqL.of e2) ?_
      walk_at "r"
      refine s_ix_lst (SqL.of e2) hlast ?_
      walk_at "r"
      refine s_ix_tup qb rfl ?_
      walk_at "r"
      refine s_ix_tup qp (atI_ok k rfl (List.getElem?_eq_getElem hku)) ?_
      walk_at "r"
      refine s_app e2 (by omega) ?_
      walk_at "r"
      have t3 : SameT H' (upd H' q0 (.lst (ws ++ [us[k]]))) := SameT.set e2
      refine ⟨_, ws ++ [us[k]], rfl, upd_same, ?_, sm.over hq0⟩
      have e3 : (path t pl).take (i + 1 + 1) = (path t pl).take (i + 1) ++ [u] := by rw [List.take_add_one, a3]; rfl
      rw [e3]
      exact (al.mono fun _ _ z => z.sameT t3).snoc ((hch k _ u (List.getElem?_eq_getElem hku) a2).sameT t3)
    · rintro σ' H' ⟨w3, ws, rfl, e2, al, sm⟩
      rw [plV_len, List.take_of_length_le (by rw [path_len hs]; omega)] at al
      walk_at "r"
      exact q q0 ws H' hq0 sm e2 al
end
end K15

set_option Elab.async false
set_option linter.all false
set_option maxRecDepth 100000
set_option maxHeartbeats 4000000
namespace K15
open PySem L2 K19 K17
section
variable {P : Program} {w : World} {K : PySem.W.Frag} {mg : Str → Option Value} {base : Heap}
def sp_wpart (K : PySem.W.Frag) : Sp := fun vs H Q _ => ∃ (v u : V) (w : Str) (n : Dt) (ps : List Tr) (tu : Tr) (k : Nat), vs = [v, .int (k : Nat), u] ∧ TrAt K H v (.mk w n ps) ∧ TrAt K H u tu ∧ k < ps.length ∧ ps.length ≤ 1000 ∧
  ∀ (v' : V) (H' : Hp), Same H H' → TrAt K H' v' (.mk w n (ps.set k tu)) → Q v' H'
theorem set_split {α : Type} {xs : List α} {k : Nat} {x : α} (h : k < xs.length) : xs.take k ++ [x] ++ xs.drop (k + 1) = xs.set k x := by
  rw [List.set_eq_take_append_cons_drop, if_pos h, List.append_assoc]
  rfl
theorem sc_with_part : FnScope ["form", "number", "part", "parts"] ["form", "number", "part"] (defScope s_with_part) := ⟨rfl, rfl, rfl, by decide +kernel, rfl, by decide +kernel, by decide +kernel⟩
theorem ok_wpart {f : Addr} {fd : FuncData} (F : Fun K "with_part" "with_part" s_with_part f fd) (T : Txt K mg) : FnOk P w K mg base CX0 1 f fd ["form", "number", "part"] (sp_wpart K) := by
  refine F.okq sc_with_part (fun vs H Q E h => ?_) (fun cdv A outer s H vs Q E hr h => ?_)
  · obtain ⟨v, u, w, n, ps, tu, k, rfl, _⟩ := h
    rfl
  · obtain ⟨v, u, w, n, ps, tu, k, rfl, ht, hu, hk, hl, q⟩ := h
    refine ⟨_, qss_cons (qs_set (i := 3) sc_with_part.nd rfl (Or.inl rfl) (qe_ix (k_ix K) (qv 0) (qe_int) (fun _ _ => rfl)))
      (qss_one (qs_ret (qe_tup (qa_cons (qe_ix (k_ix K) (qv 0) (qe_int) (fun _ _ => rfl)) (qa_cons (qe_ix (k_ix K) (qv 0) (qe_int) (fun _ _ => rfl)) (qa_cons (qe_op (k_add K) (qe_op (k_add K) (qe_slice (k_slB K) (qv 3) (qo_none) (qo_some (qv 1))) (qe_tup (qa_cons (qv 2) qa_nil))) (qe_slice (k_slB K) (qv 3) (qo_some (qe_op (k_add K) (qv 1) (qe_int))) (qo_none))) qa_nil)))))), ?_⟩
    have bg := big
    cases ht with
    | @mk b pp _ nv _ us _ qb hn qp l hch =>
    walk_at "r"
    refine s_ix_tup qb rfl ?_
    walk_at "r"
    refine s_ix_tup qb rfl ?_
    walk_at "r"
    refine s_ix_tup qb rfl ?_
    walk_at "r"
    refine s_slb_tup qp fun r1 H1 s1 q1 => ?_
    rw [cutV_to] at q1
    walk_at "r"
    refine ⟨by show 1 ≤ sizeLine; decide, fun p2 h2 => ?_⟩
    have s2 := Same.upd (o := .tup [u]) h2
    refine s_add_tup (s2.tup q1) (SqT.of upd_same) (by rw [List.length_take]; show _ + 1 ≤ sizeLine; omega) fun r3 H3 s3 q3 => ?_
    have s13 := s1.trans (s2.trans s3)
    walk_at "r"
    refine s_slb_tup (s13.tup qp) fun r4 H4 s4 q4 => ?_
    have ek : (k : Int) + 1 = ((k + 1 : Nat) : Int) := by omega
    rw [ek, cutV_from] at q4
    refine s_add_tup (s4.tup q3) q4 (by rw [List.length_append, List.length_take, List.length_drop]; show _ + 1 + _ ≤ sizeLine; omega) fun r5 H5 s5 q5 => ?_
    rw [set_split (by omega)] at q5
    walk_at "r"
    refine ⟨by show 3 ≤ sizeLine; decide, fun p6 h6 => ?_⟩
    have s6 := Same.upd (o := .tup [.str w, nv, .ref r5]) h6
    have sm := s13.trans (s4.trans (s5.trans s6))
    refine q (.ref p6) _ sm (.mk (SqT.of upd_same) (hn.same sm.t) (s6.tup q5) (by rw [List.length_set, List.length_set]; exact l) fun j x y g1 g2 => ?_)
    by_cases e : k = j
    · subst e
      rw [List.getElem?_set_self (by omega)] at g1 g2
      cases g1
      cases g2
      exact hu.same sm
    · rw [List.getElem?_set_ne e] at g1 g2
      exact (hch j x y g1 g2).same sm
end
end K15

set_option Elab.async false
set_option linter.all false
set_option maxRecDepth 100000
set_option maxHeartbeats 4000000
namespace K15
open PySem L2 K19 K17
section
variable {P : Program} {w : World} {K : PySem.W.Frag} {mg : Str → Option Value} {base : Heap}
def sp_withat (K : PySem.W.Frag) : Sp := fun vs H Q _ => ∃ (v u : V) (t tu : Tr) (p : Addr) (pl : List Nat), vs = [v, .ref p, u] ∧ TrAt K H v t ∧ SqT K H p (plV pl) ∧ Sub t pl ∧ pl.length ≤ 1000 ∧ t.size ≤ 1000 ∧ TrAt K H u tu ∧
  ∀ (v' : V) (H' : Hp), Same H H' → TrAt K H' v' (withAt t pl tu) → Q v' H'
theorem path_size {t : Tr} {pl : List Nat} (s : Sub t pl) : ∀ u ∈ path t pl, u.size ≤ t.size := by
  induction s with
  | nil t => intro u hu; cases t; rw [path, List.mem_singleton] at hu; rw [hu]; exact Nat.le_refl _
  | cons hj _ ih =>
    intro u hu
    rw [path_cons hj] at hu
    rcases List.mem_cons.mp hu with rfl | hu
    · exact Nat.le_refl _
    · have := ih u hu
      have := sizes_get hj
      rw [Tr.size]
      omega
theorem sc_with_at : FnScope ["tree", "place", "form", "made", "number", "above"] ["tree", "place", "form"] (defScope s_with_at) := ⟨rfl, rfl, rfl, by decide +kernel, rfl, by decide +kernel, by decide +kernel⟩
theorem ok_withat {f : Addr} {fd : FuncData} (F : Fun K "with_at" "with_at" s_with_at f fd) (T : Txt K mg) (C_forms_down_to : Callee P w K mg base 3 "forms_down_to" ["tree", "place"] (sp_down K)) (C_with_part : Callee P w K mg base 1 "with_part" ["form", "number", "part"] (sp_wpart K)) : FnOk P w K mg base CX0 4 f fd ["tree", "place", "form"] (sp_withat K) := by
  refine F.okq sc_with_at (fun vs H Q E h => ?_) (fun cdv A outer s H vs Q E hr h => ?_)
  · obtain ⟨v, u, t, tu, p, pl, rfl, _⟩ := h
    rfl
  · obtain ⟨v, u, t, tu, p, pl, rfl, ht, hp, hs, hl, hz, hu, q⟩ := h
    refine ⟨_, qss_cons (qs_set (i := 3) sc_with_at.nd rfl (Or.inl rfl) (qv 2))
      (qss_cons (qs_for PassesOwn.never rfl (qi_revK K rfl T.reversed (qa_cons (qe_list_zipK K (by rfl) T.list (by rfl) T.zip (qa_cons (qv 1) (qa_cons (qe_fn C_forms_down_to (hr.mono (by decide)) (qa_cons (qv 0) (qa_cons (qv 1) qa_nil))) qa_nil))) qa_nil)) (qg_tupK K (n := 2) rfl (qgs_cons (qg_name (i := 4) sc_with_at.nd rfl (Or.inl rfl)) (qgs_cons (qg_name (i := 5) sc_with_at.nd rfl (Or.inl rfl)) (qgs_nil)))) (qss_one (qs_set (i := 3) sc_with_at.nd rfl (Or.inl rfl) (qe_fn C_with_part (hr.mono (by decide)) (qa_cons (qv 5) (qa_cons (qv 4) (qa_cons (qv 3) qa_nil)))))))
      (qss_one (qs_ret (qv 3)))), ?_⟩
    have hpl := path_len hs
    walk_at "r"
    refine ⟨v, t, p, pl, rfl, ht, hp, hs, hl, fun q1 ws H1 hq1 s1 e1 al => ?_⟩
    walk_at "r"
    refine ⟨p, q1, _, ws, rfl, s1.tup hp, SqL.of e1, fun S zs H2 hS s2 hzl hpairs hS2 => ?_⟩
    have hzl : zs.length = pl.length := by rw [hzl, plV_len, al.1, hpl]; omega
    walk_at "r"
    refine ⟨S, zs, rfl, SqL.of hS2, ?_⟩
    have s12 := s1.trans s2
    have hlastp : (path t pl)[pl.length]? = some ((path t pl)[pl.length]'(by omega)) := List.getElem?_eq_getElem (by omega)
    refine for_rev (K := K) (a := S) (xs := zs) (fun j σ' H' => ∃ w4 w5 m tm, σ' = [some v, some (.ref p), some u, some m, w4, w5] ∧ (path t pl)[pl.length - j]? = some tm ∧ TrAt K H' m (withAt tm (pl.drop (pl.length - j)) tu) ∧ Same H2 H') ⟨none, none, u, _, rfl, hlastp, by rw [Nat.sub_zero, List.drop_of_length_le (Nat.le_refl _), with_nil]; exact hu.same s12, Same.refl _⟩ ?_ ?_ ?_
    · rintro j σ' H' _ ⟨_, _, _, _, _, _, _, sm⟩
      exact SqL.of (sm _ _ hS2)
    · rintro j z σ' H' hj hz1 ⟨w4, w5, m, tm, rfl, htm, hm, sm⟩
      obtain ⟨tt, x, y, rfl, hx, hy, htt⟩ := hpairs _ _ hz1
      obtain ⟨k, rfl, hk⟩ := plV_at hx
      obtain ⟨w', n', ps, u', a1, a2, a3⟩ := path_at hs _ k hk
      rw [hzl] at hk a1 a3 hy hj
      obtain ⟨ty, hty, hat⟩ := al.get hy
      rw [a1] at hty
      cases hty
      have e2 : pl.length - 1 - j + 1 = pl.length - j := by omega
      rw [e2, htm] at a3
      cases a3
      have hps : ps.length ≤ 1000 := by
        have := path_size hs _ (List.mem_of_getElem? a1)
        rw [Tr.size] at this
        have := sizes_len ps
        omega
      walk_at "r"
      refine s_gtup (SqT.of (sm _ _ htt)) rfl ?_
      walk_at "r"
      refine ⟨y, m, w', n', ps, _, k, rfl, hat.same (s2.trans sm), hm, (List.getElem?_eq_some_iff.mp a2).1, hps, fun v' H3 s3 hv' => ?_⟩
      walk_at "r"
      have e3 : pl.length - (j + 1) = pl.length - 1 - j := by omega
      refine ⟨_, _, v', _, rfl, by rw [e3]; exact a1, ?_, sm.trans s3⟩
      rw [e3, with_path hs _ k w' n' ps tm hk a1 (by rw [e2]; exact htm), e2]
      exact hv'
    · rintro σ' H' ⟨w4, w5, m, tm, rfl, htm, hm, sm⟩
      rw [hzl, Nat.sub_self] at htm hm
      rw [path_zero] at htm
      cases htm
      walk_at "r"
      exact q m H' (s12.trans sm) hm
end
end K15

set_option Elab.async false
set_option linter.all false
set_option maxRecDepth 100000
set_option maxHeartbeats 4000000
namespace K15
open PySem L2 K19 K17
section
variable {P : Program} {w : World} {K : PySem.W.Frag} {mg : Str → Option Value} {base : Heap}
def sp_fat (K : PySem.W.Frag) : Sp := fun vs H Q _ => ∃ (v : V) (t : Tr) (p : Addr) (pl : List Nat) (tx : Tr), vs = [v, .ref p] ∧ TrAt K H v t ∧ SqT K H p (plV pl) ∧ Sub t pl ∧ pl.length ≤ 1000 ∧ (path t pl)[pl.length]? = some tx ∧
  ∀ (u : V) (H' : Hp), Same H H' → TrAt K H' u tx → Q u H'
theorem sc_form_at : FnScope ["tree", "place"] ["tree", "place"] (defScope s_form_at) := ⟨rfl, rfl, rfl, by decide +kernel, rfl, by decide +kernel, by decide +kernel⟩
theorem ok_fat {f : Addr} {fd : FuncData} (F : Fun K "form_at" "form_at" s_form_at f fd) (T : Txt K mg) (C_forms_down_to : Callee P w K mg base 3 "forms_down_to" ["tree", "place"] (sp_down K)) : FnOk P w K mg base CX0 4 f fd ["tree", "place"] (sp_fat K) := by
  refine F.okq sc_form_at (fun vs H Q E h => ?_) (fun cdv A outer s H vs Q E hr h => ?_)
  · obtain ⟨v, t, p, pl, tx, rfl, _⟩ := h
    rfl
  · obtain ⟨v, t, p, pl, tx, rfl, ht, hp, hs, hl, hx, q⟩ := h
    refine ⟨_, qss_one (qs_ret (qe_ix (k_ix K) (qe_fn C_forms_down_to (hr.mono (by decide)) (qa_cons (qv 0) (qa_cons (qv 1) qa_nil))) (qe_un un_neg (qe_int)) (fun _ _ => rfl))), ?_⟩
    have hpl := path_len hs
    walk_at "r"
    refine ⟨v, t, p, pl, rfl, ht, hp, hs, hl, fun q1 ws H1 hq1 s1 e1 al => ?_⟩
    obtain ⟨u, hu, hat⟩ := al.get' hx
    have hwl : ws.length - 1 = pl.length := by rw [al.1, hpl]; omega
    walk_at "r"
    refine s_ix_lst (SqL.of e1) (atI_last (by rw [hwl]; exact hu)) ?_
    exact q u H1 s1 hat
end
end K15

set_option Elab.async false
set_option linter.all false
set_option maxRecDepth 100000
set_option maxHeartbeats 4000000
namespace K15
open PySem L2 K19 K17
section
variable {P : Program} {w : World} {K : PySem.W.Frag} {mg : Str → Option Value} {base : Heap}
structure Bad (t : Tr) (pl : List Nat) (far : Int) : Prop where
  sub : Sub t pl
  ex : ∃ w n ps, (path t pl)[pl.length]? = some (.mk w n ps) ∧ ¬ (0 ≤ far ∧ far < (ps.length : Int))
def badV (pl : List Nat) (far : Int) (rest : List V) : List V := plV pl ++ .int far :: rest
theorem badV_at {pl : List Nat} {far : Int} {rest : List V} {i : Nat} (hi : i < pl.length) {v : V} (h : (badV pl far rest)[i]? = some v) : ∃ k, v = .int (k : Nat) ∧ pl[i]? = some k := by
  unfold badV at h
  rw [List.getElem?_append_left (by rw [plV_len]; exact hi)] at h
  exact plV_at h
theorem badV_far {pl : List Nat} {far : Int} {rest : List V} {v : V} (h : (badV pl far rest)[pl.length]? = some v) : v = .int far := by
  unfold badV at h
  rw [List.getElem?_append_right (by rw [plV_len]; exact Nat.le_refl _), plV_len, Nat.sub_self] at h
  exact (Option.some.inj h).symm
def Rf (C : Addr) (H : Hp) (p : Addr) (E : XK) : Prop := ∀ (d : Addr) (H' : Hp), Same H H' → H' d = some (.xd [("place", .ref p)]) → E (.ref C) (some d) H'
theorem Rf.same {C : Addr} {H H' : Hp} {p : Addr} {E : XK} (h : Rf C H p E) (s : Same H H') : Rf C H' p E := fun d H2 s2 e => h d H2 (s.trans s2) e
def sp_downX (K : PySem.W.Frag) (C : Addr) : Sp := fun vs H _ E => ∃ (v : V) (t : Tr) (p : Addr) (pl : List Nat) (far : Int) (rest : List V), vs = [v, .ref p] ∧ TrAt K H v t ∧ SqT K H p (badV pl far rest) ∧ Bad t pl far ∧ pl.length ≤ 1000 ∧ Rf C H p E
theorem ok_downX {f : Addr} {fd : FuncData} (F : Fun K "forms_down_to" "forms_down_to" s_forms_down_to f fd) (T : Txt K mg) (C_has_part : Callee P w K mg base 2 "has_part" ["form", "number"] (sp_hasZ K))
    {C fi : Addr} {fdi : FuncData} (R_NoPlace : Rz K C fi) (F_NoPlace : FnOk P w K mg base CX0 1 fi fdi ["self", "place"] (sp_init K)) (b_NoPlace : Binds K fdi ["self", "place"] []) (G_NoPlace : mg "NoPlace" = some (.ref C)) (xC : ExC K C) (nA : NoAttr K C "place") : FnOk P w K mg base (CXR P w) 3 f fd ["tree", "place"] (sp_downX K C) := by
  refine F.okx sc_forms_down_to (fun vs H Q E h => ?_) (fun cdv A outer s H vs Q E hr h => ?_)
  · obtain ⟨v, t, p, pl, far, rest, rfl, _⟩ := h
    rfl
  · obtain ⟨v, t, p, pl, far, rest, rfl, ht, hp, hb, hl, q⟩ := h
    refine ⟨_, qss_cons (qs_set (i := 2) sc_forms_down_to.nd rfl (Or.inl rfl) (qe_lst (qa_cons (qv 0) qa_nil)))
      (qss_cons (qs_for PassesOwn.leaving rfl (qi_anyK K (qv 1)) (qg_name (i := 3) sc_forms_down_to.nd rfl (Or.inl rfl)) (qss_cons (qs_if (qt_not (qt_val (qe_fn C_has_part (hr.mono (by decide)) (qa_cons (qe_ix (k_ix K) (qv 2) (qe_un un_neg (qe_int)) (fun _ _ => rfl)) (qa_cons (qv 3) qa_nil))))) (qss_one (qs_raiseI rfl R_NoPlace F_NoPlace (hr.mono (by decide)) b_NoPlace G_NoPlace (qa_cons (qv 1) qa_nil) (fun _ _ _ _ _ _ _ I x h0 hn he => raises_cx I x h0 hn he) rfl)) (qss_nil))
      (qss_one (qs_expr (qe_bmK K PySem.F.plainAttrs_list PySem.F.slot_list_append PySem.F.type_list_append mt_append (qv 2) (qa_cons (qe_ix (k_ix K) (qe_ix (k_ix K) (qe_ix (k_ix K) (qv 2) (qe_un un_neg (qe_int)) (fun _ _ => rfl)) (qe_int) (fun _ _ => rfl)) (qv 3) (fun _ _ => rfl)) qa_nil))))))
      (qss_one (qs_ret (qv 2)))), ?_⟩
    have bg := big
    have hs := hb.sub
    walk_at "r"
    refine ⟨by show 1 ≤ sizeLine; decide, fun q0 hq0 => ?_⟩
    have s1 : Same H (upd H q0 (.lst [v])) := Same.upd hq0
    have e1 : upd H q0 (.lst [v]) q0 = some (.lst [v]) := upd_same
    revert s1 e1
    generalize upd H q0 (.lst [v]) = H1
    intro s1 e1
    walk_at "r"
    refine .inr (.inl ⟨p, rfl, ⟨_, s1.tup hp⟩, ?_⟩)
    have p0 : (path t pl).take 1 = [t] := by
      have := path_zero t pl
      cases e : path t pl with
      | nil => rw [e] at this; cases this
      | cons a r =>
        rw [e] at this
        have h : a = t := by simpa using this
        rw [h]
        rfl
    refine for_tup (K := K) (a := p) (xs := badV pl far rest) (fun i σ' H' => i ≤ pl.length ∧ ∃ w3 ws, σ' = [some v, some (.ref p), some (.ref q0), w3] ∧ H' q0 = some (.lst ws) ∧ Al (TrAt K H') ws ((path t pl).take (i + 1)) ∧ Same H H') ⟨Nat.zero_le _, none, [v], rfl, e1, by rw [p0]; exact Al.nil.snoc (ht.same s1), s1⟩ ?_ ?_ ?_
    · rintro i σ' H' _ ⟨_, _, _, _, _, _, sm⟩
      exact sm.tup hp
    · rintro i x σ' H' hx ⟨hil, w3, ws, rfl, e2, al, sm⟩
      have hpl := path_len hs
      have hwl : ws.length = i + 1 := by rw [al.1, List.length_take]; omega
      by_cases hi : i < pl.length
      · obtain ⟨k, rfl, hk⟩ := badV_at hi hx
        obtain ⟨w', n', ps, u, a1, a2, a3⟩ := path_at hs i k hk
        have hx1 : ((path t pl).take (i + 1))[i]? = some (.mk w' n' ps) := by rw [List.getElem?_take, if_pos (by omega)]; exact a1
        obtain ⟨vi, hvi, hti⟩ := al.get' hx1
        have hlast : atI ws (-1) = some vi := atI_last (by rw [hwl]; exact hvi)
        cases hti with
        | @mk b pp _ nv _ us _ qb hn qp l hch =>
        have hku : k < us.length := by rw [l]; exact (List.getElem?_eq_some_iff.mp a2).1
        walk_at "r"
        refine s_ix_lst (SqL.of e2) hlast ?_
        walk_at "r"
        refine ⟨_, w', n', ps, k, rfl, .mk qb hn qp l hch, ?_⟩
        rw [decide_eq_true (show (0 : Int) ≤ (k : Int) ∧ (k : Int) < (ps.length : Int) from ⟨by omega, by omega⟩)]
        walk_at "r"
        refine s_tyL (SqL.of e2) ?_
        walk_at "r"
        refine s_ix_lst (SqL.of e2) hlast ?_
        walk_at "r"
        refine s_ix_tup qb rfl ?_
        walk_at "r"
        refine s_ix_tup qp (atI_ok k rfl (List.getElem?_eq_getElem hku)) ?_
        walk_at "r"
        refine s_app e2 (by omega) ?_
        walk_at "r"
        have t3 : SameT H' (upd H' q0 (.lst (ws ++ [us[k]]))) := SameT.set e2
        refine ⟨hi, _, ws ++ [us[k]], rfl, upd_same, ?_, sm.over hq0⟩
        have e3 : (path t pl).take (i + 1 + 1) = (path t pl).take (i + 1) ++ [u] := by rw [List.take_add_one, a3]; rfl
        rw [e3]
        exact (al.mono fun _ _ z => z.sameT t3).snoc ((hch k _ u (List.getElem?_eq_getElem hku) a2).sameT t3)
      · obtain rfl : i = pl.length := by omega
        obtain rfl := badV_far hx
        obtain ⟨w', n', ps, a1, a2⟩ := hb.ex
        have hx1 : ((path t pl).take (pl.length + 1))[pl.length]? = some (.mk w' n' ps) := by rw [List.getElem?_take, if_pos (by omega)]; exact a1
        obtain ⟨vi, hvi, hti⟩ := al.get' hx1
        have hlast : atI ws (-1) = some vi := atI_last (by rw [hwl]; exact hvi)
        walk_at "r"
        refine s_ix_lst (SqL.of e2) hlast ?_
        walk_at "r"
        refine ⟨_, w', n', ps, far, rfl, hti, ?_⟩
        rw [decide_eq_false a2]
        walk_at "r"
        refine ⟨.ref p, rfl, ?_⟩
        refine ⟨by show 1 ≤ sizeLine; decide, fun e he => ⟨e, C, .ref p, rfl, upd_same, xC, nA, fun d hd hde => ⟨rfl, some d, upd_same, q d _ ?_ ?_⟩⟩⟩
        · intro b o hbo
          have hb' := sm b o hbo
          have n1 : b ≠ e := fun z => by rw [z, he] at hb'; cases hb'
          rw [upd_ne hde] at hd
          have n2 : b ≠ d := fun z => by rw [z, hd] at hb'; cases hb'
          rw [del_ne n1, upd_ne n1, upd_ne n2, upd_ne n1]
          exact hb'
        · rw [del_ne hde, upd_ne hde, upd_same]
    · rintro σ' H' ⟨hil, _⟩
      unfold badV at hil
      rw [List.length_append, plV_len, List.length_cons] at hil
      omega
end
end K15

set_option Elab.async false
set_option linter.all false
set_option maxRecDepth 100000
set_option maxHeartbeats 4000000
namespace K15
open PySem L2 K19 K17
section
variable {P : Program} {w : World} {K : PySem.W.Frag} {mg : Str → Option Value} {base : Heap}
theorem ok_fatX {C : Addr} {f : Addr} {fd : FuncData} (F : Fun K "form_at" "form_at" s_form_at f fd) (T : Txt K mg) (C_forms_down_to : CalleeX P w K mg base 3 "forms_down_to" ["tree", "place"] (sp_downX K C)) : FnOk P w K mg base (CXR P w) 4 f fd ["tree", "place"] (sp_downX K C) := by
  refine F.okx sc_form_at (fun vs H Q E h => ?_) (fun cdv A outer s H vs Q E hr h => ?_)
  · obtain ⟨v, t, p, pl, far, rest, rfl, _⟩ := h
    rfl
  · obtain ⟨v, t, p, pl, far, rest, rfl, ht, hp, hb, hl, q⟩ := h
    refine ⟨_, qss_one (qs_ret (qe_ix (k_ix K) (qe_fnx C_forms_down_to (hr.mono (by decide)) (passes_cx (fun _ _ _ h => h)) (qa_cons (qv 0) (qa_cons (qv 1) qa_nil))) (qe_un un_neg (qe_int)) (fun _ _ => rfl))), ?_⟩
    walk_at "r"
    exact ⟨v, t, p, pl, far, rest, rfl, ht, hp, hb, hl, q⟩
end
end K15

set_option Elab.async false
set_option linter.all false
set_option maxRecDepth 100000
set_option maxHeartbeats 4000000
namespace K15
open PySem L2 K19 K17
section
variable {P : Program} {w : World} {K : PySem.W.Frag} {mg : Str → Option Value} {base : Heap}
def sp_watX (K : PySem.W.Frag) (C : Addr) : Sp := fun vs H _ E => ∃ (v : V) (t : Tr) (p : Addr) (pl : List Nat) (far : Int) (rest : List V) (y : V), vs = [v, .ref p, y] ∧ TrAt K H v t ∧ SqT K H p (badV pl far rest) ∧ Bad t pl far ∧ pl.length ≤ 1000 ∧ Rf C H p E
theorem ok_watX {C : Addr} {f : Addr} {fd : FuncData} (F : Fun K "with_at" "with_at" s_with_at f fd) (T : Txt K mg) (C_forms_down_to : CalleeX P w K mg base 3 "forms_down_to" ["tree", "place"] (sp_downX K C)) (C_with_part : Callee P w K mg base 1 "with_part" ["form", "number", "part"] (sp_wpart K)) : FnOk P w K mg base (CXR P w) 4 f fd ["tree", "place", "form"] (sp_watX K C) := by
  refine F.okx sc_with_at (fun vs H Q E h => ?_) (fun cdv A outer s H vs Q E hr h => ?_)
  · obtain ⟨v, t, p, pl, far, rest, y, rfl, _⟩ := h
    rfl
  · obtain ⟨v, t, p, pl, far, rest, y, rfl, ht, hp, hb, hl, q⟩ := h
    refine ⟨_, qss_cons (qs_set (i := 3) sc_with_at.nd rfl (Or.inl rfl) (qv 2))
      (qss_cons (qs_for PassesOwn.leaving rfl (qi_revK K rfl T.reversed (qa_cons (qe_list_zipK K (by rfl) T.list (by rfl) T.zip (qa_cons (qv 1) (qa_cons (qe_fnx C_forms_down_to (hr.mono (by decide)) (passes_cx (fun _ _ _ h => h)) (qa_cons (qv 0) (qa_cons (qv 1) qa_nil))) qa_nil))) qa_nil)) (qg_tupK K (n := 2) rfl (qgs_cons (qg_name (i := 4) sc_with_at.nd rfl (Or.inl rfl)) (qgs_cons (qg_name (i := 5) sc_with_at.nd rfl (Or.inl rfl)) (qgs_nil)))) (qss_one (qs_set (i := 3) sc_with_at.nd rfl (Or.inl rfl) (qe_fn C_with_part (hr.mono (by decide)) (qa_cons (qv 5) (qa_cons (qv 4) (qa_cons (qv 3) qa_nil)))))))
      (qss_one (qs_ret (qv 3)))), ?_⟩
    walk_at "r"
    exact ⟨v, t, p, pl, far, rest, rfl, ht, hp, hb, hl, q⟩
end
end K15

set_option Elab.async false
set_option linter.all false
set_option maxRecDepth 100000
set_option maxHeartbeats 4000000
namespace K15
open PySem L2 K19 K17
section
variable {P : Program} {w : World} {K : PySem.W.Frag} {mg : Str → Option Value} {base : Heap}
def sp_nopl (K : PySem.W.Frag) : Sp := fun vs H Q _ => ∃ (p : Addr) (pl : List Nat) (m : Nat) (c : Int), vs = [.ref p, .int (m : Nat), .int c] ∧ SqT K H p (plV pl) ∧ pl.length ≤ 2000 ∧
  ∀ (r : Addr) (far : Int) (rest : List V) (H' : Hp), Same H H' → SqT K H' r (badV pl far rest) → ¬ (0 ≤ far ∧ far < (m : Int)) → (∀ v ∈ rest, ∃ k, v = V.int k) → Q (.ref r) H'
theorem sc_law_no_place : FnScope ["_law_place", "_law_many_here", "_law_cell_here", "_law_far", "_law_k"] ["_law_place", "_law_many_here", "_law_cell_here"] (defScope s_law_no_place) := ⟨rfl, rfl, rfl, by decide +kernel, rfl, by decide +kernel, by decide +kernel⟩
theorem ok_nopl {f : Addr} {fd : FuncData} (F : Fun K "_law_no_place" "_law_no_place" s_law_no_place f fd) (T : Txt K mg) : FnOk P w K mg base CX0 1 f fd ["_law_place", "_law_many_here", "_law_cell_here"] (sp_nopl K) := by
  refine F.okq sc_law_no_place (fun vs H Q E h => ?_) (fun cdv A outer s H vs Q E hr h => ?_)
  · obtain ⟨p, pl, m, c, rfl, _⟩ := h
    rfl
  · obtain ⟨p, pl, m, c, rfl, hp, hl, q⟩ := h
    refine ⟨_, qss_cons (qs_set (i := 3) sc_law_no_place.nd rfl (Or.inl rfl) (qe_op op_fdiv (qv 2) (qe_int)))
      (qss_cons (qs_set (i := 4) sc_law_no_place.nd rfl (Or.inl rfl) (qe_ix (k_ix K) (qe_lst (qa_cons (qv 1) (qa_cons (qe_op (k_add K) (qv 1) (qe_int)) (qa_cons (qe_op (k_add K) (qv 1) (qe_op op_mod (qv 3) (qe_op op_pow (qe_int) (qe_int)))) (qa_cons (qe_un un_neg (qe_int)) (qa_cons (qe_op op_sub (qe_un un_neg (qe_int)) (qe_op op_mod (qv 3) (qe_int))) (qa_cons (qe_op op_sub (qe_un un_neg (qe_int)) (qe_op op_mod (qv 3) (qe_op op_pow (qe_int) (qe_int)))) qa_nil))))))) (qe_op op_mod (qv 2) (qe_int)) (fun _ _ => rfl)))
      (qss_one (qs_ret (qe_op (k_add K) (qe_op (k_add K) (qv 0) (qe_tup (qa_cons (qv 4) qa_nil))) (qe_ix (k_ix K) (qe_lst (qa_cons (qe_tup (qa_nil)) (qa_cons (qe_tup (qa_cons (qe_int) qa_nil)) (qa_cons (qe_tup (qa_cons (qe_op op_mod (qv 3) (qe_int)) (qa_cons (qe_int) qa_nil))) qa_nil)))) (qe_op (k_add K) (qe_op op_mod (qe_op op_fdiv (qv 2) (qe_int)) (qe_int)) (qe_callTy k_int (by rfl) T.int (by decide +kernel) (qa_cons (qe_cmpR (k_eqB K hr.u200) (qe_op op_mod (qv 2) (qe_int)) (qe_int) (nomark _)) qa_nil))) (fun _ _ => rfl)))))), ?_⟩
    have bg := big
    walk_at "r"
    refine ⟨by show 6 ≤ sizeLine; decide, fun p1 h1 => ?_⟩
    have hA : (0 : Int) ≤ c / 12 % 10 ^ Int.toNat 18 := Int.emod_nonneg _ (by decide)
    have hB : (0 : Int) ≤ c / 12 % 4 := Int.emod_nonneg _ (by decide)
    generalize c / 12 % 10 ^ Int.toNat 18 = zA at hA h1 ⊢
    generalize c / 12 % 4 = zB at hB h1 ⊢
    have s1 := Same.upd (o := .lst [V.int (m : Nat), V.int ((m : Nat) + 1), V.int ((m : Nat) + zA), V.int (-1), V.int (-1 - zB), V.int (-1 - zA)]) h1
    have e1 : upd H p1 (.lst [V.int (m : Nat), V.int ((m : Nat) + 1), V.int ((m : Nat) + zA), V.int (-1), V.int (-1 - zB), V.int (-1 - zA)]) p1 = some (.lst [V.int (m : Nat), V.int ((m : Nat) + 1), V.int ((m : Nat) + zA), V.int (-1), V.int (-1 - zB), V.int (-1 - zA)]) := upd_same
    revert s1 e1
    generalize upd H p1 (.lst [V.int (m : Nat), V.int ((m : Nat) + 1), V.int ((m : Nat) + zA), V.int (-1), V.int (-1 - zB), V.int (-1 - zA)]) = H1
    intro s1 e1
    walk_at "r"
    obtain ⟨vf, hvf, hmf⟩ := atI_in (xs := [V.int ((m : Nat) : Int), V.int (((m : Nat) : Int) + 1), V.int (((m : Nat) : Int) + zA), V.int (-1), V.int (-1 - zB), V.int (-1 - zA)]) (i := c % 6) (Int.emod_nonneg _ (by decide)) (Int.emod_lt_of_pos _ (by decide))
    obtain ⟨far, rfl, hbad⟩ : ∃ far : Int, vf = .int far ∧ ¬ (0 ≤ far ∧ far < (m : Int)) := by
      simp only [List.mem_cons, List.not_mem_nil, or_false] at hmf
      rcases hmf with rfl | rfl | rfl | rfl | rfl | rfl <;> exact ⟨_, rfl, fun h => by omega⟩
    refine s_ix_lst (SqL.of e1) hvf ?_
    walk_at "r"
    refine ⟨by show 1 ≤ sizeLine; decide, fun p2 h2 => ?_⟩
    refine s_add_tup ((s1.put (o := .tup [.int far]) h2).tup hp) (SqT.of upd_same) (by rw [plV_len]; simp; omega) fun r3 H3 s3 q3 => ?_
    have m3 : Same H H3 := s1.trans ((Same.upd (o := .tup [.int far]) h2).trans s3)
    walk_at "r"
    refine ⟨by show 0 ≤ sizeLine; decide, fun p4 h4 => ?_⟩
    walk_at "r"
    refine ⟨by show 1 ≤ sizeLine; decide, fun p5 h5 => ?_⟩
    walk_at "r"
    refine ⟨by show 2 ≤ sizeLine; decide, fun p6 h6 => ?_⟩
    walk_at "r"
    refine ⟨by show 3 ≤ sizeLine; decide, fun p7 h7 => ?_⟩
    generalize c / 12 % 3 = zC at h7 h6 ⊢
    have x7 := Same.upd (o := .lst [.ref p4, .ref p5, .ref p6]) h7
    have x6 := (Same.upd (o := .tup [.int zC, .int 0]) h6).trans x7
    have x5 := (Same.upd (o := .tup [.int 0]) h5).trans x6
    have x4 := (Same.upd (o := .tup []) h4).trans x5
    have f4 := x5 p4 _ upd_same
    have f5 := x6 p5 _ upd_same
    have f6 := x7 p6 _ upd_same
    have f7 : upd (upd (upd (upd H3 p4 (.tup [])) p5 (.tup [.int 0])) p6 (.tup [.int zC, .int 0])) p7 (.lst [.ref p4, .ref p5, .ref p6]) p7 = some (.lst [.ref p4, .ref p5, .ref p6]) := upd_same
    clear x5 x6 x7
    revert x4 f4 f5 f6 f7
    generalize upd (upd (upd (upd H3 p4 (.tup [])) p5 (.tup [.int 0])) p6 (.tup [.int zC, .int 0])) p7 (.lst [.ref p4, .ref p5, .ref p6]) = G
    intro x4 f4 f5 f6 f7
    walk_at "r"
    refine s_eqb rfl ?_
    walk_at "r"
    have j0 : (0 : Int) ≤ c / 6 % 2 := Int.emod_nonneg _ (by decide)
    have j1 : c / 6 % 2 < 2 := Int.emod_lt_of_pos _ (by decide)
    obtain ⟨vr, hvr, hmr⟩ := atI_in (xs := [V.ref p4, V.ref p5, V.ref p6]) (i := c / 6 % 2 + (if decide (V.int (c % 5) = V.int 0) = true then (1 : Int) else 0)) (by split <;> omega) (by simp only [List.length_cons, List.length_nil]; split <;> omega)
    obtain ⟨ar, rs, rfl, qr, hrs, hrl⟩ : ∃ (ar : Addr) (rs : List V), vr = .ref ar ∧ SqT K G ar rs ∧ (∀ v ∈ rs, ∃ k, v = V.int k) ∧ rs.length ≤ 2 := by
      simp only [List.mem_cons, List.not_mem_nil, or_false] at hmr
      rcases hmr with rfl | rfl | rfl
      · exact ⟨p4, [], rfl, SqT.of f4, (fun v h => nomatch h), by simp⟩
      · exact ⟨p5, _, rfl, SqT.of f5, (fun v h => ⟨0, by simpa using h⟩), by simp⟩
      · refine ⟨p6, _, rfl, SqT.of f6, fun v h => ?_, by simp⟩
        simp only [List.mem_cons, List.not_mem_nil, or_false] at h
        rcases h with rfl | rfl <;> exact ⟨_, rfl⟩
    refine s_ix_lst (SqL.of f7) hvr ?_
    refine s_add_tup (x4.tup q3) qr (by rw [List.length_append, plV_len]; simp; omega) fun r8 H8 s8 q8 => ?_
    refine q r8 far rs H8 (m3.trans (x4.trans s8)) ?_ hbad hrs
    have e : badV pl far rs = plV pl ++ [.int far] ++ rs := by unfold badV; simp
    rw [e]
    exact q8
end
end K15

set_option Elab.async false
set_option linter.all false
set_option maxRecDepth 100000
set_option maxHeartbeats 4000000
namespace K15
open PySem L2 K19 K17
section
variable {P : Program} {w : World} {K : PySem.W.Frag} {mg : Str → Option Value} {base : Heap}
theorem sizes_app : ∀ (a b : List Tr), sizes (a ++ b) = sizes a + sizes b
  | [], b => by simp [sizes]
  | t :: r, b => by rw [List.cons_append, sizes, sizes, sizes_app r b]; omega
def sp_istree (K : PySem.W.Frag) : Sp := fun vs H Q _ => ∃ (v : V) (t : Tr), vs = [v] ∧ TrAt K H v t ∧ t.size ≤ 2000 ∧ ∀ H', Same H H' → Q (.bl true) H'
theorem sc_law_is_tree : FnScope ["_law_found", "_law_left", "_law_form"] ["_law_found"] (defScope s_law_is_tree) := ⟨rfl, rfl, rfl, by decide +kernel, rfl, by decide +kernel, by decide +kernel⟩
theorem ok_istree {f : Addr} {fd : FuncData} (F : Fun K "_law_is_tree" "_law_is_tree" s_law_is_tree f fd) (T : Txt K mg) : FnOk P w K mg base CX0 1 f fd ["_law_found"] (sp_istree K) := by
  refine F.okq sc_law_is_tree (fun vs H Q E h => ?_) (fun cdv A outer s H vs Q E hr h => ?_)
  · obtain ⟨v, t, rfl, _⟩ := h
    rfl
  · obtain ⟨v, t, rfl, ht, hz, q⟩ := h
    refine ⟨_, qss_cons (qs_set (i := 1) sc_law_is_tree.nd rfl (Or.inl rfl) (qe_lst (qa_cons (qv 0) qa_nil)))
      (qss_cons (qs_while PassesOwn.never (qt_cmpR op_gt (qe_callB (k_len K) (by rfl) T.len (by decide +kernel) (qa_cons (qv 1) qa_nil)) (qe_int) (nomark _)) (qss_cons (qs_set (i := 2) sc_law_is_tree.nd rfl (Or.inl rfl) (qe_bm0K K PySem.F.plainAttrs_list PySem.F.slot_list_pop PySem.F.type_list_pop mt_pop (qv 1)))
      (qss_cons (qs_if (QW.qt (qw_or (qt_not (qt_val (qe_callB (k_isi K "tuple") (by rfl) T.isinstance (by decide +kernel) (qa_cons (qv 2) (qa_cons (qe_bltn (v := .ty "tuple") (by rfl) T.tuple (by decide +kernel) rfl) qa_nil))))) (qw_or (qt_cmpR (k_neB K hr.u200) (qe_callB (k_len K) (by rfl) T.len (by decide +kernel) (qa_cons (qv 2) qa_nil)) (qe_int) (nomark _)) (qw_or1 (qt_not (qt_val (qe_callB (k_isi K "tuple") (by rfl) T.isinstance (by decide +kernel) (qa_cons (qe_ix (k_ix K) (qv 2) (qe_int) (fun _ _ => rfl)) (qa_cons (qe_bltn (v := .ty "tuple") (by rfl) T.tuple (by decide +kernel) rfl) qa_nil))))))))) (qss_one (qs_ret (qe_bl))) (qss_nil))
      (qss_one (qs_expr (qe_bmK K PySem.F.plainAttrs_list PySem.F.slot_list_extend PySem.F.type_list_extend (k_extT K) (qv 1) (qa_cons (qe_ix (k_ix K) (qv 2) (qe_int) (fun _ _ => rfl)) qa_nil)))))))
      (qss_one (qs_ret (qe_bl)))), ?_⟩
    have bg := big
    walk_at "r"
    refine ⟨by show 1 ≤ sizeLine; decide, fun pw hpw => ?_⟩
    walk_at "r"
    have s1 : Same H (upd H pw (.lst [v])) := Same.upd hpw
    have e1 : upd H pw (.lst [v]) pw = some (.lst [v]) := upd_same
    revert s1 e1
    generalize upd H pw (.lst [v]) = H1
    intro s1 e1
    refine ⟨fun m σ' H' => ∃ (w2 : Option V) (wv : List V) (ts : List Tr), σ' = [some v, some (.ref pw), w2] ∧ H' pw = some (.lst wv) ∧ Al (TrAt K H') wv ts ∧ m = sizes ts ∧ sizes ts ≤ 2000 ∧ Same H H', ⟨_, none, [v], [t], rfl, e1, Al.nil.snoc (ht.same s1), rfl, by simp [sizes]; omega, s1⟩, ?_⟩
    rintro m σ' H' ⟨w2, wv, ts, rfl, ew, al, rfl, hs, sm⟩
    have tl := sizes_len ts
    walk_at "r"
    refine s_len_lst (SqL.of ew) ?_
    walk_at "r"
    by_cases hwv : wv = []
    · subst hwv
      refine iteF ?_
      walk_at "r"
      exact q H' sm
    obtain ⟨wv', tp, ts', x, rfl, rfl, al3, hx⟩ := al.last hwv
    have hne : decide ((0 : Int) < ((wv' ++ [tp]).length : Int)) = true := decide_eq_true (by rw [List.length_append, List.length_singleton]; omega)
    rw [hne]
    refine iteT ?_
    refine ⟨fun σ2 H2 => ∃ m', m' < sizes (ts' ++ [x]) ∧ ∃ (w2 : Option V) (wv : List V) (ts : List Tr), σ2 = [some v, some (.ref pw), w2] ∧ H2 pw = some (.lst wv) ∧ Al (TrAt K H2) wv ts ∧ m' = sizes ts ∧ sizes ts ≤ 2000 ∧ Same H H2, fun _ _ h => h, ?_⟩
    walk_at "r"
    refine s_tyL (SqL.of ew) ?_
    refine s_pop ew ?_
    have t1 : SameT H' (upd H' pw (.lst wv')) := SameT.set ew
    have ew2 : upd H' pw (.lst wv') pw = some (.lst wv') := upd_same
    have sm2 : Same H (upd H' pw (.lst wv')) := sm.over hpw
    revert t1 ew2 sm2
    generalize upd H' pw (.lst wv') = H2
    intro t1 ew2 sm2
    have hx2 := hx.sameT t1
    cases hx2 with
    | @mk b pp wd nv n vs us qb hn qpp hl hch =>
    walk_at "r"
    refine s_isiT qb kit_same ?_
    walk_at "r"
    refine s_len_tup qb ?_
    walk_at "r"
    rw [decide_eq_true (show V.int (([V.str wd, nv, V.ref pp].length : Nat) : Int) = V.int 3 from rfl)]
    walk_at "r"
    refine s_ix_tup qb rfl ?_
    walk_at "r"
    refine s_isiT qpp kit_same ?_
    walk_at "r"
    refine s_tyL (SqL.of ew2) ?_
    walk_at "r"
    refine s_ix_tup qb rfl ?_
    walk_at "r"
    have hsz : sizes (ts' ++ us) < sizes (ts' ++ [Tr.mk wd n us]) := by
      rw [sizes_app, sizes_app]
      have h2 := Tr.size_eq (.mk wd n us)
      have h5 : (Tr.mk wd n us).ps = us := rfl
      rw [h5] at h2
      show _ < sizes ts' + sizes [Tr.mk wd n us]
      rw [sizes, sizes]
      omega
    have hln := sizes_len (ts' ++ us)
    have hwl : wv'.length = ts'.length := al3.1
    rw [List.length_append] at hln
    refine ⟨pw, pp, wv', vs, rfl, rfl, ew2, qpp, by omega, ?_⟩
    have t3 : SameT H2 (upd H2 pw (.lst (wv' ++ vs))) := SameT.set ew2
    refine ⟨_, hsz, _, wv' ++ vs, ts' ++ us, rfl, upd_same, (al3.mono fun _ _ z => z.sameT (t1.trans t3)).append ⟨hl, fun j v y h1 h2 => (hch j v y h1 h2).sameT t3⟩, rfl, by omega, sm2.over hpw⟩
end
end K15

set_option Elab.async false
set_option linter.all false
set_option maxRecDepth 100000
set_option maxHeartbeats 4000000
namespace K15
open PySem L2 K19 K17
section
variable {P : Program} {w : World} {K : PySem.W.Frag} {mg : Str → Option Value} {base : Heap}
abbrev Rw := List Nat × Str × Dt × Nat
def sp_due (K : PySem.W.Frag) : Sp := fun vs H Q _ => ∃ (fa oa p : Addr) (fv ov : List V) (fr fo : List Rw) (pl : List Nat), vs = [.ref fa, .ref oa, .ref p] ∧ H fa = some (.lst fv) ∧ H oa = some (.lst ov) ∧ SqT K H p (plV pl) ∧ Al (FlAt K H) fv fr ∧ Al (FlAt K H) ov fo ∧ fr.length ≤ 2000 ∧ fo.length ≤ 2000 ∧ pl.length ≤ 2000 ∧ (∀ r ∈ fo, r.1.length ≤ 2000) ∧ (fr.filter fun r => decide (r.1 = pl)).length ≤ 1 ∧
  ∀ (q : Addr) (ws : List V) (H' : Hp), Same H H' → H q = none → H' q = some (.lst ws) → Al (FlAt K H') ws (fr.flatMap (dueR pl fo)) → Q (.ref q) H'
theorem sc_law_due : FnScope ["_law_flat_here", "_law_other", "_law_place", "_law_size", "_law_found", "_law_row", "_law_spot", "_law_word", "_law_note", "_law_many_here"] ["_law_flat_here", "_law_other", "_law_place"] (defScope s_law_due) := ⟨rfl, rfl, rfl, by decide +kernel, rfl, by decide +kernel, by decide +kernel⟩
theorem due_len {pl : List Nat} {fo : List Rw} : ∀ (fr : List Rw), (fr.filter fun r => decide (r.1 = pl)).length ≤ 1 → (fr.flatMap (dueR pl fo)).length ≤ fr.length + fo.length
  | [], _ => by simp
  | r :: q, h => by
    rw [List.flatMap_cons, List.length_append, List.length_cons]
    by_cases c : r.1 = pl
    · have hf : (q.filter fun r => decide (r.1 = pl)).length = 0 := by
        rw [List.filter_cons_of_pos (by simpa using c), List.length_cons] at h
        omega
      have e : (q.flatMap (dueR pl fo)).length ≤ q.length := by
        clear h
        induction q with
        | nil => simp
        | cons a b ih =>
          rw [List.flatMap_cons, List.length_append, List.length_cons]
          have ca : ¬ a.1 = pl := fun z => by rw [List.filter_cons_of_pos (by simpa using z), List.length_cons] at hf; omega
          rw [List.filter_cons_of_neg (by simpa using ca)] at hf
          have := ih hf
          have : (dueR pl fo a).length ≤ 1 := by unfold dueR; rw [if_neg ca]; split <;> simp
          omega
      have : (dueR pl fo r).length = fo.length := by unfold dueR; rw [if_pos c, List.length_map]
      omega
    · rw [List.filter_cons_of_neg (by simpa using c)] at h
      have := due_len (fo := fo) q h
      have : (dueR pl fo r).length ≤ 1 := by unfold dueR; rw [if_neg c]; split <;> simp
      omega
theorem plV_int (pl : List Nat) : plV pl = (pl.map fun i => ((i : Nat) : Int)).map V.int := by unfold plV; rw [List.map_map]; rfl
theorem plV_app (a b : List Nat) : plV a ++ plV b = plV (a ++ b) := by unfold plV; rw [List.map_append]
theorem plV_take (pl : List Nat) (k : Nat) : (plV pl).take k = plV (pl.take k) := by unfold plV; rw [List.map_take]
theorem ints_inj {a b : List Nat} (h : (a.map fun i => ((i : Nat) : Int)) = b.map fun i => ((i : Nat) : Int)) : a = b := by
  induction a generalizing b with
  | nil => cases b with
    | nil => rfl
    | cons y r => cases h
  | cons x q ih => cases b with
    | nil => cases h
    | cons y r =>
      rw [List.map_cons, List.map_cons] at h
      injection h with h1 h2
      rw [ih h2, Int.ofNat.inj h1]
theorem ok_due {f : Addr} {fd : FuncData} (F : Fun K "_law_due" "_law_due" s_law_due f fd) (T : Txt K mg) : FnOk P w K mg base CX0 1 f fd ["_law_flat_here", "_law_other", "_law_place"] (sp_due K) := by
  refine F.okq sc_law_due (fun vs H Q E h => ?_) (fun cdv A outer s H vs Q E hr h => ?_)
  · obtain ⟨fa, oa, p, fv, ov, fr, fo, pl, rfl, _⟩ := h
    rfl
  · obtain ⟨fa, oa, p, fv, ov, fr, fo, pl, rfl, efa, eoa, hp, alf, alo, lf, lo, lp, lfo, hone, q⟩ := h
    refine ⟨_, qss_cons (qs_set (i := 3) sc_law_due.nd rfl (Or.inl rfl) (qe_callB (k_len K) (by rfl) T.len (by decide +kernel) (qa_cons (qv 2) qa_nil)))
      (qss_cons (qs_set (i := 4) sc_law_due.nd rfl (Or.inl rfl) (qe_lst (qa_nil)))
      (qss_cons (qs_for PassesOwn.never rfl (qi_anyK K (qv 0)) (qg_name (i := 5) sc_law_due.nd rfl (Or.inl rfl)) (qss_one (qs_if (qt_cmpR (k_eqB K hr.u200) (qe_ix (k_ix K) (qv 5) (qe_int) (fun _ _ => rfl)) (qv 2) (nomark _)) (qss_one (qs_for PassesOwn.never rfl (qi_anyK K (qv 1)) (qg_tupK K (n := 4) rfl (qgs_cons (qg_name (i := 6) sc_law_due.nd rfl (Or.inl rfl)) (qgs_cons (qg_name (i := 7) sc_law_due.nd rfl (Or.inl rfl)) (qgs_cons (qg_name (i := 8) sc_law_due.nd rfl (Or.inl rfl)) (qgs_cons (qg_name (i := 9) sc_law_due.nd rfl (Or.inl rfl)) (qgs_nil)))))) (qss_one (qs_expr (qe_bmK K PySem.F.plainAttrs_list PySem.F.slot_list_append PySem.F.type_list_append mt_append (qv 4) (qa_cons (qe_tup (qa_cons (qe_op (k_add K) (qv 2) (qv 6)) (qa_cons (qv 7) (qa_cons (qv 8) (qa_cons (qv 9) qa_nil))))) qa_nil)))))) (qss_one (qs_if (qt_cmpR (k_neB K hr.u200) (qe_slice (k_slB K) (qe_ix (k_ix K) (qv 5) (qe_int) (fun _ _ => rfl)) (qo_none) (qo_some (qv 3))) (qv 2) (nomark _)) (qss_one (qs_expr (qe_bmK K PySem.F.plainAttrs_list PySem.F.slot_list_append PySem.F.type_list_append mt_append (qv 4) (qa_cons (qv 5) qa_nil)))) (qss_nil))))))
      (qss_one (qs_ret (qv 4))))), ?_⟩
    have bg := big
    have hsum := due_len (fo := fo) fr hone
    walk_at "r"
    refine s_len_tup hp ?_
    walk_at "r"
    refine ⟨by show 0 ≤ sizeLine; decide, fun q0 hq0 => ?_⟩
    have s1 : Same H (upd H q0 (.lst [])) := Same.upd hq0
    have e1 : upd H q0 (.lst []) q0 = some (.lst []) := upd_same
    revert s1 e1
    generalize upd H q0 (.lst []) = H1
    intro s1 e1
    walk_at "r"
    refine .inl ⟨fa, rfl, ⟨_, SqL.of (s1 _ _ efa)⟩, ?_⟩
    refine for_list (K := K) (a := fa) (xs := fv) (fun i σ' H' => ∃ w5 w6 w7 w8 w9 ws, σ' = [some (.ref fa), some (.ref oa), some (.ref p), some (.int (pl.length : Nat)), some (.ref q0), w5, w6, w7, w8, w9] ∧ H' q0 = some (.lst ws) ∧ Al (FlAt K H') ws ((fr.take i).flatMap (dueR pl fo)) ∧ Same H H') ⟨none, none, none, none, none, [], by rw [plV_len]; rfl, e1, Al.nil, s1⟩ ?_ ?_ ?_
    · rintro i σ' H' _ ⟨_, _, _, _, _, _, _, _, _, sm⟩
      exact SqL.of (sm _ _ efa)
    · rintro i x σ' H' hx ⟨w5, w6, w7, w8, w9, ws, rfl, e2, alw, sm⟩
      obtain ⟨r, hr', a, rp, nv, rfl, g1, g2, g3⟩ := alf.get hx
      have g1' := sm.tup g1
      have g2' := sm.tup g2
      have hp' := sm.tup hp
      have step : (fr.take (i + 1)).flatMap (dueR pl fo) = (fr.take i).flatMap (dueR pl fo) ++ dueR pl fo r := by
        rw [List.take_add_one, hr', List.flatMap_append]
        simp
      have hws : ws.length + (dueR pl fo r).length ≤ 4000 := by
        have h1 := alw.1
        have h2 : ((fr.take (i + 1)).flatMap (dueR pl fo)).length ≤ (fr.flatMap (dueR pl fo)).length := by
          conv => rhs; rw [← List.take_append_drop (i + 1) fr, List.flatMap_append, List.length_append]
          omega
        rw [step, List.length_append, ← h1] at h2
        omega
      walk_at "r"
      refine s_ix_tup g1' rfl ?_
      walk_at "r"
      rw [plV_int] at g2' hp'
      refine s_eqbI g2' hp' ?_
      walk_at "r"
      refine ite2 (fun c => ?_) (fun c => ?_)
      · have c : r.1 = pl := ints_inj (of_decide_eq_true c)
        have hdr : dueR pl fo r = fo.map fun x => (pl ++ x.1, x.2) := by unfold dueR; rw [if_pos c]
        rw [hdr, List.length_map] at hws
        walk_at "r"
        refine .inl ⟨oa, rfl, ⟨_, SqL.of (sm _ _ eoa)⟩, ?_⟩
        refine for_list (K := K) (a := oa) (xs := ov) (fun j σ5 H5 => ∃ w6 w7 w8 w9 us, σ5 = [some (.ref fa), some (.ref oa), some (.ref p), some (.int (pl.length : Nat)), some (.ref q0), some (.ref a), w6, w7, w8, w9] ∧ H5 q0 = some (.lst us) ∧ Al (FlAt K H5) us ((fr.take i).flatMap (dueR pl fo) ++ (fo.take j).map fun x => (pl ++ x.1, x.2)) ∧ Same H H5) ⟨_, _, _, _, ws, rfl, e2, by simpa using alw, sm⟩ ?_ ?_ ?_
        · rintro j σ5 H5 _ ⟨_, _, _, _, _, _, _, _, sm5⟩
          exact SqL.of (sm5 _ _ eoa)
        · rintro j y σ5 H5 hy ⟨w6', w7', w8', w9', us, rfl, e5, al5, sm5⟩
          obtain ⟨o, ho, a2, rp2, nv2, rfl, k1, k2, k3⟩ := alo.get hy
          have hj := (List.getElem?_eq_some_iff.mp ho).1
          have hus : us.length ≤ 4000 := by
            have h1 := al5.1
            have h2 := alw.1
            rw [List.length_append, List.length_map, List.length_take, ← h2] at h1
            omega
          have lo2 := lfo o (List.mem_of_getElem? ho)
          walk_at "r"
          refine s_gtup (sm5.tup k1) rfl ?_
          walk_at "r"
          refine s_tyL (SqL.of e5) ?_
          walk_at "r"
          refine s_add_tup (sm5.tup hp) (sm5.tup k2) (by rw [plV_len, plV_len]; omega) fun r9 H9 s9 q9 => ?_
          rw [plV_app] at q9
          walk_at "r"
          refine ⟨by show 4 ≤ sizeLine; decide, fun p10 h10 => ?_⟩
          walk_at "r"
          have s10 := s9.put (o := .tup [.ref r9, .str o.2.1, nv2, .int (o.2.2.2 : Nat)]) h10
          refine s_app (s10 _ _ e5) (by omega) ?_
          walk_at "r"
          have t10 := (SameT.new (o := .tup [.ref r9, .str o.2.1, nv2, .int (o.2.2.2 : Nat)]) h10).trans (SameT.set (o := .lst (us ++ [.ref p10])) (s10 _ _ e5))
          have t11 := s10.t.trans (SameT.set (o := .lst (us ++ [.ref p10])) (s10 _ _ e5))
          refine ⟨_, _, _, _, us ++ [.ref p10], rfl, upd_same, ?_, (sm5.trans s10).over hq0⟩
          rw [List.take_add_one, ho, List.map_append, ← List.append_assoc]
          exact (al5.mono (FlAt.same t11)).snoc ⟨p10, r9, nv2, rfl, (SameT.set (s10 _ _ e5)).tup (SqT.of upd_same), t10.tup q9, k3.same (sm5.t.trans t11)⟩
        · rintro σ5 H5 ⟨w6', w7', w8', w9', us, rfl, e5, al5, sm5⟩
          rw [alo.1, List.take_length] at al5
          refine ⟨_, _, _, _, _, us, rfl, e5, ?_, sm5⟩
          rw [step, hdr]
          exact al5
      · have c : ¬ r.1 = pl := fun e => c (by rw [e]; simp)
        walk_at "r"
        refine s_ix_tup g1' rfl ?_
        walk_at "r"
        refine s_slb_tup (sm.tup g2) fun r9 H9 s9 q9 => ?_
        rw [cutV_to, plV_take, plV_int] at q9
        walk_at "r"
        refine s_nebI q9 (s9.tup hp') ?_
        walk_at "r"
        refine ite2 (fun c2 => ?_) (fun c2 => ?_)
        · have c2 : r.1.take pl.length ≠ pl := fun e => by rw [e] at c2; simp at c2
          have hdr : dueR pl fo r = [r] := by unfold dueR; rw [if_neg c, if_pos c2]
          rw [hdr, List.length_singleton] at hws
          walk_at "r"
          refine s_tyL (SqL.of (s9 _ _ e2)) ?_
          walk_at "r"
          refine s_app (s9 _ _ e2) (by omega) ?_
          walk_at "r"
          have t11 := s9.t.trans (SameT.set (o := .lst (ws ++ [.ref a])) (s9 _ _ e2))
          refine ⟨_, _, _, _, _, ws ++ [.ref a], rfl, upd_same, ?_, (sm.trans s9).over hq0⟩
          rw [step, hdr]
          exact (alw.mono (FlAt.same t11)).snoc ⟨a, rp, nv, rfl, (sm.t.trans t11).tup g1, (sm.t.trans t11).tup g2, g3.same (sm.t.trans t11)⟩
        · have c2 : ¬ r.1.take pl.length ≠ pl := fun e => c2 (by simpa using fun z => e (ints_inj z))
          have hdr : dueR pl fo r = [] := by unfold dueR; rw [if_neg c, if_neg c2]
          walk_at "r"
          refine ⟨_, _, _, _, _, ws, rfl, s9 _ _ e2, ?_, sm.trans s9⟩
          rw [step, hdr, List.append_nil]
          exact alw.mono (FlAt.same s9.t)
    · rintro σ' H' ⟨w5, w6, w7, w8, w9, ws, rfl, e2, alw, sm⟩
      rw [alf.1, List.take_length] at alw
      walk_at "r"
      exact q q0 ws H' sm hq0 e2 alw
end
end K15

set_option Elab.async false
set_option linter.all false
set_option maxRecDepth 100000
set_option maxHeartbeats 4000000
namespace K15
open PySem L2 K19 K17
section
variable {P : Program} {w : World} {K : PySem.W.Frag} {mg : Str → Option Value} {base : Heap}
def sp_kinds (K : PySem.W.Frag) (C : Addr) : Sp := fun vs H Q _ => ∃ (a : Addr) (od : Option Addr), vs = [.ref a] ∧ H a = some (exk a (.ref C) od) ∧ (∀ d, od = some d → ∃ fs, H d = some (.xd fs)) ∧ ∀ (p : Addr) (H' : Hp), Same H H' → H' p = some (.tup [.bl true, .bl true, .bl true, .bl false]) → Q (.ref p) H'
theorem sc_law_kinds : FnScope ["_law_e", "_law_others"] ["_law_e"] (defScope s_law_kinds) := ⟨rfl, rfl, rfl, by decide +kernel, rfl, by decide +kernel, by decide +kernel⟩
structure KdC (K : PySem.W.Frag) (mg : Str → Option Value) (C GE ND NF PA CA : Addr) : Prop where
  n : ExN K C
  gC : mg "NoPlace" = some (.ref C)
  gG : mg "GapError" = some (.ref GE)
  gD : mg "NoDeed" = some (.ref ND)
  gF : mg "NoForm" = some (.ref NF)
  gP : mg "Parted" = some (.ref PA)
  gA : mg "Caught" = some (.ref CA)
  kG : PySem.W.kitOne K (.ref C) (.ref GE) = some true
  kV : PySem.W.kitOne K (.ref C) (.type "ValueError") = some true
  kD : PySem.W.kitOne K (.ref C) (.ref ND) = some false
  kF : PySem.W.kitOne K (.ref C) (.ref NF) = some false
  kP : PySem.W.kitOne K (.ref C) (.ref PA) = some false
  kA : PySem.W.kitOne K (.ref C) (.ref CA) = some false
theorem ok_kinds {N_NoPlace N_GapError N_NoDeed N_NoForm N_Parted N_Caught : Addr} {f : Addr} {fd : FuncData} (F : Fun K "_law_kinds" "_law_kinds" s_law_kinds f fd) (T : Txt K mg) (D : KdC K mg N_NoPlace N_GapError N_NoDeed N_NoForm N_Parted N_Caught) : FnOkN P w K mg base 1 f fd ["_law_e"] (sp_kinds K N_NoPlace) := by
  have G_NoPlace := D.gC
  have G_GapError := D.gG
  have G_NoDeed := D.gD
  have G_NoForm := D.gF
  have G_Parted := D.gP
  have G_Caught := D.gA
  have kit : PySem.W.kitOne K (.ref N_NoPlace) (.ref N_NoPlace) = some true := by unfold PySem.W.kitOne; rw [if_pos (by simp)]
  refine F.okN sc_law_kinds (fun vs H Q E h => ?_) (fun cdv A outer s H vs Q E hr h => ?_)
  · obtain ⟨a, od, rfl, _⟩ := h
    rfl
  · obtain ⟨a, od, rfl, e, hd, q⟩ := h
    refine ⟨_, qss_cons (qs_set (i := 1) sc_law_kinds.nd rfl (Or.inl rfl) (qe_or (qe_callB (k_isY (K := K)) (by rfl) T.isinstance (by decide +kernel) (qa_cons (qv 0) (qa_cons (qe_glob (v := .ref N_NoDeed) (by rfl) G_NoDeed rfl) qa_nil))) (qe_or (qe_callB (k_isY (K := K)) (by rfl) T.isinstance (by decide +kernel) (qa_cons (qv 0) (qa_cons (qe_glob (v := .ref N_NoForm) (by rfl) G_NoForm rfl) qa_nil))) (qe_or (qe_callB (k_isY (K := K)) (by rfl) T.isinstance (by decide +kernel) (qa_cons (qv 0) (qa_cons (qe_glob (v := .ref N_Parted) (by rfl) G_Parted rfl) qa_nil))) (qe_one (qe_callB (k_isY (K := K)) (by rfl) T.isinstance (by decide +kernel) (qa_cons (qv 0) (qa_cons (qe_glob (v := .ref N_Caught) (by rfl) G_Caught rfl) qa_nil))))))))
      (qss_one (qs_ret (qe_tup (qa_cons (qe_callB (k_isYT (K := K) "ValueError") (by rfl) T.isinstance (by decide +kernel) (qa_cons (qv 0) (qa_cons (qe_bltn (v := .ty "ValueError") (by rfl) T.ValueError (by decide +kernel) rfl) qa_nil))) (qa_cons (qe_callB (k_isY (K := K)) (by rfl) T.isinstance (by decide +kernel) (qa_cons (qv 0) (qa_cons (qe_glob (v := .ref N_GapError) (by rfl) G_GapError rfl) qa_nil))) (qa_cons (qe_callB (k_isY (K := K)) (by rfl) T.isinstance (by decide +kernel) (qa_cons (qv 0) (qa_cons (qe_glob (v := .ref N_NoPlace) (by rfl) G_NoPlace rfl) qa_nil))) (qa_cons (qv 1) qa_nil))))))), ?_⟩
    walk_at "r"
    refine ⟨a, _, _, od, _, rfl, e, hd, D.n, D.kD, ?_⟩
    walk_at "r"
    refine ⟨a, _, _, od, _, rfl, e, hd, D.n, D.kF, ?_⟩
    walk_at "r"
    refine ⟨a, _, _, od, _, rfl, e, hd, D.n, D.kP, ?_⟩
    walk_at "r"
    refine ⟨a, _, _, od, _, rfl, e, hd, D.n, D.kA, ?_⟩
    walk_at "r"
    refine ⟨a, _, od, _, rfl, e, hd, D.n, D.kV, ?_⟩
    walk_at "r"
    refine ⟨a, _, _, od, _, rfl, e, hd, D.n, D.kG, ?_⟩
    walk_at "r"
    refine ⟨a, _, _, od, _, rfl, e, hd, D.n, kit, ?_⟩
    walk_at "r"
    refine ⟨by show 4 ≤ sizeLine; decide, fun p hp => ?_⟩
    exact q p _ (Same.upd hp) upd_same
end
end K15

set_option Elab.async false
set_option linter.all false
set_option maxRecDepth 100000
set_option maxHeartbeats 4000000
namespace K15
open PySem L2 K19 K17
section
variable {P : Program} {w : World} {K : PySem.W.Frag} {mg : Str → Option Value} {base : Heap}
theorem bad_flat {pl : List Nat} {far : Int} {rest : List V} (hr : ∀ v ∈ rest, ∃ k, v = V.int k) : ∀ v ∈ badV pl far rest, flatV v = true := by
  intro v hv
  unfold badV plV at hv
  rcases List.mem_append.mp hv with h | h
  · obtain ⟨k, _, rfl⟩ := List.mem_map.mp h
    rfl
  · rcases List.mem_cons.mp h with rfl | h
    · rfl
    · obtain ⟨k, rfl⟩ := hr v h
      rfl
theorem flat_isD {H : Hp} {p : Addr} {xs : List V} (q : SqT K H p xs) (h : ∀ v ∈ xs, flatV v = true) : IsD K H 1 (.ref p) (.tup (xs.map Dt.flat)) := by
  refine .tup q (by simp) fun j v d h1 h2 => ?_
  rw [List.getElem?_map, h1] at h2
  cases h2
  exact .flat (h v (List.mem_of_getElem? h1))
theorem kd_isD {H : Hp} {a k p : Addr} {d : Dt} (q : SqT K H a [.ref k, .ref p]) (qk : SqT K H k [.bl true, .bl true, .bl true, .bl false]) (h : IsD K H 1 (.ref p) d) : IsD K H 2 (.ref a) (.tup [.tup ([V.bl true, .bl true, .bl true, .bl false].map Dt.flat), d]) := by
  refine .tup q rfl fun j v d h1 h2 => ?_
  match j, h1, h2 with
  | 0, h1, h2 => cases h1; cases h2; exact flat_isD qk (by decide)
  | 1, h1, h2 => cases h1; cases h2; exact h
def sp_refused (K : PySem.W.Frag) : Sp := fun vs H Q _ => ∃ (tv : V) (t : Tr) (p : Addr) (pl : List Nat) (far : Int) (rest : List V) (ov : V), vs = [tv, .ref p, ov] ∧ TrAt K H tv t ∧ SqT K H p (badV pl far rest) ∧ Bad t pl far ∧ pl.length ≤ 1000 ∧ (∀ v ∈ rest, ∃ k, v = V.int k) ∧ ∀ H', Same H H' → Q (.bl true) H'
theorem sc_law_refused : FnScope ["_law_tree_here", "_law_place", "_law_other", "_law_one", "_law_two", "_law_e", "_law_due_here"] ["_law_tree_here", "_law_place", "_law_other"] (defScope s_law_refused) := ⟨rfl, rfl, rfl, by decide +kernel, rfl, by decide +kernel, by decide +kernel⟩
theorem ok_refused {C : Addr} {f : Addr} {fd : FuncData} (F : Fun K "_law_refused" "_law_refused" s_law_refused f fd) (T : Txt K mg) (C_form_at : CalleeX P w K mg base 4 "form_at" ["tree", "place"] (sp_downX K C)) (C_with_at : CalleeX P w K mg base 4 "with_at" ["tree", "place", "form"] (sp_watX K C)) (C__law_kinds : CalleeN P w K mg base 1 "_law_kinds" ["_law_e"] (sp_kinds K C))
    (X_NoPlace : ExcC K C) (G_NoPlace : mg "NoPlace" = some (.ref C)) (hsub : PySem.W.subIn K (.ref C) (.ref C) = some true) (xC : ExC K C) (nA : NoAttr K C "place") : FnOk P w K mg base CX0 5 f fd ["_law_tree_here", "_law_place", "_law_other"] (sp_refused K) := by
  refine F.okq sc_law_refused (fun vs H Q E h => ?_) (fun cdv A outer s H vs Q E hr h => ?_)
  · obtain ⟨tv, t, p, pl, far, rest, ov, rfl, _⟩ := h
    rfl
  · obtain ⟨tv, t, p, pl, far, rest, ov, rfl, ht, hp, hb, hl, hrest, q⟩ := h
    refine ⟨_, qss_cons (qs_set (i := 3) sc_law_refused.nd rfl (Or.inl rfl) (qe_non))
      (qss_cons (qs_set (i := 4) sc_law_refused.nd rfl (Or.inl rfl) (qe_non))
      (qss_cons (qs_tryM (i := 5) sc_law_refused.nd rfl rfl X_NoPlace G_NoPlace rfl rfl (qxs_expr (qx_fn C_form_at (hr.mono (by decide)) (fun _ => qa_cons (qv 0) (qa_cons (qv 1) qa_nil)))) (fun _ _ => qss_one (qs_set (i := 3) sc_law_refused.nd rfl (Or.inl rfl) (qe_tup (qa_cons (qe_fnN C__law_kinds (RoomN.mark (RoomN.mono (Room.n hr) (by decide)) _) (qa_cons (qv 5) qa_nil)) (qa_cons (qe_xgetK K (qv 5)) qa_nil))))))
      (qss_cons (qs_tryM (i := 5) sc_law_refused.nd rfl rfl X_NoPlace G_NoPlace rfl rfl (qxs_expr (qx_fn C_with_at (hr.mono (by decide)) (fun _ => qa_cons (qv 0) (qa_cons (qv 1) (qa_cons (qv 2) qa_nil))))) (fun _ _ => qss_one (qs_set (i := 4) sc_law_refused.nd rfl (Or.inl rfl) (qe_tup (qa_cons (qe_fnN C__law_kinds (RoomN.mark (RoomN.mono (Room.n hr) (by decide)) _) (qa_cons (qv 5) qa_nil)) (qa_cons (qe_xgetK K (qv 5)) qa_nil))))))
      (qss_cons (qs_set (i := 6) sc_law_refused.nd rfl (Or.inl rfl) (qe_tup (qa_cons (qe_tup (qa_consts (xs := [.bl true, .bl true, .bl true, .bl false]) rfl)) (qa_cons (qv 1) qa_nil))))
      (qss_one (qs_ret (qe_and (qe_cmpR (k_eqB K hr.u200) (qv 3) (qv 6) (nomark _)) (qe_one (qe_cmpR (k_eqB K hr.u200) (qv 4) (qv 6) (nomark _)))))))))), ?_⟩
    walk_at "r"
    refine ⟨tv, rfl, .ref p, rfl, ?_⟩
    refine ⟨tv, t, p, pl, far, rest, rfl, ht, hp, hb, hl, fun d1 G1 g1 e1 => ⟨⟨C, rfl, hsub⟩, fun a1 ha1 => ?_⟩⟩
    have nd1 : d1 ≠ a1 := ne_of_none e1 ha1
    have ed1 : upd G1 a1 (exk a1 (.ref C) (some d1)) d1 = some (.xd [("place", .ref p)]) := by rw [upd_ne nd1]; exact e1
    walk_at "r"
    refine ⟨a1, some d1, rfl, upd_same, (fun d hd => by cases hd; exact ⟨_, ed1⟩), fun k1 Y1 y1 f1 => ?_⟩
    walk_at "r"
    refine ⟨_, rfl, a1, C, d1, _, _, rfl, y1 _ _ upd_same, y1 _ _ ed1, xC, nA, rfl, ?_⟩
    walk_at "r"
    refine ⟨by show 2 ≤ sizeLine; decide, fun p1 hp1 => ?_⟩
    walk_at "r"
    dsimp only [Ends.gone]
    have s1 : Same H (upd Y1 p1 (.tup [.ref k1, .ref p])) := (g1.trans ((Same.upd ha1).trans (y1.put hp1)))
    have t1 : SqT K (upd Y1 p1 (.tup [.ref k1, .ref p])) p1 [.ref k1, .ref p] := SqT.of upd_same
    have u1 : Same H (upd Y1 p1 (.tup [.ref k1, .ref p])) := g1.trans ((Same.upd ha1).trans (y1.put hp1))
    have v1 : SqT K (upd Y1 p1 (.tup [.ref k1, .ref p])) k1 [.bl true, .bl true, .bl true, .bl false] := SqT.of (Same.upd hp1 _ _ f1)
    revert s1 t1 u1 v1
    generalize upd Y1 p1 (.tup [.ref k1, .ref p]) = X1
    intro s1 t1 u1 v1
    walk_at "r"
    refine ⟨tv, rfl, .ref p, rfl, ov, rfl, ?_⟩
    refine ⟨tv, t, p, pl, far, rest, _, rfl, ht.same s1, s1.tup hp, hb, hl, fun d2 G2 g2 e2 => ⟨⟨C, rfl, hsub⟩, fun a2 ha2 => ?_⟩⟩
    have nd2 : d2 ≠ a2 := ne_of_none e2 ha2
    have ed2 : upd G2 a2 (exk a2 (.ref C) (some d2)) d2 = some (.xd [("place", .ref p)]) := by rw [upd_ne nd2]; exact e2
    walk_at "r"
    refine ⟨a2, some d2, rfl, upd_same, (fun d hd => by cases hd; exact ⟨_, ed2⟩), fun k2 Y2 y2 f2 => ?_⟩
    walk_at "r"
    refine ⟨_, rfl, a2, C, d2, _, _, rfl, y2 _ _ upd_same, y2 _ _ ed2, xC, nA, rfl, ?_⟩
    walk_at "r"
    refine ⟨by show 2 ≤ sizeLine; decide, fun p2 hp2 => ?_⟩
    walk_at "r"
    dsimp only [Ends.gone]
    have s2 : Same H (upd Y2 p2 (.tup [.ref k2, .ref p])) := s1.trans (g2.trans ((Same.upd ha2).trans (y2.put hp2)))
    have t2 : SqT K (upd Y2 p2 (.tup [.ref k2, .ref p])) p2 [.ref k2, .ref p] := SqT.of upd_same
    have u2 : Same X1 (upd Y2 p2 (.tup [.ref k2, .ref p])) := g2.trans ((Same.upd ha2).trans (y2.put hp2))
    have v2 : SqT K (upd Y2 p2 (.tup [.ref k2, .ref p])) k2 [.bl true, .bl true, .bl true, .bl false] := SqT.of (Same.upd hp2 _ _ f2)
    revert s2 t2 u2 v2
    generalize upd Y2 p2 (.tup [.ref k2, .ref p]) = X2
    intro s2 t2 u2 v2
    walk_at "r"
    refine ⟨by show 4 ≤ sizeLine; decide, fun k3 h3 => ?_⟩
    walk_at "r"
    refine ⟨by show 2 ≤ sizeLine; decide, fun p3 h4 => ?_⟩
    have z2 := Same.upd (o := .tup [.ref k3, .ref p]) h4
    have z1 := (Same.upd (o := .tup [.bl true, .bl true, .bl true, .bl false]) h3).trans z2
    have f3 := z2 k3 _ (upd_same (H := X2) (o := .tup [.bl true, .bl true, .bl true, .bl false]))
    have f4 : upd (upd X2 k3 (.tup [.bl true, .bl true, .bl true, .bl false])) p3 (.tup [.ref k3, .ref p]) p3 = some (.tup [.ref k3, .ref p]) := upd_same
    revert z1 f3 f4
    generalize upd (upd X2 k3 (.tup [.bl true, .bl true, .bl true, .bl false])) p3 (.tup [.ref k3, .ref p]) = X3
    intro z1 f3 f4
    have pD := flat_isD ((s2.trans z1).tup hp) (bad_flat hrest)
    have dD := kd_isD (SqT.of f4) (SqT.of f3) pD
    walk_at "r"
    refine s_eqbD (n := 2) (by decide) (kd_isD ((u2.trans z1).tup t1) ((u2.trans z1).tup v1) pD) dD ?_
    walk_at "r"
    refine s_eqbD (n := 2) (by decide) (kd_isD (z1.tup t2) (z1.tup v2) pD) dD ?_
    exact q _ (s2.trans z1)
end
end K15

set_option Elab.async false
set_option linter.all false
set_option maxRecDepth 100000
set_option maxHeartbeats 4000000
namespace K15
open PySem L2 K19 K17
section
variable {P : Program} {w : World} {K : PySem.W.Frag} {mg : Str → Option Value} {base : Heap}
theorem cut_len (ns : List Int) (i j : Nat) : ∃ ms : List Int, cutV (ns.map V.int) (some (i : Int)) (some (j : Int)) = ms.map V.int ∧ ms.length ≤ j - i ∧ ms.length ≤ ns.length := by
  unfold cutV
  rw [List.length_map, ← List.map_drop, ← List.map_take, HT.sIx_nat, HT.sIx_nat]
  exact ⟨_, rfl, by rw [List.length_take, List.length_drop]; omega, by rw [List.length_take, List.length_drop]; omega⟩
theorem fl_len (t : Tr) : (fl t).length = t.size := by unfold fl; rw [List.length_map, walk_len]
theorem with_size {t f : Tr} {pl : List Nat} (s : Sub t pl) : (withAt t pl f).size ≤ t.size + f.size := by
  rw [← fl_len, fl_with s, ← fl_len t, ← fl_len f]
  exact due_len _ (fl_one t pl)
theorem fl_depth (t : Tr) : ∀ r ∈ fl t, r.1.length ≤ t.size := by
  intro r hr
  unfold fl at hr
  obtain ⟨x, hx, rfl⟩ := List.mem_map.mp hr
  have := walk_depth [] t x hx
  simp at this
  show x.1.length ≤ _
  omega
def rwD (r : Rw) : Dt := .tup [.tup (r.1.map fun i => .flat (.int ((i : Nat) : Int))), .flat (.str r.2.1), r.2.2.1, .flat (.int (r.2.2.2 : Nat))]
theorem fl_isD {K : PySem.W.Frag} {H : Hp} {v : V} {r : Rw} (h : FlAt K H v r) : IsD K H 2 v (rwD r) := by
  obtain ⟨a, p, nv, rfl, q, qp, hn⟩ := h
  refine .tup q rfl fun j v d h1 h2 => ?_
  match j, h1, h2 with
  | 0, h1, h2 =>
    cases h1; cases h2
    refine .tup qp (by simp [plV]) fun j v d h1 h2 => ?_
    unfold plV at h1
    rw [List.getElem?_map] at h1 h2
    obtain ⟨k, hk, rfl⟩ := Option.map_eq_some_iff.mp h1
    rw [hk] at h2
    cases h2
    exact .flat rfl
  | 1, h1, h2 => cases h1; cases h2; exact .flat rfl
  | 2, h1, h2 => cases h1; cases h2; exact hn.d
  | 3, h1, h2 => cases h1; cases h2; exact .flat rfl
theorem fls_isD {K : PySem.W.Frag} {H : Hp} {a : Addr} {ws : List V} {fr : List Rw} (e : H a = some (.lst ws)) (al : Al (FlAt K H) ws fr) : IsD K H 3 (.ref a) (.lst (fr.map rwD)) := by
  refine .lst (SqL.of e) (by rw [List.length_map]; exact al.1) fun j v d h1 h2 => ?_
  rw [List.getElem?_map] at h2
  obtain ⟨r, hr, rfl⟩ := Option.map_eq_some_iff.mp h2
  exact fl_isD (al.2 j v r h1 hr)
theorem tr_ref {K : PySem.W.Frag} {H : Hp} {v : V} {t : Tr} (h : TrAt K H v t) : ∃ (b : Addr) (xs : List V), v = .ref b ∧ SqT K H b xs := by
  cases h with
  | mk q _ _ _ _ => exact ⟨_, _, rfl, q⟩
def sp_law (K : PySem.W.Frag) : Sp := fun vs H Q _ => ∃ (a : Addr) (ns : List Int), vs = [.ref a] ∧ SqL K H a (ns.map V.int) ∧ ns.length ≤ 63 ∧ ∀ H', Q (.bl true) H'
theorem sc_law : FnScope ["_law_script", "_law_names_here", "_law_tree_here", "_law_other", "_law_flat_here", "_law_place", "_law_form", "_law_found", "_law_under", "_law_cells", "_law_cell_here", "_law_row", "_law_bad"] ["_law_script"] (defScope s_law) := ⟨rfl, rfl, rfl, by decide +kernel, rfl, by decide +kernel, by decide +kernel⟩
theorem ok_law {f : Addr} {fd : FuncData} (F : Fun K "law" "law" s_law f fd) (T : Txt K mg) (C__law_names : Callee P w K mg base 1 "_law_names" ["_law_one", "_law_other"] sp_names) (C__law_cell : Callee P w K mg base 1 "_law_cell" ["_law_script", "_law_k"] (sp_cell K)) (C__law_tree : Callee P w K mg base 3 "_law_tree" ["_law_cells", "_law_names_here"] (sp_tree K))
    (C__law_flat : Callee P w K mg base 2 "_law_flat" ["_law_tree_here"] (sp_flat K)) (C__law_walk : Callee P w K mg base 1 "_law_walk" ["_law_tree_here"] (sp_placed K)) (C_form_at : Callee P w K mg base 4 "form_at" ["tree", "place"] (sp_fat K)) (C_with_at : Callee P w K mg base 4 "with_at" ["tree", "place", "form"] (sp_withat K))
    (C__law_is_tree : Callee P w K mg base 1 "_law_is_tree" ["_law_found"] (sp_istree K)) (C__law_due : Callee P w K mg base 1 "_law_due" ["_law_flat_here", "_law_other", "_law_place"] (sp_due K)) (C__law_no_place : Callee P w K mg base 1 "_law_no_place" ["_law_place", "_law_many_here", "_law_cell_here"] (sp_nopl K)) (C__law_refused : Callee P w K mg base 5 "_law_refused" ["_law_tree_here", "_law_place", "_law_other"] (sp_refused K)) : FnOk P w K mg base CX0 6 f fd ["_law_script"] (sp_law K) := by
  refine F.okq sc_law (fun vs H Q E h => ?_) (fun cdv A outer s H vs Q E hr h => ?_)
  · obtain ⟨a, ns, rfl, _⟩ := h
    rfl
  · obtain ⟨a, ns, rfl, hS, hn, q⟩ := h
    have S : Script K H a := ⟨ns, hS, hn⟩
    refine ⟨_, qss_cons (qs_set (i := 1) sc_law.nd rfl (Or.inl rfl) (qe_fn C__law_names (hr.mono (by decide)) (qa_cons (qe_fn C__law_cell (hr.mono (by decide)) (qa_cons (qv 0) (qa_cons (qe_int) qa_nil))) (qa_cons (qe_fn C__law_cell (hr.mono (by decide)) (qa_cons (qv 0) (qa_cons (qe_int) qa_nil))) qa_nil))))
      (qss_cons (qs_set (i := 2) sc_law.nd rfl (Or.inl rfl) (qe_fn C__law_tree (hr.mono (by decide)) (qa_cons (qe_slice (k_sl K) (qv 0) (qo_some (qe_int)) (qo_some (qe_int))) (qa_cons (qv 1) qa_nil))))
      (qss_cons (qs_set (i := 3) sc_law.nd rfl (Or.inl rfl) (qe_fn C__law_tree (hr.mono (by decide)) (qa_cons (qe_slice (k_sl K) (qv 0) (qo_some (qe_int)) (qo_some (qe_int))) (qa_cons (qv 1) qa_nil))))
      (qss_cons (qs_set (i := 4) sc_law.nd rfl (Or.inl rfl) (qe_fn C__law_flat (hr.mono (by decide)) (qa_cons (qv 2) qa_nil)))
      (qss_cons (qs_for PassesOwn.never rfl (qi_anyK K (qe_fn C__law_walk (hr.mono (by decide)) (qa_cons (qv 2) qa_nil))) (qg_tupK K (n := 2) rfl (qgs_cons (qg_name (i := 5) sc_law.nd rfl (Or.inl rfl)) (qgs_cons (qg_name (i := 6) sc_law.nd rfl (Or.inl rfl)) (qgs_nil)))) (qss_cons (qs_set (i := 7) sc_law.nd rfl (Or.inl rfl) (qe_fn C_form_at (hr.mono (by decide)) (qa_cons (qv 2) (qa_cons (qv 5) qa_nil))))
      (qss_one (qs_if (QW.qt (qw_or (qt_not (qt_val (qe_callB (k_isi K "tuple") (by rfl) T.isinstance (by decide +kernel) (qa_cons (qv 7) (qa_cons (qe_bltn (v := .ty "tuple") (by rfl) T.tuple (by decide +kernel) rfl) qa_nil))))) (qw_or1 (qt_cmpR (k_ne K hr.u200) (qv 7) (qv 6) (nomark _))))) (qss_one (qs_ret (qe_bl))) (qss_nil)))))
      (qss_cons (qs_set (i := 8) sc_law.nd rfl (Or.inl rfl) (qe_fn C__law_flat (hr.mono (by decide)) (qa_cons (qv 3) qa_nil)))
      (qss_cons (qs_set (i := 9) sc_law.nd rfl (Or.inl rfl) (qe_op (k_add K) (qe_lst (qa_cons (qe_fn C__law_cell (hr.mono (by decide)) (qa_cons (qv 0) (qa_cons (qe_int) qa_nil))) (qa_cons (qe_fn C__law_cell (hr.mono (by decide)) (qa_cons (qv 0) (qa_cons (qe_int) qa_nil))) qa_nil))) (qe_slice (k_sl K) (qv 0) (qo_some (qe_int)) (qo_some (qe_int)))))
      (qss_cons (qs_for PassesOwn.never rfl (qi_anyK K (qv 9)) (qg_name (i := 10) sc_law.nd rfl (Or.inl rfl)) (qss_cons (qs_set (i := 11) sc_law.nd rfl (Or.inl rfl) (qe_ix (k_ix K) (qv 4) (qe_op op_mod (qv 10) (qe_callB (k_len K) (by rfl) T.len (by decide +kernel) (qa_cons (qv 4) qa_nil))) (fun _ _ => rfl)))
      (qss_cons (qs_set (i := 7) sc_law.nd rfl (Or.inl rfl) (qe_fn C_with_at (hr.mono (by decide)) (qa_cons (qv 2) (qa_cons (qe_ix (k_ix K) (qv 11) (qe_int) (fun _ _ => rfl)) (qa_cons (qv 3) qa_nil)))))
      (qss_cons (qs_if (QW.qt (qw_or (qt_not (qt_val (qe_fn C__law_is_tree (hr.mono (by decide)) (qa_cons (qv 7) qa_nil)))) (qw_or1 (qt_cmpR (k_ne K hr.u200) (qe_fn C__law_flat (hr.mono (by decide)) (qa_cons (qv 7) qa_nil)) (qe_fn C__law_due (hr.mono (by decide)) (qa_cons (qv 4) (qa_cons (qv 8) (qa_cons (qe_ix (k_ix K) (qv 11) (qe_int) (fun _ _ => rfl)) qa_nil)))) (nomark _))))) (qss_one (qs_ret (qe_bl))) (qss_nil))
      (qss_cons (qs_set (i := 12) sc_law.nd rfl (Or.inl rfl) (qe_fn C__law_no_place (hr.mono (by decide)) (qa_cons (qe_ix (k_ix K) (qv 11) (qe_int) (fun _ _ => rfl)) (qa_cons (qe_ix (k_ix K) (qv 11) (qe_int) (fun _ _ => rfl)) (qa_cons (qe_op (k_add K) (qe_op op_mod (qe_op op_mulA (qv 10) (qe_int)) (qe_int)) (qe_op op_fdiv (qv 10) (qe_int))) qa_nil)))))
      (qss_one (qs_if (QW.qt (qw_or (qt_not (qt_val (qe_fn C__law_refused (hr.mono (by decide)) (qa_cons (qv 2) (qa_cons (qv 12) (qa_cons (qv 3) qa_nil)))))) (qw_or1 (qt_cmpR (k_ne K hr.u200) (qe_fn C_with_at (hr.mono (by decide)) (qa_cons (qv 2) (qa_cons (qe_ix (k_ix K) (qv 11) (qe_int) (fun _ _ => rfl)) (qa_cons (qv 3) qa_nil)))) (qv 7) (nomark _))))) (qss_one (qs_ret (qe_bl))) (qss_nil))))))))
      (qss_one (qs_ret (qe_bl)))))))))), ?_⟩
    have bg := big
    walk_at "r"
    refine ⟨a, 0, rfl, S, by decide, fun z0 => ?_⟩
    walk_at "r"
    refine ⟨a, 1, rfl, S, by decide, fun z1 => ?_⟩
    walk_at "r"
    refine ⟨z0, z1, rfl, fun p t0 t1 t2 H1 s1 hp0 hp => ?_⟩
    walk_at "r"
    refine s_sl_lst (s1.seq hS) fun pc hpc => ?_
    obtain ⟨ms, hm, hml, hml'⟩ := cut_len ns 4 24
    have hm : cutV (ns.map V.int) (some 4) (some 24) = ms.map V.int := hm
    rw [hm]
    have s2 : Same H1 (upd H1 pc (.lst (ms.map V.int))) := Same.upd hpc
    have e2 : upd H1 pc (.lst (ms.map V.int)) pc = some (.lst (ms.map V.int)) := upd_same
    revert s2 e2
    generalize upd H1 pc (.lst (ms.map V.int)) = H2
    intro s2 e2
    walk_at "r"
    refine ⟨pc, p, ms, t0, t1, t2, rfl, SqL.of e2, by omega, SqL.of (s2 _ _ hp), fun tv t H3 s3 htv hts htz htd => ?_⟩
    have sm3 := s1.trans (s2.trans s3)
    have hp3 := (s2.trans s3) _ _ hp
    walk_at "r"
    refine s_sl_lst (sm3.seq hS) fun pd hpd => ?_
    obtain ⟨ks, hk, hkl, hkl'⟩ := cut_len ns 24 34
    have hk : cutV (ns.map V.int) (some 24) (some 34) = ks.map V.int := hk
    rw [hk]
    have s4 : Same H3 (upd H3 pd (.lst (ks.map V.int))) := Same.upd hpd
    have e4 : upd H3 pd (.lst (ks.map V.int)) pd = some (.lst (ks.map V.int)) := upd_same
    revert s4 e4
    generalize upd H3 pd (.lst (ks.map V.int)) = H4
    intro s4 e4
    walk_at "r"
    refine ⟨pd, p, ks, t0, t1, t2, rfl, SqL.of e4, by omega, SqL.of (s4 _ _ hp3), fun ov o H5 s5 hov hos hoz hod => ?_⟩
    have htv5 := htv.same (s4.trans s5)
    have sm5 := sm3.trans (s4.trans s5)
    walk_at "r"
    refine ⟨tv, t, rfl, htv5, by omega, fun fa fv H6 s6 hfa ef alf => ?_⟩
    walk_at "r"
    refine ⟨tv, t, rfl, htv5.same s6, by omega, fun pr rows H7 s7 hpr er al => ?_⟩
    refine .inl ⟨pr, rfl, ⟨_, SqL.of er⟩, ?_⟩
    have htv7 := htv5.same (s6.trans s7)
    have hov7 := hov.same (s6.trans s7)
    refine for_list (K := K) (a := pr) (xs := rows) (fun i σ' H' => ∃ w5 w6 w7, σ' = [some (.ref a), some (.ref p), some tv, some ov, some (.ref fa), w5, w6, w7, none, none, none, none, none] ∧ Same H7 H') ⟨none, none, none, rfl, Same.refl _⟩ ?_ ?_ ?_
    · rintro i σ' H' _ ⟨_, _, _, _, sm⟩
      exact SqL.of (sm _ _ er)
    · rintro i x σ' H' hx ⟨w5, w6, w7, rfl, sm⟩
      obtain ⟨⟨pl, tx⟩, hy, ra, rp, u, rfl, g1, g2, g3⟩ := al.get hx
      have my := List.mem_of_getElem? hy
      have w3 : pl.length + 1 ≤ 0 + t.size := walk_depth [] t _ my
      have hpt := walk_form t _ my
      have hsub := walk_sub t _ my
      have hdx : dep tx ≤ dep t := path_dep hsub _ (List.mem_of_getElem? hpt)
      refine s_gtup (sm.tup g1) rfl ?_
      walk_at "r"
      refine ⟨tv, t, rp, pl, tx, rfl, htv7.same sm, sm.tup g2, hsub, by omega, hpt, fun fu H8 s8 hfu => ?_⟩
      have g3 : TrAt K H7 u tx := g3
      have g3' := g3.same (sm.trans s8)
      obtain ⟨b, xb, rfl, qb⟩ := tr_ref hfu
      obtain ⟨c, xc, rfl, qc⟩ := tr_ref g3'
      walk_at "r"
      refine s_isiT qb rfl ?_
      walk_at "r"
      refine s_neD (n := 190) (Nat.le_refl _) (tr_isD hfu (by omega)) (tr_isD g3' (by omega)) ?_
      walk_at "r"
      exact ⟨_, _, _, rfl, sm.trans s8⟩
    rintro σ' H8 ⟨w5, w6, w7, rfl, sm8⟩
    have htv8 := htv7.same sm8
    have hov8 := hov7.same sm8
    have ef8 := (s7.trans sm8) _ _ ef
    have alf8 := alf.mono (FlAt.same (s7.trans sm8).t)
    have S8 := S.same (sm5.trans (s6.trans (s7.trans sm8)))
    have hS8 := (sm5.trans (s6.trans (s7.trans sm8))).seq hS
    have hfl := fl_len t
    have hfo := fl_len o
    have hpos : 1 ≤ t.size := by rw [t.size_eq]; omega
    walk_at "r"
    refine ⟨ov, o, rfl, hov8, by omega, fun ua uv H9 s9 hua eu alu => ?_⟩
    walk_at "r"
    refine ⟨a, 2, rfl, S8.same s9, by decide, fun c2 => ?_⟩
    walk_at "r"
    refine ⟨a, 3, rfl, S8.same s9, by decide, fun c3 => ?_⟩
    walk_at "r"
    refine ⟨by show 2 ≤ sizeLine; decide, fun p10 h10 => ?_⟩
    have s10 := Same.upd (o := .lst [.int c2, .int c3]) h10
    walk_at "r"
    refine s_sl_lst ((s9.trans s10).seq hS8) fun p11 h11 => ?_
    obtain ⟨js, hj, hjl, hjl'⟩ := cut_len ns 34 38
    have hj : cutV (ns.map V.int) (some 34) (some 38) = js.map V.int := hj
    rw [hj]
    have s11 := Same.upd (o := .lst (js.map V.int)) h11
    have e11 : upd (upd H9 p10 (.lst [.int c2, .int c3])) p11 (.lst (js.map V.int)) p11 = some (.lst (js.map V.int)) := upd_same
    refine s_add_lst (s11 _ _ upd_same) e11 (by simp; omega) fun p12 h12 => ?_
    have ecs : [V.int c2, V.int c3] ++ js.map V.int = (c2 :: c3 :: js).map V.int := rfl
    rw [ecs]
    have s12 := s10.trans (s11.put (o := .lst ((c2 :: c3 :: js).map V.int)) h12)
    have e12 : upd (upd (upd H9 p10 (.lst [.int c2, .int c3])) p11 (.lst (js.map V.int))) p12 (.lst ((c2 :: c3 :: js).map V.int)) p12 = some (.lst ((c2 :: c3 :: js).map V.int)) := upd_same
    revert s12 e12
    generalize upd (upd (upd H9 p10 (.lst [.int c2, .int c3])) p11 (.lst (js.map V.int))) p12 (.lst ((c2 :: c3 :: js).map V.int)) = H12
    intro s12 e12
    clear s10 s11 e11
    have htv12 := htv8.same (s9.trans s12)
    have hov12 := hov8.same (s9.trans s12)
    have ef12 := (s9.trans s12) _ _ ef8
    have alf12 := alf8.mono (FlAt.same (s9.trans s12).t)
    have eu12 := s12 _ _ eu
    have alu12 := alu.mono (FlAt.same s12.t)
    walk_at "r"
    refine .inl ⟨p12, rfl, ⟨_, SqL.of e12⟩, ?_⟩
    refine for_list (K := K) (a := p12) (xs := (c2 :: c3 :: js).map V.int) (fun i σ' H' => ∃ w7 w10 w11 w12, σ' = [some (.ref a), some (.ref p), some tv, some ov, some (.ref fa), w5, w6, w7, some (.ref ua), some (.ref p12), w10, w11, w12] ∧ Same H12 H') ⟨_, none, none, none, rfl, Same.refl _⟩ ?_ ?_ ?_
    · rintro i σ' H' _ ⟨_, _, _, _, _, sm⟩
      exact SqL.of (sm _ _ e12)
    · rintro i x σ' H' hx ⟨w7, w10, w11, w12, rfl, sm⟩
      obtain ⟨z, _, rfl⟩ := List.mem_map.mp (List.mem_of_getElem? hx)
      have hfl' : fv.length = t.size := by rw [alf12.1, hfl]
      walk_at "r"
      refine s_len_lst (SqL.of (sm _ _ ef12)) ?_
      refine s_rI (by show (0 : Int) < (fv.length : Int); omega) ?_
      obtain ⟨v0, hv0, m0⟩ := atI_in (xs := fv) (i := z % (fv.length : Int)) (Int.emod_nonneg _ (by omega)) (Int.emod_lt_of_pos _ (by omega))
      obtain ⟨j0, hj0⟩ := List.mem_iff_getElem?.mp m0
      obtain ⟨rr, hr0, hrw⟩ := alf12.get hj0
      unfold fl at hr0
      rw [List.getElem?_map] at hr0
      obtain ⟨⟨pl, tx⟩, hy, rfl⟩ := Option.map_eq_some_iff.mp hr0
      obtain ⟨wd, n, ts⟩ := tx
      have my := List.mem_of_getElem? hy
      have w3 : pl.length + 1 ≤ 0 + t.size := walk_depth [] t _ my
      have hpt := walk_form t _ my
      have hsub := walk_sub t _ my
      obtain ⟨ra, rp, nv, rfl, g1, g2, g3⟩ := hrw
      have g1 : SqT K H12 ra [.ref rp, .str wd, nv, .int (ts.length : Nat)] := g1
      have g2 : SqT K H12 rp (plV pl) := g2
      refine s_ix_lst (SqL.of (sm _ _ ef12)) hv0 ?_
      walk_at "r"
      refine s_ix_tup (sm.tup g1) rfl ?_
      walk_at "r"
      refine ⟨tv, ov, t, o, rp, pl, rfl, htv12.same sm, sm.tup g2, hsub, by omega, by omega, hov12.same sm, fun fu H13 s13 hfu => ?_⟩
      have hfs : (withAt t pl o).size ≤ t.size + o.size := with_size hsub
      have hfd : dep (withAt t pl o) ≤ dep t + dep o := with_dep hsub
      have m13 := sm.trans s13
      walk_at "r"
      refine ⟨fu, _, rfl, hfu, by omega, fun H14 s14 => ?_⟩
      walk_at "r"
      refine ⟨fu, _, rfl, hfu.same s14, by omega, fun qa qv H15 s15 hqa eq alq => ?_⟩
      have m15 := m13.trans (s14.trans s15)
      walk_at "r"
      refine s_ix_tup (m15.tup g1) rfl ?_
      walk_at "r"
      refine ⟨fa, ua, rp, fv, uv, fl t, fl o, pl, rfl, m15 _ _ ef12, m15 _ _ eu12, m15.tup g2, alf12.mono (FlAt.same m15.t), alu12.mono (FlAt.same m15.t), by omega, by omega, by omega, (fun r hr => by have := fl_depth o r hr; omega), fl_one t pl, fun da dv H16 s16 hda ed ald => ?_⟩
      rw [← fl_with hsub] at ald
      refine s_neD (n := 3) (by decide) (fls_isD (s16 _ _ eq) (alq.mono (FlAt.same s16.t))) (fls_isD ed ald) ?_
      have m16 := m15.trans s16
      walk_at "r"
      refine s_ix_tup (m16.tup g1) rfl ?_
      walk_at "r"
      refine s_ix_tup (m16.tup g1) rfl ?_
      walk_at "r"
      refine ⟨rp, pl, ts.length, _, rfl, m16.tup g2, by omega, fun rb far rest H17 s17 qrb hfar hrest => ?_⟩
      have m17 := m16.trans s17
      walk_at "r"
      refine ⟨tv, t, rb, pl, far, rest, ov, rfl, htv12.same m17, qrb, ⟨hsub, wd, n, ts, hpt, hfar⟩, by omega, hrest, fun H18 s18 => ?_⟩
      have m18 := m17.trans s18
      walk_at "r"
      refine s_ix_tup (m18.tup g1) rfl ?_
      walk_at "r"
      refine ⟨tv, ov, t, o, rp, pl, rfl, htv12.same m18, m18.tup g2, hsub, by omega, by omega, hov12.same m18, fun fu2 H19 s19 hfu2 => ?_⟩
      have hfu' := hfu.same (s14.trans (s15.trans (s16.trans (s17.trans (s18.trans s19)))))
      obtain ⟨b, xb, rfl, qb⟩ := tr_ref hfu2
      obtain ⟨c, xc, rfl, qc⟩ := tr_ref hfu'
      walk_at "r"
      refine s_neD (n := 190) (Nat.le_refl _) (tr_isD hfu2 (by omega)) (tr_isD hfu' (by omega)) ?_
      walk_at "r"
      exact ⟨_, _, _, _, rfl, m18.trans s19⟩
    rintro σ' H13 ⟨w7', w10, w11, w12, rfl, sm⟩
    walk_at "r"
    exact q H13
end
end K15

set_option Elab.async false
set_option linter.all false
set_option maxRecDepth 100000
set_option maxHeartbeats 8000000
namespace K15
open PySem L2 K19 K17
abbrev spLaw := sp_law
theorem tail_GE {K : PySem.W.Frag} {GE : Addr} {ddG : Option Addr} {cdG : ClassData} {slG : Array (Option Value)} {cG : Value} (ho : K.lookup GE = some ⟨cG, ddG, .cls cdG, slG⟩) (hok : PySem.W.nsOkIn K cdG.ns = true) (hni : PySem.W.nsIn K cdG.ns "__init__" = some none) : PySem.W.tailIn K VE (.ref GE :: VE) = true ∧ (PySem.W.clsIn K GE).isSome = true := by
  have e : PySem.W.tailIn K VE VE = true := by unfold PySem.W.tailIn; rfl
  refine ⟨?_, by unfold PySem.W.clsIn; rw [ho]; rfl⟩
  unfold PySem.W.tailIn
  dsimp only
  rw [ho]
  dsimp only
  rw [hok, hni, e]
  simp
theorem excI_mk {K : PySem.W.Frag} {C GE : Addr} {ddC : Option Addr} {cdC : ClassData} {slC : Array (Option Value)} {k0 k1 k2 k3 k5 : Option Value} (hC : K.lookup C = some ⟨.type "type", ddC, .cls cdC, slC⟩) (hm : cdC.mro = .ref C :: .ref GE :: VE) (hs : slC.toList = [k0, k1, k2, k3, some (.builtin "ValueError.__new__"), k5]) (hd : cdC.hasDel = false) (h : PySem.W.tailIn K VE (.ref GE :: VE) = true) : excI K C = true ∧ ((PySem.W.clsIn K C).any fun cd => overVE cd.mro) = true := by
  refine ⟨?_, ?_⟩
  · unfold excI
    rw [hC]
    simp only [hm, hs]
    rw [hd, h]
    simp
  · unfold PySem.W.clsIn
    rw [hC]
    dsimp only
    show overVE cdC.mro = true
    rw [hm]
    show overVE VE = true
    decide
theorem kit_ref {K : PySem.W.Frag} {C X : Addr} {b : Bool} {c : Value} {dd : Option Addr} {cd : ClassData} {sl : Array (Option Value)} (hX : K.lookup X = some ⟨c, dd, .cls cd, sl⟩) (ht : PySem.W.typeIn K (.ref X) = some (.type "type")) (hs : PySem.W.subIn K (.ref C) (.ref X) = some b) (hn : b = false → (C == X) = false) : PySem.W.kitOne K (.ref C) (.ref X) = some b := by
  unfold PySem.W.kitOne
  by_cases h : ((Value.ref C) == (Value.ref X)) = true
  · rw [if_pos h]
    have e := beq_iff_eq.mp h
    injection e with e
    subst e
    cases b with
    | true => rfl
    | false => have := hn rfl; simp at this
  · rw [if_neg h]
    unfold PySem.W.kitCls
    dsimp only
    rw [if_pos]
    · exact hs
    · rw [ht]
      unfold PySem.W.clsIn
      rw [hX]
      simp
theorem kit_ty {K : PySem.W.Frag} {C : Addr} (hs : PySem.W.subIn K (.ref C) (.type "ValueError") = some true) : PySem.W.kitOne K (.ref C) (.type "ValueError") = some true := by
  unfold PySem.W.kitOne
  rw [if_neg (by intro h; have := beq_iff_eq.mp h; cases this)]
  unfold PySem.W.kitCls
  dsimp only
  rw [if_pos (by rfl)]
  exact hs
theorem all_mk {l : PySem.W.OpenLaw} {w : World} {K : PySem.W.Frag} {h : Heap} {mg : Str → Option Value} {fa f1 f2 f3 f4 f5 f6 f7 f8 f9 f10 f11 f12 f13 f14 f15 f16 f17 f18 f19 f20 f21 : Addr} (X : K.In h) (G : h.Ns mainGlobals mg) (hfa : mg "law" = some (.ref fa))
    {od1 an1 od2 an2 od3 an3 od4 an4 od5 an5 od6 an6 od7 an7 od8 an8 od9 an9 od10 an10 od11 an11 od12 an12 od13 an13 od14 an14 od15 an15 od16 an16 od17 an17 od18 an18 od19 an19 od20 an20 od21 an21 : Option Addr}
    {sl1 sl2 sl3 sl4 sl5 sl6 sl7 sl8 sl9 sl10 sl11 sl12 sl13 sl14 sl15 sl16 sl17 sl18 sl19 sl20 sl21 : Array (Option Value)}
    {oc1 kV1 dc1 pm1 cd1 ct1 oc2 kV2 dc2 pm2 cd2 ct2 oc3 kV3 dc3 pm3 cd3 ct3 oc4 kV4 dc4 pm4 cd4 ct4 oc5 kV5 dc5 pm5 cd5 ct5 oc6 kV6 dc6 pm6 cd6 ct6 oc7 kV7 dc7 pm7 cd7 ct7 oc8 kV8 dc8 pm8 cd8 ct8 oc9 kV9 dc9 pm9 cd9 ct9 oc10 kV10 dc10 pm10 cd10 ct10 oc11 kV11 dc11 pm11 cd11 ct11 oc12 kV12 dc12 pm12 cd12 ct12 oc13 kV13 dc13 pm13 cd13 ct13 oc14 kV14 dc14 pm14 cd14 ct14 oc15 kV15 dc15 pm15 cd15 ct15 oc16 kV16 dc16 pm16 cd16 ct16 oc17 kV17 dc17 pm17 cd17 ct17 oc18 kV18 dc18 pm18 cd18 ct18 oc19 kV19 dc19 pm19 cd19 ct19 oc20 kV20 dc20 pm20 cd20 ct20 oc21 kV21 dc21 pm21 cd21 ct21 : Value}
    (a1 : PySem.W.nsIn K mainGlobals "is_whole" = some (some (.ref f1))) (l1 : K.lookup f1 = some ⟨oc1, od1, .func (PySem.W.fnOf "is_whole" "is_whole" (defArgs s_is_whole) (defBody s_is_whole) (defScope s_is_whole) .none kV1 dc1 pm1 an1 cd1 ct1), sl1⟩) (c1 : PySem.W.codeIn K cd1 "is_whole" = true) (k1 : PySem.W.keepIn K (.ref f1) = true)
    (a2 : PySem.W.nsIn K mainGlobals "has_part" = some (some (.ref f2))) (l2 : K.lookup f2 = some ⟨oc2, od2, .func (PySem.W.fnOf "has_part" "has_part" (defArgs s_has_part) (defBody s_has_part) (defScope s_has_part) .none kV2 dc2 pm2 an2 cd2 ct2), sl2⟩) (c2 : PySem.W.codeIn K cd2 "has_part" = true) (k2 : PySem.W.keepIn K (.ref f2) = true)
    (a3 : PySem.W.nsIn K mainGlobals "forms_down_to" = some (some (.ref f3))) (l3 : K.lookup f3 = some ⟨oc3, od3, .func (PySem.W.fnOf "forms_down_to" "forms_down_to" (defArgs s_forms_down_to) (defBody s_forms_down_to) (defScope s_forms_down_to) .none kV3 dc3 pm3 an3 cd3 ct3), sl3⟩) (c3 : PySem.W.codeIn K cd3 "forms_down_to" = true) (k3 : PySem.W.keepIn K (.ref f3) = true)
    (a4 : PySem.W.nsIn K mainGlobals "form_at" = some (some (.ref f4))) (l4 : K.lookup f4 = some ⟨oc4, od4, .func (PySem.W.fnOf "form_at" "form_at" (defArgs s_form_at) (defBody s_form_at) (defScope s_form_at) .none kV4 dc4 pm4 an4 cd4 ct4), sl4⟩) (c4 : PySem.W.codeIn K cd4 "form_at" = true) (k4 : PySem.W.keepIn K (.ref f4) = true)
    (a5 : PySem.W.nsIn K mainGlobals "with_part" = some (some (.ref f5))) (l5 : K.lookup f5 = some ⟨oc5, od5, .func (PySem.W.fnOf "with_part" "with_part" (defArgs s_with_part) (defBody s_with_part) (defScope s_with_part) .none kV5 dc5 pm5 an5 cd5 ct5), sl5⟩) (c5 : PySem.W.codeIn K cd5 "with_part" = true) (k5 : PySem.W.keepIn K (.ref f5) = true)
    (a6 : PySem.W.nsIn K mainGlobals "with_at" = some (some (.ref f6))) (l6 : K.lookup f6 = some ⟨oc6, od6, .func (PySem.W.fnOf "with_at" "with_at" (defArgs s_with_at) (defBody s_with_at) (defScope s_with_at) .none kV6 dc6 pm6 an6 cd6 ct6), sl6⟩) (c6 : PySem.W.codeIn K cd6 "with_at" = true) (k6 : PySem.W.keepIn K (.ref f6) = true)
    (a7 : PySem.W.nsIn K mainGlobals "_law_cell" = some (some (.ref f7))) (l7 : K.lookup f7 = some ⟨oc7, od7, .func (PySem.W.fnOf "_law_cell" "_law_cell" (defArgs s_law_cell) (defBody s_law_cell) (defScope s_law_cell) .none kV7 dc7 pm7 an7 cd7 ct7), sl7⟩) (c7 : PySem.W.codeIn K cd7 "_law_cell" = true) (k7 : PySem.W.keepIn K (.ref f7) = true)
    (a8 : PySem.W.nsIn K mainGlobals "_law_names" = some (some (.ref f8))) (l8 : K.lookup f8 = some ⟨oc8, od8, .func (PySem.W.fnOf "_law_names" "_law_names" (defArgs s_law_names) (defBody s_law_names) (defScope s_law_names) .none kV8 dc8 pm8 an8 cd8 ct8), sl8⟩) (c8 : PySem.W.codeIn K cd8 "_law_names" = true) (k8 : PySem.W.keepIn K (.ref f8) = true)
    (a9 : PySem.W.nsIn K mainGlobals "_law_odd" = some (some (.ref f9))) (l9 : K.lookup f9 = some ⟨oc9, od9, .func (PySem.W.fnOf "_law_odd" "_law_odd" (defArgs s_law_odd) (defBody s_law_odd) (defScope s_law_odd) .none kV9 dc9 pm9 an9 cd9 ct9), sl9⟩) (c9 : PySem.W.codeIn K cd9 "_law_odd" = true) (k9 : PySem.W.keepIn K (.ref f9) = true)
    (a10 : PySem.W.nsIn K mainGlobals "_law_number" = some (some (.ref f10))) (l10 : K.lookup f10 = some ⟨oc10, od10, .func (PySem.W.fnOf "_law_number" "_law_number" (defArgs s_law_number) (defBody s_law_number) (defScope s_law_number) .none kV10 dc10 pm10 an10 cd10 ct10), sl10⟩) (c10 : PySem.W.codeIn K cd10 "_law_number" = true) (k10 : PySem.W.keepIn K (.ref f10) = true)
    (a11 : PySem.W.nsIn K mainGlobals "_law_head" = some (some (.ref f11))) (l11 : K.lookup f11 = some ⟨oc11, od11, .func (PySem.W.fnOf "_law_head" "_law_head" (defArgs s_law_head) (defBody s_law_head) (defScope s_law_head) .none kV11 dc11 pm11 an11 cd11 ct11), sl11⟩) (c11 : PySem.W.codeIn K cd11 "_law_head" = true) (k11 : PySem.W.keepIn K (.ref f11) = true)
    (a12 : PySem.W.nsIn K mainGlobals "_law_many" = some (some (.ref f12))) (l12 : K.lookup f12 = some ⟨oc12, od12, .func (PySem.W.fnOf "_law_many" "_law_many" (defArgs s_law_many) (defBody s_law_many) (defScope s_law_many) .none kV12 dc12 pm12 an12 cd12 ct12), sl12⟩) (c12 : PySem.W.codeIn K cd12 "_law_many" = true) (k12 : PySem.W.keepIn K (.ref f12) = true)
    (a13 : PySem.W.nsIn K mainGlobals "_law_tree" = some (some (.ref f13))) (l13 : K.lookup f13 = some ⟨oc13, od13, .func (PySem.W.fnOf "_law_tree" "_law_tree" (defArgs s_law_tree) (defBody s_law_tree) (defScope s_law_tree) .none kV13 dc13 pm13 an13 cd13 ct13), sl13⟩) (c13 : PySem.W.codeIn K cd13 "_law_tree" = true) (k13 : PySem.W.keepIn K (.ref f13) = true)
    (a14 : PySem.W.nsIn K mainGlobals "_law_walk" = some (some (.ref f14))) (l14 : K.lookup f14 = some ⟨oc14, od14, .func (PySem.W.fnOf "_law_walk" "_law_walk" (defArgs s_law_walk) (defBody s_law_walk) (defScope s_law_walk) .none kV14 dc14 pm14 an14 cd14 ct14), sl14⟩) (c14 : PySem.W.codeIn K cd14 "_law_walk" = true) (k14 : PySem.W.keepIn K (.ref f14) = true)
    (a15 : PySem.W.nsIn K mainGlobals "_law_flat" = some (some (.ref f15))) (l15 : K.lookup f15 = some ⟨oc15, od15, .func (PySem.W.fnOf "_law_flat" "_law_flat" (defArgs s_law_flat) (defBody s_law_flat) (defScope s_law_flat) .none kV15 dc15 pm15 an15 cd15 ct15), sl15⟩) (c15 : PySem.W.codeIn K cd15 "_law_flat" = true) (k15 : PySem.W.keepIn K (.ref f15) = true)
    (a16 : PySem.W.nsIn K mainGlobals "_law_due" = some (some (.ref f16))) (l16 : K.lookup f16 = some ⟨oc16, od16, .func (PySem.W.fnOf "_law_due" "_law_due" (defArgs s_law_due) (defBody s_law_due) (defScope s_law_due) .none kV16 dc16 pm16 an16 cd16 ct16), sl16⟩) (c16 : PySem.W.codeIn K cd16 "_law_due" = true) (k16 : PySem.W.keepIn K (.ref f16) = true)
    (a17 : PySem.W.nsIn K mainGlobals "_law_is_tree" = some (some (.ref f17))) (l17 : K.lookup f17 = some ⟨oc17, od17, .func (PySem.W.fnOf "_law_is_tree" "_law_is_tree" (defArgs s_law_is_tree) (defBody s_law_is_tree) (defScope s_law_is_tree) .none kV17 dc17 pm17 an17 cd17 ct17), sl17⟩) (c17 : PySem.W.codeIn K cd17 "_law_is_tree" = true) (k17 : PySem.W.keepIn K (.ref f17) = true)
    (a18 : PySem.W.nsIn K mainGlobals "_law_no_place" = some (some (.ref f18))) (l18 : K.lookup f18 = some ⟨oc18, od18, .func (PySem.W.fnOf "_law_no_place" "_law_no_place" (defArgs s_law_no_place) (defBody s_law_no_place) (defScope s_law_no_place) .none kV18 dc18 pm18 an18 cd18 ct18), sl18⟩) (c18 : PySem.W.codeIn K cd18 "_law_no_place" = true) (k18 : PySem.W.keepIn K (.ref f18) = true)
    (a19 : PySem.W.nsIn K mainGlobals "_law_kinds" = some (some (.ref f19))) (l19 : K.lookup f19 = some ⟨oc19, od19, .func (PySem.W.fnOf "_law_kinds" "_law_kinds" (defArgs s_law_kinds) (defBody s_law_kinds) (defScope s_law_kinds) .none kV19 dc19 pm19 an19 cd19 ct19), sl19⟩) (c19 : PySem.W.codeIn K cd19 "_law_kinds" = true) (k19 : PySem.W.keepIn K (.ref f19) = true)
    (a20 : PySem.W.nsIn K mainGlobals "_law_refused" = some (some (.ref f20))) (l20 : K.lookup f20 = some ⟨oc20, od20, .func (PySem.W.fnOf "_law_refused" "_law_refused" (defArgs s_law_refused) (defBody s_law_refused) (defScope s_law_refused) .none kV20 dc20 pm20 an20 cd20 ct20), sl20⟩) (c20 : PySem.W.codeIn K cd20 "_law_refused" = true) (k20 : PySem.W.keepIn K (.ref f20) = true)
    (a21 : PySem.W.nsIn K mainGlobals "law" = some (some (.ref f21))) (l21 : K.lookup f21 = some ⟨oc21, od21, .func (PySem.W.fnOf "law" "law" (defArgs s_law) (defBody s_law) (defScope s_law) .none kV21 dc21 pm21 an21 cd21 ct21), sl21⟩) (c21 : PySem.W.codeIn K cd21 "law" = true) (k21 : PySem.W.keepIn K (.ref f21) = true)
    (z1 : PySem.W.nsIn K mainGlobals "isinstance" = some none)
    (z2 : PySem.W.nsIn K mainGlobals "int" = some none)
    (z3 : PySem.W.nsIn K mainGlobals "bool" = some none)
    (z4 : PySem.W.nsIn K mainGlobals "len" = some none)
    (z5 : PySem.W.nsIn K mainGlobals "reversed" = some none)
    (z6 : PySem.W.nsIn K mainGlobals "list" = some none)
    (z7 : PySem.W.nsIn K mainGlobals "zip" = some none)
    (z8 : PySem.W.nsIn K mainGlobals "range" = some none)
    (z9 : PySem.W.nsIn K mainGlobals "tuple" = some none)
    (z10 : PySem.W.nsIn K mainGlobals "enumerate" = some none)
    (z11 : PySem.W.nsIn K mainGlobals "ValueError" = some none)
    {C GE fi : Addr} {odi ani ddC : Option Addr} {sli slC : Array (Option Value)} {oci kVi dci pmi cdi cti : Value} {cdC : ClassData} {j0 j1 j2 j3 j5 : Option Value}
    (x1 : PySem.W.nsIn K mainGlobals "NoPlace" = some (some (.ref C))) (x2 : PySem.W.nsIn K mainGlobals "GapError" = some (some (.ref GE)))
    (x3 : PySem.W.findIn K (.ref C) "__init__" = some (some (.ref fi))) (x4 : K.lookup fi = some ⟨oci, odi, .func (PySem.W.fnOf "__init__" "NoPlace.__init__" (defArgs s_init) (defBody s_init) (defScope s_init) .none kVi dci pmi ani cdi cti), sli⟩) (x5 : PySem.W.codeIn K cdi "NoPlace.__init__" = true) (x6 : PySem.W.keepIn K (.ref fi) = true)
    (x7 : K.lookup C = some ⟨.type "type", ddC, .cls cdC, slC⟩) (x8 : cdC.mro = .ref C :: .ref GE :: VE) (x9 : slC.toList = [j0, j1, j2, j3, some (.builtin "ValueError.__new__"), j5]) (x10 : cdC.hasDel = false)
    {cG : Value} {ddG : Option Addr} {cdG : ClassData} {slG : Array (Option Value)} (x11 : K.lookup GE = some ⟨cG, ddG, .cls cdG, slG⟩) {cN : Value} {ddN : Option Addr} {esN : Array DictEntry} {nN : Nat} {slN : Array (Option Value)} (x24 : K.lookup cdG.ns = some ⟨cN, ddN, .dict esN nN, slN⟩) (x26 : (esN.toList.all fun e => match e.key with | .str _ _ => true | _ => false) = true) (x25 : PySem.W.nsIn K cdG.ns "__init__" = some none) (x12 : PySem.W.isFn K (.ref fi) = true) (x13 : PySem.W.keepIn K (.ref C) = true) (x14 : PySem.W.subIn K (.ref C) (.type "BaseException") = some true) (x15 : PySem.W.typeIn K (.ref C) = some (.type "type"))
    (x16 : PySem.W.hasDictIn K C = true) (x17 : PySem.W.findIn K (.ref C) "__getattribute__" = some (some (.builtin "BaseException.__getattribute__"))) (x18 : PySem.W.findIn K (.ref C) "__getattr__" = some none) (x19 : PySem.W.findIn K (.ref C) "__setattr__" = some (some (.builtin "object.__setattr__")))
    (x20 : PySem.W.findIn K (.ref C) "place" = some none) (x21 : PySem.W.typeIn K (.ref GE) = some (.type "type")) (x22 : PySem.W.subIn K (.ref GE) (.type "BaseException") = some true) (x23 : PySem.W.subIn K (.ref C) (.ref GE) = some true)
    {ND : Addr} {cND : Value} {ddND : Option Addr} {cdND : ClassData} {slND : Array (Option Value)} (x40 : PySem.W.nsIn K mainGlobals "NoDeed" = some (some (.ref ND))) (x41 : K.lookup ND = some ⟨cND, ddND, .cls cdND, slND⟩) (x42 : PySem.W.typeIn K (.ref ND) = some (.type "type")) (x43 : PySem.W.subIn K (.ref C) (.ref ND) = some false) (x44 : (C == ND) = false)
    {NF : Addr} {cNF : Value} {ddNF : Option Addr} {cdNF : ClassData} {slNF : Array (Option Value)} (x50 : PySem.W.nsIn K mainGlobals "NoForm" = some (some (.ref NF))) (x51 : K.lookup NF = some ⟨cNF, ddNF, .cls cdNF, slNF⟩) (x52 : PySem.W.typeIn K (.ref NF) = some (.type "type")) (x53 : PySem.W.subIn K (.ref C) (.ref NF) = some false) (x54 : (C == NF) = false)
    {PA : Addr} {cPA : Value} {ddPA : Option Addr} {cdPA : ClassData} {slPA : Array (Option Value)} (x60 : PySem.W.nsIn K mainGlobals "Parted" = some (some (.ref PA))) (x61 : K.lookup PA = some ⟨cPA, ddPA, .cls cdPA, slPA⟩) (x62 : PySem.W.typeIn K (.ref PA) = some (.type "type")) (x63 : PySem.W.subIn K (.ref C) (.ref PA) = some false) (x64 : (C == PA) = false)
    {CA : Addr} {cCA : Value} {ddCA : Option Addr} {cdCA : ClassData} {slCA : Array (Option Value)} (x70 : PySem.W.nsIn K mainGlobals "Caught" = some (some (.ref CA))) (x71 : K.lookup CA = some ⟨cCA, ddCA, .cls cdCA, slCA⟩) (x72 : PySem.W.typeIn K (.ref CA) = some (.type "type")) (x73 : PySem.W.subIn K (.ref C) (.ref CA) = some false) (x74 : (C == CA) = false)
    (x80 : PySem.W.findIn K (.ref C) "__class__" = some (some (.builtin "object.__class__"))) (x81 : PySem.W.specialIn K (.builtin "object.__class__") "__get__" = some (some (.builtin "getset_descriptor.__get__"))) (x82 : PySem.W.takesIn K (.builtin "object.__class__") = some true)
    (x83 : PySem.W.subIn K (.ref C) (.type "ValueError") = some true) (x84 : PySem.W.subIn K (.ref C) (.ref C) = some true) :
    ∃ fd : FuncData, (∀ (s : Shared) (v : Value), BindsTo s fd ⟨[v], []⟩ [("_law_script", v)]) ∧ ∀ base : Heap, K.In base → base.Ns mainGlobals mg → FnOk l.prog w K mg base CX0 6 fa fd ["_law_script"] (spLaw K) := by
  have e := hfa.symm.trans (PySem.W.mg_of X G a21)
  cases e
  have T : Txt K mg := { isinstance := PySem.W.mg_none_of X G z1, int := PySem.W.mg_none_of X G z2, bool := PySem.W.mg_none_of X G z3, len := PySem.W.mg_none_of X G z4, reversed := PySem.W.mg_none_of X G z5, list := PySem.W.mg_none_of X G z6, zip := PySem.W.mg_none_of X G z7, range := PySem.W.mg_none_of X G z8, tuple := PySem.W.mg_none_of X G z9, enumerate := PySem.W.mg_none_of X G z10, ValueError := PySem.W.mg_none_of X G z11 }
  have F1 := fun_mk (st := s_is_whole) l1 c1 k1
  have b1 := F1.binds (ps := ["thing"]) fun _ _ _ _ _ _ us hl => match us, hl with | [_], _ => rfl
  have F2 := fun_mk (st := s_has_part) l2 c2 k2
  have b2 := F2.binds (ps := ["form", "number"]) fun _ _ _ _ _ _ us hl => match us, hl with | [_, _], _ => rfl
  have F3 := fun_mk (st := s_forms_down_to) l3 c3 k3
  have b3 := F3.binds (ps := ["tree", "place"]) fun _ _ _ _ _ _ us hl => match us, hl with | [_, _], _ => rfl
  have F4 := fun_mk (st := s_form_at) l4 c4 k4
  have b4 := F4.binds (ps := ["tree", "place"]) fun _ _ _ _ _ _ us hl => match us, hl with | [_, _], _ => rfl
  have F5 := fun_mk (st := s_with_part) l5 c5 k5
  have b5 := F5.binds (ps := ["form", "number", "part"]) fun _ _ _ _ _ _ us hl => match us, hl with | [_, _, _], _ => rfl
  have F6 := fun_mk (st := s_with_at) l6 c6 k6
  have b6 := F6.binds (ps := ["tree", "place", "form"]) fun _ _ _ _ _ _ us hl => match us, hl with | [_, _, _], _ => rfl
  have F7 := fun_mk (st := s_law_cell) l7 c7 k7
  have b7 := F7.binds (ps := ["_law_script", "_law_k"]) fun _ _ _ _ _ _ us hl => match us, hl with | [_, _], _ => rfl
  have F8 := fun_mk (st := s_law_names) l8 c8 k8
  have b8 := F8.binds (ps := ["_law_one", "_law_other"]) fun _ _ _ _ _ _ us hl => match us, hl with | [_, _], _ => rfl
  have F9 := fun_mk (st := s_law_odd) l9 c9 k9
  have b9 := F9.binds (ps := ["_law_cell_here"]) fun _ _ _ _ _ _ us hl => match us, hl with | [_], _ => rfl
  have F10 := fun_mk (st := s_law_number) l10 c10 k10
  have b10 := F10.binds (ps := ["_law_cell_here"]) fun _ _ _ _ _ _ us hl => match us, hl with | [_], _ => rfl
  have F11 := fun_mk (st := s_law_head) l11 c11 k11
  have b11 := F11.binds (ps := ["_law_cell_here", "_law_names_here"]) fun _ _ _ _ _ _ us hl => match us, hl with | [_, _], _ => rfl
  have F12 := fun_mk (st := s_law_many) l12 c12 k12
  have b12 := F12.binds (ps := ["_law_word"]) fun _ _ _ _ _ _ us hl => match us, hl with | [_], _ => rfl
  have F13 := fun_mk (st := s_law_tree) l13 c13 k13
  have b13 := F13.binds (ps := ["_law_cells", "_law_names_here"]) fun _ _ _ _ _ _ us hl => match us, hl with | [_, _], _ => rfl
  have F14 := fun_mk (st := s_law_walk) l14 c14 k14
  have b14 := F14.binds (ps := ["_law_tree_here"]) fun _ _ _ _ _ _ us hl => match us, hl with | [_], _ => rfl
  have F15 := fun_mk (st := s_law_flat) l15 c15 k15
  have b15 := F15.binds (ps := ["_law_tree_here"]) fun _ _ _ _ _ _ us hl => match us, hl with | [_], _ => rfl
  have F16 := fun_mk (st := s_law_due) l16 c16 k16
  have b16 := F16.binds (ps := ["_law_flat_here", "_law_other", "_law_place"]) fun _ _ _ _ _ _ us hl => match us, hl with | [_, _, _], _ => rfl
  have F17 := fun_mk (st := s_law_is_tree) l17 c17 k17
  have b17 := F17.binds (ps := ["_law_found"]) fun _ _ _ _ _ _ us hl => match us, hl with | [_], _ => rfl
  have F18 := fun_mk (st := s_law_no_place) l18 c18 k18
  have b18 := F18.binds (ps := ["_law_place", "_law_many_here", "_law_cell_here"]) fun _ _ _ _ _ _ us hl => match us, hl with | [_, _, _], _ => rfl
  have F19 := fun_mk (st := s_law_kinds) l19 c19 k19
  have b19 := F19.binds (ps := ["_law_e"]) fun _ _ _ _ _ _ us hl => match us, hl with | [_], _ => rfl
  have F20 := fun_mk (st := s_law_refused) l20 c20 k20
  have b20 := F20.binds (ps := ["_law_tree_here", "_law_place", "_law_other"]) fun _ _ _ _ _ _ us hl => match us, hl with | [_, _, _], _ => rfl
  have F21 := fun_mk (st := s_law) l21 c21 k21
  have b21 := F21.binds (ps := ["_law_script"]) fun _ _ _ _ _ _ us hl => match us, hl with | [_], _ => rfl
  refine ⟨PySem.W.fnOf "law" "law" (defArgs s_law) (defBody s_law) (defScope s_law) .none kV21 dc21 pm21 an21 cd21 ct21, fun s v => .of_eq rfl, fun base _ _ => ?_⟩
  have C_is_whole := callee_of (P := l.prog) (w := w) (base := base) (ok_whole F1 T) (PySem.W.mg_of X G a1) k1 b1
  have C_has_part := callee_of (P := l.prog) (w := w) (base := base) (ok_has F2 T C_is_whole) (PySem.W.mg_of X G a2) k2 b2
  have C_forms_down_to := callee_of (P := l.prog) (w := w) (base := base) (ok_down F3 T C_has_part) (PySem.W.mg_of X G a3) k3 b3
  have C_form_at := callee_of (P := l.prog) (w := w) (base := base) (ok_fat F4 T C_forms_down_to) (PySem.W.mg_of X G a4) k4 b4
  have C_with_part := callee_of (P := l.prog) (w := w) (base := base) (ok_wpart F5 T) (PySem.W.mg_of X G a5) k5 b5
  have C_with_at := callee_of (P := l.prog) (w := w) (base := base) (ok_withat F6 T C_forms_down_to C_with_part) (PySem.W.mg_of X G a6) k6 b6
  have C__law_cell := callee_of (P := l.prog) (w := w) (base := base) (ok_cell F7 T) (PySem.W.mg_of X G a7) k7 b7
  have C__law_names := callee_of (P := l.prog) (w := w) (base := base) (ok_names F8 T) (PySem.W.mg_of X G a8) k8 b8
  have C__law_odd := callee_of (P := l.prog) (w := w) (base := base) (ok_odd F9 T) (PySem.W.mg_of X G a9) k9 b9
  have C__law_number := callee_of (P := l.prog) (w := w) (base := base) (ok_num F10 T) (PySem.W.mg_of X G a10) k10 b10
  have C__law_head := callee_of (P := l.prog) (w := w) (base := base) (ok_head F11 T C__law_odd C__law_number) (PySem.W.mg_of X G a11) k11 b11
  have C__law_many := callee_of (P := l.prog) (w := w) (base := base) (ok_many F12 T) (PySem.W.mg_of X G a12) k12 b12
  have C__law_tree := callee_of (P := l.prog) (w := w) (base := base) (ok_tree F13 T C__law_head C__law_many) (PySem.W.mg_of X G a13) k13 b13
  have C__law_walk := callee_of (P := l.prog) (w := w) (base := base) (ok_walk F14 T) (PySem.W.mg_of X G a14) k14 b14
  have C__law_flat := callee_of (P := l.prog) (w := w) (base := base) (ok_flat F15 T C__law_walk) (PySem.W.mg_of X G a15) k15 b15
  have C__law_due := callee_of (P := l.prog) (w := w) (base := base) (ok_due F16 T) (PySem.W.mg_of X G a16) k16 b16
  have C__law_is_tree := callee_of (P := l.prog) (w := w) (base := base) (ok_istree F17 T) (PySem.W.mg_of X G a17) k17 b17
  have C__law_no_place := callee_of (P := l.prog) (w := w) (base := base) (ok_nopl F18 T) (PySem.W.mg_of X G a18) k18 b18
  have x27 : PySem.W.nsOkIn K cdG.ns = true := by unfold PySem.W.nsOkIn; rw [x24]; show (esN.all fun e => match e.key with | .str _ _ => true | _ => false) = true; rw [← Array.all_toList]; exact x26
  obtain ⟨tG, iG⟩ := tail_GE x11 x27 x25
  obtain ⟨xI, xO⟩ := excI_mk x7 x8 x9 x10 tG
  have gC := PySem.W.mg_of X G x1
  have gG := PySem.W.mg_of X G x2
  have R : Rz K C fi := ⟨xI, x3, x12, x13, x14, x15⟩
  have xC : ExC K C := ⟨xO, x16, x17, x18, x19, x15⟩
  have nA : NoAttr K C "place" := x20
  have XC : ExcC K C := ⟨x15, by unfold PySem.W.clsIn; rw [x7]; rfl, x14⟩
  have sCC := x84
  have D : KdC K mg C GE ND NF PA CA := { n := { toExC := xC, ca := x80, cg := x81, ct := x82 }, gC := gC, gG := gG, gD := PySem.W.mg_of X G x40, gF := PySem.W.mg_of X G x50, gP := PySem.W.mg_of X G x60, gA := PySem.W.mg_of X G x70, kG := kit_ref x11 x21 x23 (fun h => nomatch h), kV := kit_ty x83, kD := kit_ref x41 x42 x43 fun _ => x44, kF := kit_ref x51 x52 x53 fun _ => x54, kP := kit_ref x61 x62 x63 fun _ => x64, kA := kit_ref x71 x72 x73 fun _ => x74 }
  have Fi := fun_mk (st := s_init) x4 x5 x6
  have bi := Fi.binds (ps := ["self", "place"]) fun _ _ _ _ _ _ us hl => match us, hl with | [_, _], _ => rfl
  have CZ_has_part := callee_of (P := l.prog) (w := w) (base := base) (ok_hasZ F2 T C_is_whole) (PySem.W.mg_of X G a2) k2 b2
  have CX_forms_down_to := calleex_of (P := l.prog) (w := w) (base := base) (ok_downX F3 T CZ_has_part R (ok_init Fi) bi gC xC nA) (PySem.W.mg_of X G a3) k3 b3
  have CX_form_at := calleex_of (P := l.prog) (w := w) (base := base) (ok_fatX F4 T CX_forms_down_to) (PySem.W.mg_of X G a4) k4 b4
  have CX_with_at := calleex_of (P := l.prog) (w := w) (base := base) (ok_watX F6 T CX_forms_down_to C_with_part) (PySem.W.mg_of X G a6) k6 b6
  have C__law_kinds := calleen_of (P := l.prog) (w := w) (base := base) (ok_kinds F19 T D) (PySem.W.mg_of X G a19) k19 b19
  have C__law_refused := callee_of (P := l.prog) (w := w) (base := base) (ok_refused F20 T CX_form_at CX_with_at C__law_kinds XC gC sCC xC nA) (PySem.W.mg_of X G a20) k20 b20
  exact ok_law F21 T C__law_names C__law_cell C__law_tree C__law_flat C__law_walk C_form_at C_with_at C__law_is_tree C__law_due C__law_no_place C__law_refused
theorem walk {l : PySem.W.OpenLaw} {q : Program} {loose : List Str} {XP : (Str → Option Value) → Heap → Prop} {YP : World → Heap → Prop} {d : DefRec} {K : Params → PySem.W.Frag} (hn : l.most = some 63) (hdf : d.params.defaults = [])
    (hY : ∀ (w : World) (h : Heap), YP w h → (K w.params).In h)
    (F : ∀ (w : World) (mg : Str → Option Value) (fa : Addr) (h : Heap), (K w.params).In h → h.Ns mainGlobals mg → mg d.name = some (.ref fa) →
      ∃ fd : FuncData, (∀ (s : Shared) (u : Value), BindsTo s fd ⟨[u], []⟩ [("_law_script", u)]) ∧ ∀ base : Heap, (K w.params).In base → base.Ns mainGlobals mg → FnOk l.prog w (K w.params) mg base CX0 6 fa fd ["_law_script"] (spLaw (K w.params))) :
    PySem.W.WalkO q loose XP YP l.row.toRowW d [] (fun f vs => PySem.call f vs) :=
  L2.walk_of (n := 63) (k := 6) (x := "_law_script") (CX := fun _ => CX0) (sp := fun w => spLaw (K w.params)) hn (by decide) hdf ⟨rfl, by decide, by decide⟩ hY F (fun _ _ a ns hl _ hS => ⟨a, ns, rfl, hS, hl, fun _ => rfl⟩) fun _ _ _ _ _ z => z
end K15
open PySem PySem.W PyProof.Rows
set_option maxRecDepth 100000 in
set_option maxHeartbeats 0 in
theorem PySem.Challenge.cw_gapscribe_k15_forms_at_places_holds : PySem.Challenge.rw_gapscribe_k15_forms_at_places.Holds := by
  w_on; o_law; k_head; (case hw => w_witness2)
  k_fill
  refine K15.walk (l := PySem.Challenge.rw_gapscribe_k15_forms_at_places) rfl rfl (fun w h Y => PySem.W.kIn_of Y) ?F
  case F =>
    intro w mg fa h KX G hmg
    refine' K15.all_mk KX G hmg ?a1 ?l1 ?c1 ?k1 ?a2 ?l2 ?c2 ?k2 ?a3 ?l3 ?c3 ?k3 ?a4 ?l4 ?c4 ?k4 ?a5 ?l5 ?c5 ?k5 ?a6 ?l6 ?c6 ?k6 ?a7 ?l7 ?c7 ?k7 ?a8 ?l8 ?c8 ?k8 ?a9 ?l9 ?c9 ?k9 ?a10 ?l10 ?c10 ?k10 ?a11 ?l11 ?c11 ?k11 ?a12 ?l12 ?c12 ?k12 ?a13 ?l13 ?c13 ?k13 ?a14 ?l14 ?c14 ?k14 ?a15 ?l15 ?c15 ?k15 ?a16 ?l16 ?c16 ?k16 ?a17 ?l17 ?c17 ?k17 ?a18 ?l18 ?c18 ?k18 ?a19 ?l19 ?c19 ?k19 ?a20 ?l20 ?c20 ?k20 ?a21 ?l21 ?c21 ?k21 ?z1 ?z2 ?z3 ?z4 ?z5 ?z6 ?z7 ?z8 ?z9 ?z10 ?z11 ?x1 ?x2 ?x3 ?x4 ?x5 ?x6 ?x7 ?x8 ?x9 ?x10 ?x11 ?x24 ?x26 ?x25 ?x12 ?x13 ?x14 ?x15 ?x16 ?x17 ?x18 ?x19 ?x20 ?x21 ?x22 ?x23 ?x40 ?x41 ?x42 ?x43 ?x44 ?x50 ?x51 ?x52 ?x53 ?x54 ?x60 ?x61 ?x62 ?x63 ?x64 ?x70 ?x71 ?x72 ?x73 ?x74 ?x80 ?x81 ?x82 ?x83 ?x84
    (case a1 => k_is)
    (case l1 => k_is)
    (case c1 => k_is)
    (case k1 => k_is)
    (case a2 => k_is)
    (case l2 => k_is)
    (case c2 => k_is)
    (case k2 => k_is)
    (case a3 => k_is)
    (case l3 => k_is)
    (case c3 => k_is)
    (case k3 => k_is)
    (case a4 => k_is)
    (case l4 => k_is)
    (case c4 => k_is)
    (case k4 => k_is)
    (case a5 => k_is)
    (case l5 => k_is)
    (case c5 => k_is)
    (case k5 => k_is)
    (case a6 => k_is)
    (case l6 => k_is)
    (case c6 => k_is)
    (case k6 => k_is)
    (case a7 => k_is)
    (case l7 => k_is)
    (case c7 => k_is)
    (case k7 => k_is)
    (case a8 => k_is)
    (case l8 => k_is)
    (case c8 => k_is)
    (case k8 => k_is)
    (case a9 => k_is)
    (case l9 => k_is)
    (case c9 => k_is)
    (case k9 => k_is)
    (case a10 => k_is)
    (case l10 => k_is)
    (case c10 => k_is)
    (case k10 => k_is)
    (case a11 => k_is)
    (case l11 => k_is)
    (case c11 => k_is)
    (case k11 => k_is)
    (case a12 => k_is)
    (case l12 => k_is)
    (case c12 => k_is)
    (case k12 => k_is)
    (case a13 => k_is)
    (case l13 => k_is)
    (case c13 => k_is)
    (case k13 => k_is)
    (case a14 => k_is)
    (case l14 => k_is)
    (case c14 => k_is)
    (case k14 => k_is)
    (case a15 => k_is)
    (case l15 => k_is)
    (case c15 => k_is)
    (case k15 => k_is)
    (case a16 => k_is)
    (case l16 => k_is)
    (case c16 => k_is)
    (case k16 => k_is)
    (case a17 => k_is)
    (case l17 => k_is)
    (case c17 => k_is)
    (case k17 => k_is)
    (case a18 => k_is)
    (case l18 => k_is)
    (case c18 => k_is)
    (case k18 => k_is)
    (case a19 => k_is)
    (case l19 => k_is)
    (case c19 => k_is)
    (case k19 => k_is)
    (case a20 => k_is)
    (case l20 => k_is)
    (case c20 => k_is)
    (case k20 => k_is)
    (case a21 => k_is)
    (case l21 => k_is)
    (case c21 => k_is)
    (case k21 => k_is)
    (case z1 => k_is)
    (case z2 => k_is)
    (case z3 => k_is)
    (case z4 => k_is)
    (case z5 => k_is)
    (case z6 => k_is)
    (case z7 => k_is)
    (case z8 => k_is)
    (case z9 => k_is)
    (case z10 => k_is)
    (case z11 => k_is)
    (case x1 => k_is)
    (case x2 => k_is)
    (case x3 => k_is)
    (case x4 => k_is)
    (case x5 => k_is)
    (case x6 => k_is)
    (case x7 => k_is)
    (case x8 => rfl)
    (case x9 => rfl)
    (case x10 => rfl)
    (case x11 => k_is)
    (case x24 => k_is)
    (case x26 => rfl)
    (case x25 => k_is)
    (case x12 => k_is)
    (case x13 => k_is)
    (case x14 => k_is)
    (case x15 => k_is)
    (case x16 => k_is)
    (case x17 => k_is)
    (case x18 => k_is)
    (case x19 => k_is)
    (case x20 => k_is)
    (case x21 => k_is)
    (case x22 => k_is)
    (case x23 => k_is)
    (case x40 => k_is)
    (case x41 => k_is)
    (case x42 => k_is)
    (case x43 => k_is)
    (case x44 => rfl)
    (case x50 => k_is)
    (case x51 => k_is)
    (case x52 => k_is)
    (case x53 => k_is)
    (case x54 => rfl)
    (case x60 => k_is)
    (case x61 => k_is)
    (case x62 => k_is)
    (case x63 => k_is)
    (case x64 => rfl)
    (case x70 => k_is)
    (case x71 => k_is)
    (case x72 => k_is)
    (case x73 => k_is)
    (case x74 => rfl)
    (case x80 => k_is)
    (case x81 => k_is)
    (case x82 => k_is)
    (case x83 => k_is)
    (case x84 => k_is)
#print axioms PySem.Challenge.cw_gapscribe_k15_forms_at_places_holds
