import PyProof.Rows.All
import Wide.All
import OpenK.AllK
import Wide.FinOn
import Lean
import PyProof.EqAt
import PyProof.EqKinds
import PyProof.TupleCall
import PyProof.StrBlock2
import KE.KDictOf
import PyProof.AttrMissHeap
import KE.KRevSl
import PySem.Challenge.RW_gapscribe_k51_one_gap_filled
set_option Elab.async false
set_option linter.all false
set_option maxRecDepth 100000
namespace L2
open PySem PySem.Spec PyProof.Rows
noncomputable abbrev Key:=Sum Int Str
noncomputable def keyIs : Key→Value→Bool
 | .inl k,v=>Value.isInt k v
 | .inr x,v=>Value.isStrOf x v
noncomputable def keyH (w : World) : Key→Int
 | .inl k=>hashInt k
 | .inr x=>hashStr w x
theorem keyIs_shape : ∀ {k : Key} {v : Value},keyIs k v = true→(∃ i t,k = Sum.inl i∧v = Value.int i t) ∨ (∃ x t,k = Sum.inr x∧v = Value.str x t)
 | .inl i,v,h=>by
  obtain ⟨t,e⟩:=Value.isInt_shape (k:=i) (v:=v) h
  exact .inl ⟨i,t,rfl,e⟩
 | .inr x,v,h=>by
  obtain ⟨t,e⟩:=Value.isStrOf_shape (x:=x) (v:=v) h
  exact .inr ⟨x,t,rfl,e⟩
theorem keyIs_int (i : Int) (t : Tok) : keyIs (.inl i) (.int i t) = true:=by simp [keyIs,Value.isInt]
theorem keyIs_str (x : Str) (t : Tok) : keyIs (.inr x) (.str x t) = true:=by simp [keyIs,Value.isStrOf]
theorem key_ll (a b : Int) : decide ((Sum.inl a : Key) = Sum.inl b) = (a == b):=by
 by_cases e : a = b
 ·subst e; simp
 ·have h : ¬ (Sum.inl a : Key) = Sum.inl b:=fun q=>e (Sum.inl.inj q)
  rw [decide_eq_false h]
  exact (beq_eq_false_iff_ne.mpr e).symm
theorem key_rr (a b : Str) : decide ((Sum.inr a : Key) = Sum.inr b) = decide (a = b):=by
 by_cases e : a = b
 ·subst e; simp
 ·have h : ¬ (Sum.inr a : Key) = Sum.inr b:=fun q=>e (Sum.inr.inj q)
  rw [decide_eq_false h,decide_eq_false e]
theorem key_lr (a : Int) (b : Str) : decide ((Sum.inl a : Key) = Sum.inr b) = false:=decide_eq_false (fun q=>nomatch q)
theorem key_rl (a : Str) (b : Int) : decide ((Sum.inr a : Key) = Sum.inl b) = false:=decide_eq_false (fun q=>nomatch q)
noncomputable def mixKind (prog : Program) (w : World) : PySem.KeyKind prog w Key where
 is:=keyIs
 hash:=keyH w
 inj:=fun v a b ha hb=>by
  rcases keyIs_shape ha with ⟨i,t,rfl,rfl⟩ | ⟨x,t,rfl,rfl⟩
  ·rcases keyIs_shape hb with ⟨j,u,rfl,e⟩ | ⟨y,u,rfl,e⟩
   ·injection e with e1 _; rw [e1]
   ·exact nomatch e
  ·rcases keyIs_shape hb with ⟨j,u,rfl,e⟩ | ⟨y,u,rfl,e⟩
   ·exact nomatch e
   ·injection e with e1 _; rw [e1]
 byValue:=fun k v h=>by
  rcases keyIs_shape h with ⟨i,t,rfl,rfl⟩ | ⟨x,t,rfl,rfl⟩ <;> rfl
 pyHash:=fun hv h=>by
  rcases keyIs_shape hv with ⟨i,t,rfl,rfl⟩ | ⟨x,t,rfl,rfl⟩
  ·exact wpAny_pyHash_int h
  ·exact wpAny_pyHash_str h
 eqBool:=fun hu hv h=>by
  rcases keyIs_shape hu with ⟨i,t,rfl,rfl⟩ | ⟨x,t,rfl,rfl⟩
  ·rcases keyIs_shape hv with ⟨j,u,rfl,rfl⟩ | ⟨y,u,rfl,rfl⟩
   ·rw [key_ll] at h; exact wpAny_eqBool_int h
   ·rw [key_lr] at h; exact SeqAt.EqAt.int_str i t y u _ _ _ _ h
  ·rcases keyIs_shape hv with ⟨j,u,rfl,rfl⟩ | ⟨y,u,rfl,rfl⟩
   ·rw [key_rl] at h; exact SeqAt.EqAt.str_int x t j u _ _ _ _ h
   ·rw [key_rr] at h; exact wpAny_eqBool_str h
 «strs»:=fun k x t v h=>by
  rcases keyIs_shape h with ⟨i,u,rfl,e⟩ | ⟨y,u,rfl,e⟩
  ·exact nomatch e
  ·injection e with e1 _
   subst e1
   cases v <;> rfl
theorem mixKind_int (prog : Program) (w : World) (i : Int) (t : Tok) : (mixKind prog w).is (.inl i) (.int i t) = true:=keyIs_int i t
theorem mixKind_str (prog : Program) (w : World) (x : Str) (t : Tok) : (mixKind prog w).is (.inr x) (.str x t) = true:=keyIs_str x t
end L2
namespace L2
open PySem PySem.Spec PyProof.Rows
inductive V where
 | non | bl (b : Bool) | int (i : Int) | str (x : Str) | byt (b : Array UInt8) | flt (b : UInt64) | ref (a : Addr) | ty (n : String)
 deriving DecidableEq
noncomputable def RelV : V→Value→Prop
 | .non,u=>u = Value.none
 | .bl b,u=>u = Value.bool b
 | .int i,u=>∃ t,u = Value.int i t
 | .str x,u=>∃ t,u = Value.str x t
 | .byt b,u=>∃ t,u = Value.bytes b t
 | .flt b,u=>∃ t,u = Value.float b t
 | .ref a,u=>u = Value.ref a
 | .ty n,u=>u = Value.type n
noncomputable abbrev Vals : List V→List Value→Prop:=Paired RelV
theorem Vals.length {xs : List V} {us : List Value} (r : Vals xs us) : xs.length = us.length:=Paired.length r
theorem Vals.get : ∀ {xs : List V} {us : List Value} {i : Nat} {x : V},Vals xs us→xs[i]? = some x→∃ u,us[i]? = some u∧RelV x u
 | _,_,_,_,.nil,e=>by simp at e
 | _,_,0,_,.cons r _,e=>by simp at e; subst e; exact ⟨_,rfl,r⟩
 | _,_,i + 1,x,.cons _ t,e=>by
  obtain ⟨u,h1,h2⟩:=Vals.get (i:=i) (x:=x) t (by simpa using e)
  exact ⟨u,by simpa using h1,h2⟩
theorem Vals.append : ∀ {xs ys : List V} {us ws : List Value},Vals xs us→Vals ys ws→Vals (xs ++ ys) (us ++ ws)
 | _,_,_,_,.nil,s=>s
 | _,_,_,_,.cons r t,s=>.cons r (Vals.append t s)
theorem Vals.take : ∀ {xs : List V} {us : List Value} (n : Nat),Vals xs us→Vals (xs.take n) (us.take n)
 | _,_,0,_=>.nil
 | _,_,_ + 1,.nil=>.nil
 | _,_,n + 1,.cons r t=>.cons r (Vals.take n t)
theorem Vals.drop : ∀ {xs : List V} {us : List Value} (n : Nat),Vals xs us→Vals (xs.drop n) (us.drop n)
 | _,_,0,r=>r
 | _,_,_ + 1,.nil=>.nil
 | _,_,n + 1,.cons _ t=>Vals.drop n t
noncomputable def RelO : Option V→Option Value→Prop
 | some v,some u=>RelV v u
 | none,none=>True
 | _,_=>False
noncomputable def KV {κ : Type} : List (κ × V)→List (κ × Value)→Prop:=Paired fun (p : κ × V) (q : κ × Value)=>p.1 = q.1∧RelV p.2 q.2
noncomputable def kV : Key→V
 | .inl i=>.int i
 | .inr x=>.str x
inductive HO where
  | lst (xs : List V)
  | tup (xs : List V)
  | dK (kvs : List (Key × V)) | dT (kvs : List (List Key × V))
  | set (S : Int→Bool) (n : Nat)
  | ins (C dx : Addr) (fs : List (Str × V))
  | own (x : Addr)
  | xd (fs : List (Str × V))
  | met (f x : Addr)
  | rng (lo hi : Int)
  | frz (o : Obj) (u : HO)
  | tbl (ps : Array Value)
  | ext (φ : Heap→Prop)
noncomputable abbrev Hp:=Addr→Option HO
noncomputable def upd (H : Hp) (a : Addr) (o : HO) : Hp:=fun b=>if b = a then some o else H b
theorem upd_same {H : Hp} {a : Addr} {o : HO} : upd H a o a = some o:=by unfold upd; rw [if_pos rfl]
theorem upd_ne {H : Hp} {a b : Addr} {o : HO} (h : b ≠ a) : upd H a o b = H b:=by unfold upd; rw [if_neg h]
theorem upd_upd {H : Hp} {a : Addr} {o u : HO} : upd (upd H a o) a u = upd H a u:=by
 funext b; unfold upd; split <;> rfl
theorem ne_of {H : Hp} {a b : Addr} {o u : HO} (h : H a = some o) (h' : H b = some u) (d : o ≠ u) : a ≠ b:=by
 intro e; subst e; rw [h] at h'; exact d (Option.some.inj h')
theorem ne_of_none {H : Hp} {a b : Addr} {o : HO} (h : H a = some o) (h' : H b = none) : a ≠ b:=by
 intro e; subst e; rw [h] at h'; cases h'
section
variable (P : Program) (w : World)
noncomputable def ObjOk (H : Hp) (h : Heap) (a : Addr) : HO→Prop
 | .lst xs=>xs.length ≤ sizeLine∧∃ (its : List Value) (n : Nat),Vals xs its∧h.get? a = some { cls:=.type "list",data:=.seq its.toArray n }
 | .tup xs=>xs.length ≤ sizeLine∧∃ its : List Value,Vals xs its∧IsTup h a its.toArray
 | .dK kvs=>kvs.length ≤ sizeLine∧(a == sysModules) = false∧∃ vs,KV kvs vs∧h.DictOf (mixKind P w) a vs
 | .dT kvs=>kvs.length ≤ sizeLine∧(a == sysModules) = false∧∃ xs : List (List Key × Addr × Value),
   Paired (fun (p : List Key × V) (q : List Key × Addr × Value)=>p.1 = q.1∧H q.2.1 = some (.tup (p.1.map kV))∧RelV p.2 q.2.2) kvs xs ∧
   ∃ o es ep,h.get? a = some o∧o.ExactDict∧o.data = .dict es ep∧es.toList = xs.map (entryOfKey (tupleKind (mixKind P w)))∧(xs.map (·.1)).Nodup
 | .set S n=>h.SetOf (intKind P w) a S n
 | .ins C dx fs=>H dx = some (.own a)∧fs.length ≤ 1000∧dx ≠ a∧h.get? a = some (PySem.W.instObj C dx) ∧
   ∃ mA,h.Ns1 dx mA∧(∀ f,RelO (fs.lookup f) (mA f))∧PySem.Within mA (fs.map (·.1))
 | .own _=>∃ o,h.get? a = some o
 | .xd fs=>∃ mA,h.Ns1 a mA∧∀ f,RelO (fs.lookup f) (mA f)
 | .rng lo hi=>∃ t u v,h.get? a = some { cls:=.type "range",data:=.fields #[.int lo t,.int hi u,.int 1 v] }
 | .frz o u=>h.get? a = some o∧ObjOk H h a u
 | .tbl ps=>h.get? a = some { cls:=.none,data:=.fields ps }
 | .met f x=>h.get? a = some (PySem.W.methodObj (.ref f) (.ref x))
 | .ext φ=>φ h∧(∃ o,h.get? a = some o)∧∀ h1 h2 : Heap,φ h1→(∀ o,h1.get? a = some o→h2.get? a = some o)→φ h2
noncomputable def HOk (H : Hp) (h : Heap) : Prop:=∀ a o,H a = some o→ObjOk P w H h a o
end
section
variable {P : Program} {w : World} {H H' : Hp} {h h' : Heap} {a : Addr} {o : HO}
theorem ObjOk.lt (x : ObjOk P w H h a o) : a < h.objs.size:=by
 cases o with
 | lst xs=>obtain ⟨_,_,_,_,e⟩:=x; exact Heap.lt_size e
 | tup xs=>obtain ⟨_,_,_,p⟩:=x; exact p.lt
 | dK kvs=>obtain ⟨_,_,_,_,o,_,_,e,_⟩:=x; exact Heap.lt_size e
 | dT kvs=>obtain ⟨_,_,_,_,o,_,_,e,_⟩:=x; exact Heap.lt_size e
 | set S n=>obtain ⟨o,_,_,_,e,_⟩:=x; exact Heap.lt_size e
 | ins C dx fs=>obtain ⟨_,_,_,e,_⟩:=x; exact Heap.lt_size e
 | own y=>obtain ⟨_,e⟩:=x; exact Heap.lt_size e
 | xd fs=>obtain ⟨_,⟨_,_,_,e,_⟩,_⟩:=x; exact Heap.lt_size e
 | rng lo hi=>obtain ⟨_,_,_,e⟩:=x; exact Heap.lt_size e
 | frz ob u=>obtain ⟨e,_⟩:=x; exact Heap.lt_size e
 | tbl ps=>exact Heap.lt_size (show h.get? a = some _ from x)
 | met f y=>exact Heap.lt_size (show h.get? a = some _ from x)
 | ext φ=>obtain ⟨_,⟨_,e⟩,_⟩:=x; exact Heap.lt_size e
theorem Paired.mapP {α β : Type} {F G : α→β→Prop} : ∀ {l₁ : List α} {l₂ : List β},Paired F l₁ l₂→(∀ a b,F a b→G a b)→Paired G l₁ l₂
 | _,_,.nil,_=>.nil
 | _,_,.cons r t,f=>.cons (f _ _ r) (Paired.mapP t f)
theorem ObjOk.stay (x : ObjOk P w H h a o) (k : ∀ b u,(b = a ∨ H b = some (.own a))→h.get? b = some u→h'.get? b = some u)
  (ho : ∀ b,H b = some (.own a)→H' b = some (.own a)) (ht : ∀ b xs,H b = some (.tup xs)→H' b = some (.tup xs)) : ObjOk P w H' h' a o:=by
 induction o with
 | lst xs=>obtain ⟨z,its,n,r,e⟩:=x; exact ⟨z,its,n,r,k _ _ (.inl rfl) e⟩
 | tup xs=>obtain ⟨z,its,r,ob,e,c⟩:=x; exact ⟨z,its,r,ob,k _ _ (.inl rfl) e,c⟩
 | dK kvs=>obtain ⟨z,y,vs,r,ob,es,ep,e,c⟩:=x; exact ⟨z,y,vs,r,ob,es,ep,k _ _ (.inl rfl) e,c⟩
 | dT kvs =>
  obtain ⟨z,y,xs,r,ob,es,ep,e,c⟩:=x
  exact ⟨z,y,xs,Paired.mapP r fun p q z=>⟨z.1,ht _ _ z.2.1,z.2.2⟩,ob,es,ep,k _ _ (.inl rfl) e,c⟩
 | set S n=>obtain ⟨ob,es,ep,t,e,c⟩:=x; exact ⟨ob,es,ep,t,k _ _ (.inl rfl) e,c⟩
 | ins C dx fs =>
  obtain ⟨d,z,ne,e,mA,⟨od,es,ep,e2,c⟩,r⟩:=x
  exact ⟨ho _ d,z,ne,k _ _ (.inl rfl) e,mA,⟨od,es,ep,k _ _ (.inr d) e2,c⟩,r⟩
 | own y=>obtain ⟨ob,e⟩:=x; exact ⟨ob,k _ _ (.inl rfl) e⟩
 | xd fs=>obtain ⟨mA,⟨od,es,ep,e,c⟩,r⟩:=x; exact ⟨mA,⟨od,es,ep,k _ _ (.inl rfl) e,c⟩,r⟩
 | rng lo hi=>obtain ⟨t,u,v,e⟩:=x; exact ⟨t,u,v,k _ _ (.inl rfl) e⟩
 | frz ob u ih=>obtain ⟨e,q⟩:=x; exact ⟨k _ _ (.inl rfl) e,ih q⟩
 | tbl ps =>
  have e : h.get? a = some { cls:=.none,data:=.fields ps }:=x
  show h'.get? a = some { cls:=.none,data:=.fields ps }
  exact k a _ (.inl rfl) e
 | met f y =>
  have e : h.get? a = some (PySem.W.methodObj (.ref f) (.ref y)):=x
  show h'.get? a = some (PySem.W.methodObj (.ref f) (.ref y))
  exact k a _ (.inl rfl) e
 | ext φ=>obtain ⟨p,⟨o,e⟩,st⟩:=x; exact ⟨st _ _ p fun o q=>k _ _ (.inl rfl) q,⟨o,k _ _ (.inl rfl) e⟩,st⟩
theorem HOk.lt (x : HOk P w H h) (e : H a = some o) : a < h.objs.size:=(x a o e).lt
theorem HOk.fresh (x : HOk P w H h) (e : h.objs.size ≤ a) : H a = none:=by
 cases q : H a with
 | none=>rfl
 | some u=>exact absurd (Nat.lt_of_lt_of_le (x.lt q) e) (Nat.lt_irrefl _)
theorem HOk.kept (x : HOk P w H h) (k : ∀ b u,h.get? b = some u→h'.get? b = some u) : HOk P w H h':=fun a o e =>
 (x a o e).stay (fun b u _ q=>k b u q) (fun _ q=>q) fun _ _ q=>q
theorem HOk.laid (x : HOk P w H h) (k : ∀ b u,h.get? b = some u→h'.get? b = some u) (hp : h.objs.size ≤ a) (new : ObjOk P w (upd H a o) h' a o) : HOk P w (upd H a o) h':=fun b u e=>by
 have hn:=x.fresh hp
 by_cases hb : b = a
 ·subst hb; rw [upd_same] at e; cases e; exact new
 ·rw [upd_ne hb] at e
  exact (x b u e).stay (fun c v _ q=>k c v q) (fun c q=>by rw [upd_ne (ne_of_none q hn)]; exact q) fun c xs q=>by rw [upd_ne (ne_of_none q hn)]; exact q
end
noncomputable def Rd (H : Hp) (a : Addr) (u : HO) : Prop:=H a = some u ∨ ∃ o,H a = some (.frz o u)
theorem Rd.ok {P : Program} {w : World} {H : Hp} {h : Heap} {a : Addr} {u : HO} (r : Rd H a u) (x : HOk P w H h) : ObjOk P w H h a u:=by
 rcases r with r | ⟨o,r⟩
 ·exact x a u r
 ·obtain ⟨_,q⟩:=x a _ r
  exact q
noncomputable def Mut : Option HO→Prop
 | some (.lst _)=>True
 | some (.dK _)=>True
 | some (.dT _)=>True
 | some (.set _ _)=>True
 | some (.ins _ _ _)=>True
 | some (.ext _)=>True
 | _=>False
section
variable {P : Program} {w : World} {H : Hp} {h h' : Heap} {x e : Addr} {o' : HO}
theorem HOk.write (ok : HOk P w H h) (mu : Mut (H x)) (he : e = x ∨ H e = some (.own x)) (k : ∀ b u,b ≠ e→h.get? b = some u→h'.get? b = some u) (heo : ∃ u,h'.get? e = some u)
  (new : ObjOk P w (upd H x o') h' x o') : HOk P w (upd H x o') h':=fun b u q=>by
 have nown : ∀ c y,H c = some (.own y)→c ≠ x:=fun c y r z=>by subst z; rw [r] at mu; exact mu
 have ntup : ∀ c xs,H c = some (.tup xs)→c ≠ x:=fun c xs r z=>by subst z; rw [r] at mu; exact mu
 by_cases hb : b = x
 ·subst hb; rw [upd_same] at q; cases q; exact new
 ·rw [upd_ne hb] at q
  by_cases hbe : b = e
  ·have q' : H b = some (.own x):=by
    rcases he with z | z
    ·exact absurd (hbe.trans z) hb
    ·rw [hbe]; exact z
   rw [q] at q'; cases q'
   obtain ⟨v,hv⟩:=heo
   exact ⟨v,by rw [hbe]; exact hv⟩
  ·refine (ok b u q).stay (fun c v hc r=>k c v ?_ r) (fun c r=>by rw [upd_ne (nown c b r)]; exact r) fun c xs r=>by rw [upd_ne (ntup c xs r)]; exact r
   rcases hc with rfl | hc
   ·exact hbe
   ·rintro rfl
    rcases he with z | z
    ·exact nown c b hc z
    ·rw [hc] at z; cases z; exact hb rfl
end
structure Un (fs ex : List Addr) (H H' : Hp) (h h' : Heap) : Prop where
 keep : ∀ b o,h.get? b = some o→H b = none→b ∉ fs→b ∉ ex→h'.get? b = some o
 slot : ∀ b o,h.get? b = some o→H b = none→b ∈ fs→b ∉ ex→∃ sl,h'.get? b = some { o with slots:=sl }
 free : ∀ b o,h.get? b = some o→H b = none→b ∉ ex→H' b = none
 there : ∀ b o,h.get? b = some o→b ∉ ex→∃ o',h'.get? b = some o'
 tups : ∀ b xs,H b = some (.tup xs)→H' b = some (.tup xs)
 frzs : ∀ b o u,H b = some (.frz o u)→H' b = some (.frz o u)
 tbls : ∀ b ps,H b = some (.tbl ps)→∃ more,H' b = some (.tbl (ps ++ more))
section
variable {fs fs' ex ex' : List Addr} {H H1 H2 : Hp} {h h1 h2 h' : Heap} {a x e : Addr} {o : HO}
theorem Un.any (u : Un fs ex H H1 h h1) {b : Addr} {ob : Obj} (q : h.get? b = some ob) (n : H b = none) (hx : b ∉ ex) : ∃ sl,h1.get? b = some { ob with slots:=sl }:=by
 by_cases hb : b ∈ fs
 ·exact u.slot b ob q n hb hx
 ·exact ⟨ob.slots,u.keep b ob q n hb hx⟩
theorem Un.kept (k : ∀ b u,h.get? b = some u→h'.get? b = some u) : Un fs ex H H h h' :=
 ⟨fun b ob q _ _ _=>k b ob q,fun b ob q _ _ _=>⟨ob.slots,k b ob q⟩,fun _ _ _ n _=>n,fun b ob q _=>⟨ob,k b ob q⟩,fun _ _ q=>q,fun _ _ _ q=>q,fun _ ps q=>⟨#[],by rw [q]; simp⟩⟩
theorem Un.refl : Un fs ex H H h h:=Un.kept fun _ _ q=>q
theorem Un.laid (k : ∀ b u,h.get? b = some u→h'.get? b = some u) (hp : h.objs.size ≤ a) (hn : H a = none) : Un fs ex H (upd H a o) h h' where
 keep:=fun b u q _ _ _=>k b u q
 slot:=fun b u q _ _ _=>⟨u.slots,k b u q⟩
 free:=fun b u q n _=>by rw [upd_ne (Nat.ne_of_lt (Nat.lt_of_lt_of_le (Heap.lt_size q) hp))]; exact n
 there:=fun b u q _=>⟨u,k b u q⟩
 tups:=fun b xs q=>by rw [upd_ne (ne_of_none q hn)]; exact q
 frzs:=fun b u xs q=>by rw [upd_ne (ne_of_none q hn)]; exact q
 tbls:=fun b ps q=>⟨#[],by rw [upd_ne (ne_of_none q hn),q]; simp⟩
theorem Un.write (mu : Mut (H x)) (he : e = x ∨ H e = some (.own x)) (k : ∀ b u,b ≠ e→h.get? b = some u→h'.get? b = some u) (heo : ∃ u,h'.get? e = some u) : Un fs ex H (upd H x o) h h':=by
 have hx : ∀ b,H b = none→b ≠ x:=fun b n z=>by subst z; rw [n] at mu; exact mu
 have hb : ∀ b,H b = none→b ≠ e:=fun b n z=>by
  subst z
  rcases he with r | r
  ·exact hx b n r
  ·rw [n] at r; cases r
 have hm : ∀ b u,H b = some u→¬ Mut (some u)→b ≠ x:=fun b u q nm z=>by subst z; rw [q] at mu; exact nm mu
 refine ⟨fun b u q n _ _=>k b u (hb b n) q,fun b u q n _ _=>⟨u.slots,k b u (hb b n) q⟩,fun b u q n _=>by rw [upd_ne (hx b n)]; exact n,fun b u q _=>?_,
  fun b xs q=>by rw [upd_ne (hm b _ q fun z=>z)]; exact q,fun b u xs q=>by rw [upd_ne (hm b _ q fun z=>z)]; exact q,fun b ps q=>⟨#[],by rw [upd_ne (hm b _ q fun z=>z),q]; simp⟩⟩
 by_cases hbe : b = e
 ·subst hbe; exact heo
 ·exact ⟨u,k b u hbe q⟩
end
noncomputable def trk (h : Heap) (H : Hp) : List Addr:=(List.range h.objs.size).filter fun a=>(H a).isSome
noncomputable def hidT (h : Heap) (H : Hp) : Heap:=PySem.W.hideAll h (trk h H)
theorem hidT_size (h : Heap) (H : Hp) : (hidT h H).objs.size = h.objs.size:=PySem.W.hideAll_size _ _
theorem hidT_get {h : Heap} {H : Hp} {b : Addr} {o : Obj} (e : h.get? b = some o) (n : H b = none) : (hidT h H).get? b = some o :=
 PySem.W.hideAll_get _ e fun hm=>by
  have q : (H b).isSome = true:=(List.mem_filter.mp hm).2
  rw [n] at q; simp at q
theorem of_hidT {h : Heap} {H : Hp} {b : Addr} {o : Obj} (e : (hidT h H).get? b = some o) : h.get? b = some o∧H b = none:=by
 have e' : h.get? b = some o:=PySem.W.of_hideAll (trk h H) e
 refine ⟨e',?_⟩
 cases q : H b with
 | none=>rfl
 | some x =>
  have hm : b ∈ trk h H:=List.mem_filter.mpr ⟨List.mem_range.mpr (Heap.lt_size e'),by simp [q]⟩
  have z : (hidT h H).get? b = none:=PySem.W.hideAll_none (trk h H) hm
  rw [z] at e; cases e
end L2
namespace L2
open PySem PySem.Spec PyProof.Rows
structure Mod (K : PySem.W.Frag) (mg : Str→Option Value) (base : Heap) : Prop where
 kin : K.In base
 glob : base.Ns mainGlobals mg
 blt : ∃ mb,base.Ns builtinsNs mb∧∀ x : Str,x ≠ "__name__"→mb x = bootBuiltins x
 nolimit : base.NoLimit
structure Cx where
 prog : Program
 w : World
 K : PySem.W.Frag
 mg : Str→Option Value
 base : Heap
 A : Around
 N : List Str
 s₀ : Shared
 H₀ : Hp
 env : Env
 outer : List Env
 stack : List Env
 ex : List Addr
 fn : Str→Bool
 calm : Bool
 pn : List (Addr × Obj)
 xe : Value→Shared→Prop
noncomputable def frs (l : List Env) : List Addr:=l.filterMap (·.frame)
noncomputable abbrev Cx.fs (X : Cx) : List Addr:=frs X.outer
noncomputable def Vis (sc : Scope) (x : Str) : Prop:=sc.names.lookup x = some .local ∨ sc.names.lookup x = some .cell ∨ sc.names.lookup x = some .free
noncomputable def Loc (sc : Scope) (x : Str) : Prop:=sc.names.lookup x = some .local ∨ sc.names.lookup x = some .cell
noncomputable def Look (env : Env) (h : Heap) (m : Str→Option Value) (x : Str) (u : Value) : Prop :=
 (env.kindOf x = some .local∧m x = some u) ∨ ((env.kindOf x = some .cell ∨ env.kindOf x = some .free)∧∃ c,env.cells.lookup x = some c∧h.IsCell c (some u))
structure Cx.Ok (X : Cx) : Prop where
 mod : Mod X.K X.mg X.base
 kind : X.env.scope.kind = .function
 glob : X.env.globals = mainGlobals
 blt : X.env.builtins = builtinsNs
 above : X.s₀.heap.objs.size ≤ X.env.locals
 inj : ∀ x y c,X.env.cells.lookup x = some c→X.env.cells.lookup y = some c→x = y
 has : ∀ x,(X.env.kindOf x = some .cell ∨ X.env.kindOf x = some .free)→∃ c,X.env.cells.lookup x = some c
 cab : ∀ x c,X.fn x = true→X.env.cells.lookup x = some c→X.s₀.heap.objs.size ≤ c
 hd : X.calm = true→X.A.handled = none
 frames : X.A.frames = some X.stack
 stk : X.stack = X.outer ∨ (X.stack = X.env :: X.outer∧X.env.frame = some X.env.locals)
 exf : ∀ b ∈ X.ex,b ≠ X.env.locals∧∀ x c,X.env.cells.lookup x = some c→c ≠ b
 bs : ∀ b o,X.base.get? b = some o→X.s₀.heap.get? b = some o∧X.H₀ b = none
 bsz : X.base.objs.size ≤ X.s₀.heap.objs.size
 noex : ∀ b o,X.base.get? b = some o→b ∉ X.ex
 exfs : ∀ b ∈ X.ex,b ∉ X.fs
 funs : X.s₀.heap.FunFrames X.base X.outer
 frf : ∀ b ∈ X.fs,X.H₀ b = none
structure Inv (X : Cx) (pins : List (Addr × Obj)) (σ : List (Option V)) (H : Hp) (s : Shared) : Prop where
 ok : X.Ok
 os : s.os = X.s₀.os
 bare : AllBare s.gens
 base : Un X.fs X.ex X.H₀ H X.s₀.heap s.heap
 loc : ∃ m,s.heap.Ns X.env.locals m∧∀ (i : Nat) (x : Str) (v : V),X.N[i]? = some x→σ[i]? = some (some v)→Vis X.env.scope x→∃ u,RelV v u∧Look X.env s.heap m x u
 cell : ∀ x c,X.env.cells.lookup x = some c→∃ v,s.heap.IsCell c v
 free : H X.env.locals = none
 freeC : ∀ x c,X.env.cells.lookup x = some c→H c = none
 pin : ∀ p ∈ X.pn ++ pins,s.heap.get? p.1 = some p.2∧H p.1 = none∧p.1 ≠ X.env.locals∧p.1 ∉ X.fs∧∀ v,p.2.data ≠ .cell v
 hok : HOk X.prog X.w H s.heap
 len : σ.length = X.N.length
section
variable {X : Cx} {pins : List (Addr × Obj)} {σ : List (Option V)} {H H' : Hp} {s : Shared} {h' : Heap}
theorem Cx.Ok.nofr (ok : X.Ok) {b : Addr} {o : Obj} (e : X.base.get? b = some o) : b ∉ X.fs:=fun hb=>by
 have:=(ok.funs.mem hb).1
 rw [e] at this; cases this
theorem Inv.bs (I : Inv X pins σ H s) : ∀ b o,X.base.get? b = some o→s.heap.get? b = some o∧H b = none:=fun b o e =>
 ⟨I.base.keep b o (I.ok.bs b o e).1 (I.ok.bs b o e).2 (I.ok.nofr e) (I.ok.noex b o e),I.base.free b o (I.ok.bs b o e).1 (I.ok.bs b o e).2 (I.ok.noex b o e)⟩
theorem Inv.bk (I : Inv X pins σ H s) : ∀ b o,X.base.get? b = some o→s.heap.get? b = some o:=fun b o e=>(I.bs b o e).1
theorem Inv.mod (I : Inv X pins σ H s) : Mod X.K X.mg X.base:=I.ok.mod
theorem Inv.kIn (I : Inv X pins σ H s) : X.K.In s.heap:=I.ok.mod.kin.keeps I.bk
theorem Inv.lt (I : Inv X pins σ H s) : X.env.locals < s.heap.objs.size:=let ⟨_,hn,_⟩:=I.loc; hn.lt
theorem Inv.sz (I : Inv X pins σ H s) : X.s₀.heap.objs.size ≤ s.heap.objs.size:=Nat.le_trans I.ok.above (Nat.le_of_lt I.lt)
theorem Inv.nofs (I : Inv X pins σ H s) {a : Addr} (h : s.heap.objs.size ≤ a) : a ∉ X.fs:=fun hb=>by
 obtain ⟨_,o,ho,_⟩:=I.ok.funs.mem hb
 exact absurd (Nat.lt_of_lt_of_le (Heap.lt_size ho) (Nat.le_trans I.sz h)) (Nat.lt_irrefl _)
theorem Inv.cne (I : Inv X pins σ H s) : ∀ x c,X.env.cells.lookup x = some c→c ≠ X.env.locals:=fun x c e z=>by
 obtain ⟨v,o,ho,hd⟩:=I.cell x c e
 obtain ⟨m,⟨o',es,ep,ho',hd',_⟩,_⟩:=I.loc
 rw [z,ho'] at ho; cases ho; rw [hd'] at hd; cases hd
theorem Inv.funs (I : Inv X pins σ H s) : s.heap.FunFrames X.base X.outer:=by
 have all : ∀ (l : List Env),(∀ b ∈ frs l,b ∈ X.fs)→X.s₀.heap.FunFrames X.base l→s.heap.FunFrames X.base l:=by
  intro l
  induction l with
  | nil=>intro _ _; trivial
  | cons env r ih =>
   intro hs hl
   obtain ⟨hk,⟨L,o,hf,hn,ho,hd⟩,hr⟩:=hl
   have hL : L ∈ X.fs:=hs L (by unfold frs; rw [List.filterMap_cons,hf]; exact List.mem_cons_self)
   obtain ⟨sl,e⟩:=I.base.slot L o ho (I.ok.frf L hL) hL fun z=>I.ok.exfs L z hL
   exact ⟨hk,⟨L,_,hf,hn,e,hd⟩,ih (fun b hb=>hs b (by unfold frs; rw [List.filterMap_cons,hf]; exact List.mem_cons_of_mem _ hb)) hr⟩
 exact all X.outer (fun _ hb=>hb) I.ok.funs
theorem Inv.stack (I : Inv X pins σ H s) : s.heap.FunFrames X.base X.stack:=by
 rcases I.ok.stk with e | ⟨e,hf⟩
 ·rw [e]; exact I.funs
 ·rw [e]
  obtain ⟨m,hn,_⟩:=I.loc
  refine .cons (by rw [I.ok.kind]; decide) hf hn ?_ I.funs
  exact Heap.get?_none_of_le (Nat.le_trans I.ok.bsz I.ok.above)
theorem Inv.stkSub (I : Inv X pins σ H s) : ∀ b ∈ frs X.stack,b ∈ X.env.locals :: X.fs:=fun b hb=>by
 rcases I.ok.stk with e | ⟨e,hf⟩
 ·rw [e] at hb; exact List.mem_cons_of_mem _ hb
 ·rw [e] at hb
  unfold frs at hb
  rw [List.filterMap_cons,hf] at hb
  exact hb
theorem Inv.stkFree (I : Inv X pins σ H s) : ∀ b ∈ frs X.stack,H b = none:=fun b hb=>by
 rcases List.mem_cons.mp (I.stkSub b hb) with e | hb
 ·rw [e]; exact I.free
 ·obtain ⟨_,o,ho,_⟩:=I.ok.funs.mem hb
  exact I.base.free b o ho (I.ok.frf b hb) fun z=>I.ok.exfs b z hb
theorem Inv.step {g' : Array GenState} {t' : Nat} {d' : Drawn} {ch : List Addr} (I : Inv X pins σ H s)
  (hch : ∀ b ∈ ch,(b ∈ X.ex ∨ X.s₀.heap.objs.size ≤ b)∧b ≠ X.env.locals∧(∀ x c,X.env.cells.lookup x = some c→c ≠ b)∧∀ p ∈ X.pn ++ pins,p.1 ≠ b)
  (keep : ∀ b o,b ≠ X.env.locals→b ∉ X.fs→b ∉ ch→s.heap.get? b = some o→H b = none→h'.get? b = some o)
  (slot : ∀ b o,b ≠ X.env.locals→b ∈ X.fs→b ∉ ch→s.heap.get? b = some o→H b = none→∃ sl,h'.get? b = some { o with slots:=sl }) (free : ∀ b o,b ∉ ch→s.heap.get? b = some o→H b = none→H' b = none)
  (there : ∀ b o,b ∉ ch→s.heap.get? b = some o→∃ o',h'.get? b = some o')
  (tups : ∀ b xs,H b = some (.tup xs)→H' b = some (.tup xs)) (frzs : ∀ b o u,H b = some (.frz o u)→H' b = some (.frz o u)) (tbls : ∀ b ps,H b = some (.tbl ps)→∃ more,H' b = some (.tbl (ps ++ more)))
  (ns : ∀ m,s.heap.Ns X.env.locals m→h'.Ns X.env.locals m) (hok : HOk X.prog X.w H' h') (hg : AllBare g') :
  Inv X pins σ H' { s with heap:=h',gens:=g',drawn:=d',toks:=t' }:=by
 have neL : ∀ b o,X.s₀.heap.get? b = some o→b ≠ X.env.locals:=fun b o e=>Nat.ne_of_lt (Nat.lt_of_lt_of_le (Heap.lt_size e) I.ok.above)
 have neC : ∀ b o,X.s₀.heap.get? b = some o→b ∉ X.ex→b ∉ ch:=fun b o e hx hb=>by
  rcases (hch b hb).1 with z | z
  ·exact hx z
  ·exact absurd (Nat.lt_of_lt_of_le (Heap.lt_size e) z) (Nat.lt_irrefl _)
 have cellK : ∀ x c,X.env.cells.lookup x = some c→∀ v,s.heap.IsCell c v→h'.IsCell c v:=fun x c e v ⟨o,ho,hd⟩=>by
  have nch : c ∉ ch:=fun z=>(hch c z).2.2.1 x c e rfl
  by_cases hc : c ∈ X.fs
  ·obtain ⟨sl,q⟩:=slot c o (I.cne x c e) hc nch ho (I.freeC x c e)
   exact ⟨_,q,hd⟩
  ·exact ⟨o,keep c o (I.cne x c e) hc nch ho (I.freeC x c e),hd⟩
 refine ⟨I.ok,I.os,hg,⟨fun b o e n hb hx=>?_,fun b o e n hb hx=>?_,fun b o e n hx=>?_,fun b o e hx=>?_,fun b xs e=>tups b xs (I.base.tups b xs e),fun b o xs e=>frzs b o xs (I.base.frzs b o xs e),fun b ps e=>?_⟩,?_,fun x c e=>?_,?_,fun x c e=>?_,fun p hp=>?_,hok,I.len⟩
 ·exact keep b o (neL b o e) hb (neC b o e hx) (I.base.keep b o e n hb hx) (I.base.free b o e n hx)
 ·obtain ⟨sl,e1⟩:=I.base.slot b o e n hb hx
  obtain ⟨sl',e2⟩:=slot b _ (neL b o e) hb (neC b o e hx) e1 (I.base.free b o e n hx)
  exact ⟨sl',e2⟩
 ·obtain ⟨o',e1⟩:=I.base.there b o e hx
  exact free b o' (neC b o e hx) e1 (I.base.free b o e n hx)
 ·obtain ⟨o',e1⟩:=I.base.there b o e hx
  exact there b o' (neC b o e hx) e1
 ·obtain ⟨m1,e1⟩:=I.base.tbls b ps e
  obtain ⟨m2,e2⟩:=tbls b _ e1
  exact ⟨m1 ++ m2,by rw [e2,Array.append_assoc]⟩
 ·obtain ⟨m,hn,hl⟩:=I.loc
  refine ⟨m,ns m hn,fun i x v e1 e2 e3=>?_⟩
  obtain ⟨u,r,l⟩:=hl i x v e1 e2 e3
  refine ⟨u,r,?_⟩
  rcases l with l | ⟨k,c,e,z⟩
  ·exact .inl l
  ·exact .inr ⟨k,c,e,cellK x c e _ z⟩
 ·obtain ⟨v,z⟩:=I.cell x c e
  exact ⟨v,cellK x c e v z⟩
 ·obtain ⟨m,⟨o,_,_,ho,_⟩,_⟩:=I.loc
  exact free _ o (fun z=>(hch _ z).2.1 rfl) ho I.free
 ·obtain ⟨v,o,ho,hd⟩:=I.cell x c e
  exact free c o (fun z=>(hch c z).2.2.1 x c e rfl) ho (I.freeC x c e)
 ·obtain ⟨e,n,ne,nf,d⟩:=I.pin p hp
  have nch : p.1 ∉ ch:=fun z=>(hch p.1 z).2.2.2 p hp rfl
  exact ⟨keep p.1 p.2 ne nf nch e n,free p.1 p.2 nch e n,ne,nf,d⟩
theorem Inv.un {t' : Nat} (I : Inv X pins σ H s) (u : Un X.fs [] H H' s.heap h') (hok : HOk X.prog X.w H' h') : Inv X pins σ H' { s with heap:=h',toks:=t' }:=by
 obtain ⟨m,⟨o,es,ep,ho,r⟩,_⟩:=id I.loc
 obtain ⟨sl,hL⟩:=u.any ho I.free (by simp)
 exact I.step (g':=s.gens) (d':=s.drawn) (ch:=[]) (fun _ z=>nomatch z) (fun b o _ hb _ e n=>u.keep b o e n hb (by simp)) (fun b o _ hb _ e n=>u.slot b o e n hb (by simp)) (fun b o _ e n=>u.free b o e n (by simp)) (fun b o _ e=>u.there b o e (by simp)) u.tups u.frzs u.tbls (fun m' hm=>by
  obtain ⟨o',es',ep',ho',r'⟩:=hm
  rw [ho] at ho'; cases ho'
  exact ⟨_,es',ep',hL,r'⟩) hok I.bare
theorem Inv.call {g' : Array GenState} {t' : Nat} {d' : Drawn} {ch : List Addr} (I : Inv X pins σ H s) (u : Un (frs X.stack) ch H H' s.heap h') (hok : HOk X.prog X.w H' h') (hg : AllBare g')
  (hch : ∀ b ∈ ch,(b ∈ X.ex ∨ X.s₀.heap.objs.size ≤ b)∧b ≠ X.env.locals∧(∀ x c,X.env.cells.lookup x = some c→c ≠ b)∧∀ p ∈ X.pn ++ pins,p.1 ≠ b) :
  Inv X pins σ H' { s with heap:=h',gens:=g',drawn:=d',toks:=t' }:=by
 obtain ⟨m,⟨o,es,ep,ho,r⟩,_⟩:=id I.loc
 obtain ⟨sl,hL⟩:=u.any ho I.free fun z=>(hch _ z).2.1 rfl
 exact I.step (ch:=ch) hch (fun b o hL hb hc e n=>u.keep b o e n (fun z=>(List.mem_cons.mp (I.stkSub b z)).elim hL hb) hc) (fun b o _ _ hc e n=>u.any e n hc) (fun b o hc e n=>u.free b o e n hc) (fun b o hc e=>u.there b o e hc) u.tups u.frzs u.tbls (fun m' hm=>by
  obtain ⟨o',es',ep',ho',r'⟩:=hm
  rw [ho] at ho'; cases ho'
  exact ⟨_,es',ep',hL,r'⟩) hok hg
theorem Inv.turned {t' : Nat} {it : Addr} (I : Inv X pins σ H s) (k : ∀ b o,b ≠ it→s.heap.get? b = some o→h'.get? b = some o) (hn : H it = none) (hL : it ≠ X.env.locals)
  (h1 : it ∈ X.ex ∨ X.s₀.heap.objs.size ≤ it) (h2 : ∀ x c,X.env.cells.lookup x = some c→c ≠ it) (h3 : ∀ p ∈ X.pn ++ pins,p.1 ≠ it) : Inv X pins σ H { s with heap:=h',toks:=t' }:=by
 have nit : ∀ b u,H b = some u→b ≠ it:=fun b u e z=>by rw [z,hn] at e; cases e
 refine I.step (g':=s.gens) (d':=s.drawn) (ch:=[it]) (fun b hb=>?_) (fun b o _ _ hc e _=>k b o (fun z=>hc (by simp [z])) e) (fun b o _ _ hc e _=>⟨o.slots,k b o (fun z=>hc (by simp [z])) e⟩) (fun _ _ _ _ n=>n)
  (fun b o hc e=>⟨o,k b o (fun z=>hc (by simp [z])) e⟩) (fun _ _ e=>e) (fun _ _ _ e=>e) (fun b ps e=>⟨#[],by rw [e]; simp⟩) (fun m hm=>?_) (fun b u e=>?_) I.bare
 ·have e : b = it:=by simpa using hb
  subst e
  exact ⟨h1,hL,h2,h3⟩
 ·obtain ⟨o,es,ep,ho,r⟩:=hm
  exact ⟨o,es,ep,k _ o (Ne.symm hL) ho,r⟩
 ·refine (I.hok b u e).stay (fun c v hc q=>k c v ?_ q) (fun _ q=>q) fun _ _ q=>q
  rcases hc with z | z
  ·rw [z]; exact nit b u e
  ·exact nit c _ z
theorem Inv.tok (I : Inv X pins σ H s) (t : Nat) : Inv X pins σ H { s with toks:=t }:=I.un (h':=s.heap) (t':=t) Un.refl I.hok
theorem Inv.kept {t' : Nat} (I : Inv X pins σ H s) (k : ∀ b u,s.heap.get? b = some u→h'.get? b = some u) : Inv X pins σ H { s with heap:=h',toks:=t' }:=I.un (Un.kept k) (I.hok.kept k)
theorem Inv.laid {a : Addr} {o : HO} {t' : Nat} (I : Inv X pins σ H s) (k : ∀ b u,s.heap.get? b = some u→h'.get? b = some u) (hp : s.heap.objs.size ≤ a) (new : ObjOk X.prog X.w (upd H a o) h' a o) :
  Inv X pins σ (upd H a o) { s with heap:=h',toks:=t' }:=I.un (Un.laid k hp (I.hok.fresh hp)) (I.hok.laid k hp new)
theorem Inv.write {x e : Addr} {o : HO} {t' : Nat} (I : Inv X pins σ H s) (mu : Mut (H x)) (he : e = x ∨ H e = some (.own x)) (k : ∀ b u,b ≠ e→s.heap.get? b = some u→h'.get? b = some u) (heo : ∃ u,h'.get? e = some u)
  (new : ObjOk X.prog X.w (upd H x o) h' x o) : Inv X pins σ (upd H x o) { s with heap:=h',toks:=t' }:=I.un (Un.write mu he k heo) (I.hok.write mu he k heo new)
theorem Inv.pins_of {pins' : List (Addr × Obj)} (I : Inv X pins σ H s) (h : ∀ p ∈ pins',s.heap.get? p.1 = some p.2∧H p.1 = none∧p.1 ≠ X.env.locals∧p.1 ∉ X.fs∧∀ v,p.2.data ≠ .cell v) : Inv X pins' σ H s :=
 ⟨I.ok,I.os,I.bare,I.base,I.loc,I.cell,I.free,I.freeC,fun p hp=>(List.mem_append.mp hp).elim (fun z=>I.pin p (List.mem_append_left _ z)) (h p),I.hok,I.len⟩
theorem nodup_ix {N : List Str} (hN : N.Nodup) {i j : Nat} {x : Str} (a : N[i]? = some x) (b : N[j]? = some x) : i = j:=by
 obtain ⟨h1,e1⟩:=List.getElem?_eq_some_iff.mp a
 obtain ⟨h2,e2⟩:=List.getElem?_eq_some_iff.mp b
 exact (List.getElem_inj hN).mp (e1.trans e2.symm)
theorem store_ok2 {M : Model} {A : Around} {E : Value→Shared→Prop} {i : Nat} {x : Str} {v : V} {u : Value} {Q : Unit→Shared→Prop} (I : Inv X pins σ H s) (hN : X.N.Nodup) (hi : X.N[i]? = some x) (hx : Loc X.env.scope x) (r : RelV v u)
  (h : ∀ s',Inv X pins (σ.set i (some v)) H s'→(∃ a,Heap.SameBut a s.heap s'.heap∧(a = X.env.locals ∨ X.env.cells.lookup x = some a))→Q () s') (hf : X.fn x = true ∨ X.env.scope.names.lookup x = some .local:=by first | exact .inl rfl | exact .inr rfl | assumption) : wpAny M A (storeName X.env x u) Q E s:=by
 obtain ⟨m,hn,hl⟩:=id I.loc
 have hcls : (X.env.scope.kind == .class || (X.env.scope.kind == .module && X.env.locals != X.env.globals)) = false:=by rw [I.ok.kind]; rfl
 have hiσ : i < σ.length:=by rw [I.len]; exact (List.getElem?_eq_some_iff.mp hi).1
 have cne:=I.cne
 have tracked : ∀ {a : Addr} {h' : Heap},(∃ o,s.heap.get? a = some o∧H a = none)→Heap.SameBut a s.heap h'→HOk X.prog X.w H h':=fun {a h'} ha hs b ob e=>by
  obtain ⟨_,_,hfree⟩:=ha
  refine (I.hok b ob e).stay (fun c w' hc q=>(hs.2 c ?_).trans q) (fun _ q=>q) fun _ _ q=>q
  rintro rfl
  rcases hc with rfl | hc
  ·rw [hfree] at e; cases e
  ·rw [hfree] at hc; cases hc
 rcases hx with hk | hk
 ·refine wpAny_storeName_local hk hn (fun h' hn' hs=>?_) hcls
  obtain ⟨oL,_,_,hoL,_⟩:=id hn
  refine h _ ⟨I.ok,I.os,I.bare,⟨fun b o e n hb hx=>?_,fun b o e n hb hx=>?_,I.base.free,fun b o e hx=>?_,I.base.tups,I.base.frzs,I.base.tbls⟩,⟨_,hn',fun j y v' e1 e2 e3=>?_⟩,fun y c e=>?_,I.free,I.freeC,fun p hp=>?_,tracked ⟨oL,hoL,I.free⟩ hs,by simpa using I.len⟩ ⟨_,hs,.inl rfl⟩
  ·exact (hs.2 b (Nat.ne_of_lt (Nat.lt_of_lt_of_le (Heap.lt_size e) I.ok.above))).trans (I.base.keep b o e n hb hx)
  ·obtain ⟨sl,e1⟩:=I.base.slot b o e n hb hx
   exact ⟨sl,(hs.2 b (Nat.ne_of_lt (Nat.lt_of_lt_of_le (Heap.lt_size e) I.ok.above))).trans e1⟩
  ·obtain ⟨o',e1⟩:=I.base.there b o e hx
   exact ⟨o',(hs.2 b (Nat.ne_of_lt (Nat.lt_of_lt_of_le (Heap.lt_size e) I.ok.above))).trans e1⟩
  ·by_cases hj : j = i
   ·subst hj
    rw [hi] at e1; cases e1
    rw [List.getElem?_set_self hiσ] at e2
    cases e2
    exact ⟨u,r,.inl ⟨hk,by simp⟩⟩
   ·rw [List.getElem?_set_ne (Ne.symm hj)] at e2
    obtain ⟨u',r',q⟩:=hl j y v' e1 e2 e3
    refine ⟨u',r',?_⟩
    rcases q with ⟨k,e⟩ | ⟨k,c,e,z⟩
    ·refine .inl ⟨k,?_⟩
     have : y ≠ x:=fun e=>hj (nodup_ix hN e1 (e ▸ hi))
     simp [this,e]
    ·exact .inr ⟨k,c,e,z.sameBut hs (cne y c e)⟩
  ·obtain ⟨w',z⟩:=I.cell y c e
   exact ⟨w',z.sameBut hs (cne y c e)⟩
  ·obtain ⟨e,n,ne,nf,d⟩:=I.pin p hp
   exact ⟨(hs.2 p.1 ne).trans e,n,ne,nf,d⟩
 ·have hfn : X.fn x = true:=by
   rcases hf with z | z
   ·exact z
   ·rw [z] at hk; cases hk
  obtain ⟨c,hc⟩:=I.ok.has x (.inl hk)
  obtain ⟨w',z⟩:=I.cell x c hc
  refine wpAny_storeName_cell I.ok.kind hk hc z (fun h' hc' hs=>?_)
  obtain ⟨oc,hoc,hocd⟩:=id z
  refine h { s with heap:=h' } ⟨I.ok,I.os,I.bare,⟨fun b o e n hb hx=>?_,fun b o e n hb hx=>?_,I.base.free,fun b o e hx=>?_,I.base.tups,I.base.frzs,I.base.tbls⟩,⟨m,hn.sameBut hs (Ne.symm (cne x c hc)),fun j y v' e1 e2 e3=>?_⟩,fun y c' e=>?_,I.free,I.freeC,fun p hp=>?_,tracked ⟨oc,hoc,I.freeC x c hc⟩ hs,by simpa using I.len⟩ ⟨c,hs,.inr hc⟩
  ·exact (hs.2 b (Nat.ne_of_lt (Nat.lt_of_lt_of_le (Heap.lt_size e) (I.ok.cab x c hfn hc)))).trans (I.base.keep b o e n hb hx)
  ·obtain ⟨sl,e1⟩:=I.base.slot b o e n hb hx
   exact ⟨sl,(hs.2 b (Nat.ne_of_lt (Nat.lt_of_lt_of_le (Heap.lt_size e) (I.ok.cab x c hfn hc)))).trans e1⟩
  ·obtain ⟨o',e1⟩:=I.base.there b o e hx
   exact ⟨o',(hs.2 b (Nat.ne_of_lt (Nat.lt_of_lt_of_le (Heap.lt_size e) (I.ok.cab x c hfn hc)))).trans e1⟩
  ·by_cases hj : j = i
   ·subst hj
    rw [hi] at e1; cases e1
    rw [List.getElem?_set_self hiσ] at e2
    cases e2
    exact ⟨u,r,.inr ⟨.inl hk,c,hc,hc'⟩⟩
   ·rw [List.getElem?_set_ne (Ne.symm hj)] at e2
    obtain ⟨u',r',q⟩:=hl j y v' e1 e2 e3
    refine ⟨u',r',?_⟩
    rcases q with q | ⟨k,c',e,z'⟩
    ·exact .inl q
    ·refine .inr ⟨k,c',e,z'.sameBut hs ?_⟩
     rintro rfl
     exact hj (nodup_ix hN e1 (I.ok.inj _ _ _ e hc ▸ hi))
  ·by_cases hcc : c' = c
   ·subst hcc; exact ⟨_,hc'⟩
   ·obtain ⟨w2,z2⟩:=I.cell y c' e
    exact ⟨w2,z2.sameBut hs hcc⟩
  ·obtain ⟨e,n,ne,nf,d⟩:=I.pin p hp
   refine ⟨(hs.2 p.1 ?_).trans e,n,ne,nf,d⟩
   intro q
   rw [q,hoc] at e
   have q' : oc = p.2:=Option.some.inj e
   exact d w' (by rw [← q']; exact hocd)
theorem store_ok {M : Model} {A : Around} {E : Value→Shared→Prop} {i : Nat} {x : Str} {v : V} {u : Value} {Q : Unit→Shared→Prop} (I : Inv X pins σ H s) (hN : X.N.Nodup) (hi : X.N[i]? = some x) (hx : Loc X.env.scope x) (r : RelV v u)
  (h : ∀ s',Inv X pins (σ.set i (some v)) H s'→Q () s') (hf : X.fn x = true ∨ X.env.scope.names.lookup x = some .local:=by first | exact .inl rfl | exact .inr rfl | assumption) : wpAny M A (storeName X.env x u) Q E s :=
 store_ok2 I hN hi hx r (fun s' I' _=>h s' I') hf
theorem Inv.call' {s' : Shared} {ch : List Addr} (I : Inv X pins σ H s) (ho : s'.os = s.os) (u : Un (frs X.stack) ch H H' s.heap s'.heap) (hok : HOk X.prog X.w H' s'.heap) (hg : AllBare s'.gens)
  (hch : ∀ b ∈ ch,(b ∈ X.ex ∨ X.s₀.heap.objs.size ≤ b)∧b ≠ X.env.locals∧(∀ x c,X.env.cells.lookup x = some c→c ≠ b)∧∀ p ∈ X.pn ++ pins,p.1 ≠ b) : Inv X pins σ H' s':=by
 obtain ⟨h',g',d',t',o'⟩:=s'
 have e : o' = s.os:=ho
 subst e
 exact I.call (g':=g') (t':=t') (d':=d') u hok hg hch
end
noncomputable abbrev XK:=Value→Option Addr→Hp→Prop
noncomputable abbrev St:=List (Option V)
noncomputable abbrev VK:=V→Hp→Prop
noncomputable abbrev TE:=St→Hp→VK→Prop
noncomputable abbrev TT:=St→Hp→(Bool→Hp→Prop)→Prop
noncomputable abbrev TA:=St→Hp→(List V→Hp→Prop)→Prop
structure Ends where
 nx : St→Hp→Prop
 rt : VK
 bk : St→Hp→Prop:=fun _ _=>False
 ct : St→Hp→Prop:=fun _ _=>False
noncomputable abbrev TS:=Ends→St→Hp→Prop
noncomputable def EP (X : Cx) (pins : List (Addr × Obj)) (σ : St) (Q : VK) (u : Value) (s' : Shared) : Prop:=∃ v H',Inv X pins σ H' s'∧RelV v u∧Q v H'
noncomputable def TP (X : Cx) (pins : List (Addr × Obj)) (σ : St) (Q : Bool→Hp→Prop) (b : Bool) (s' : Shared) : Prop:=∃ H',Inv X pins σ H' s'∧Q b H'
noncomputable def AP (X : Cx) (pins : List (Addr × Obj)) (σ : St) (Q : List V→Hp→Prop) (us : List Value) (s' : Shared) : Prop:=∃ vs H',Inv X pins σ H' s'∧Vals vs us∧Q vs H'
noncomputable def SP (X : Cx) (pins : List (Addr × Obj)) (D : Ends) (f : Flow) (s' : Shared) : Prop :=
 match f with
 | .next=>∃ σ' H',Inv X pins σ' H' s'∧D.nx σ' H'
 | .brk=>∃ σ' H',Inv X pins σ' H' s'∧D.bk σ' H'
 | .cont=>∃ σ' H',Inv X pins σ' H' s'∧D.ct σ' H'
 | .ret u=>∃ v σ' H',Inv X pins σ' H' s'∧RelV v u∧D.rt v H'
noncomputable def PE (X : Cx) (e : Expr) (t : TE) : Prop :=
 ∀ (pins : List (Addr × Obj)) (s : Shared) (σ : St) (H : Hp) (Q : VK),Inv X pins σ H s→t σ H Q→wpAny (model X.prog X.w) X.A (eval e X.env) (EP X pins σ Q) X.xe s
noncomputable def PT (X : Cx) (e : Expr) (t : TT) : Prop :=
 ∀ (pins : List (Addr × Obj)) (s : Shared) (σ : St) (H : Hp) (Q : Bool→Hp→Prop),Inv X pins σ H s→t σ H Q→wpAny (model X.prog X.w) X.A (isTrue e X.env (eval e X.env)) (TP X pins σ Q) X.xe s
noncomputable def PW (X : Cx) (e : Expr) (t : TT) : Prop :=
 ∀ (whole : Sem Value) (pins : List (Addr × Obj)) (s : Shared) (σ : St) (H : Hp) (Q : Bool→Hp→Prop),Inv X pins σ H s→t σ H Q→wpAny (model X.prog X.w) X.A (isTrue e X.env whole) (TP X pins σ Q) X.xe s
theorem PW.pt {X : Cx} {e : Expr} {t : TT} (h : PW X e t) : PT X e t:=h _
noncomputable def PA (X : Cx) (es : List Expr) (t : TA) : Prop :=
 ∀ (pos : Pos) (pins : List (Addr × Obj)) (s : Shared) (σ : St) (H : Hp) (Q : List V→Hp→Prop),Inv X pins σ H s→t σ H Q→wpAny (model X.prog X.w) X.A (spliced (backTo pos (starEach es X.env))) (AP X pins σ Q) X.xe s
noncomputable def PS (X : Cx) (st : Stmt) (t : TS) : Prop :=
 ∀ (pins : List (Addr × Obj)) (s : Shared) (σ : St) (H : Hp) (D : Ends),Inv X pins σ H s→t D σ H→wpAny (model X.prog X.w) X.A (exec st X.env) (SP X pins D) X.xe s
noncomputable def PSs (X : Cx) (st : List Stmt) (t : TS) : Prop :=
 ∀ (pins : List (Addr × Obj)) (s : Shared) (σ : St) (H : Hp) (D : Ends),Inv X pins σ H s→t D σ H→wpAny (model X.prog X.w) X.A (execs st X.env) (SP X pins D) X.xe s
theorem thn {α : Type} {t : Sem α} {Q Q' : α→Shared→Prop} {M : Model} {A : Around} {E : Value→Shared→Prop} {s : Shared} (h : wpAny M A t Q E s) (hQ : ∀ a s,Q a s→Q' a s) : wpAny M A t Q' E s:=wpAny_mono h hQ fun _ _ x=>x
end L2
namespace L2
open PySem PySem.Spec PyProof.Rows
section
variable {X : Cx}
noncomputable def tVar (i : Nat) : TE:=fun σ H Q=>∃ v,σ[i]? = some (some v)∧Q v H
noncomputable def tC (v : V) : TE:=fun _ H Q=>Q v H
theorem pe_var {i : Nat} {x : Str} {pos : Pos} (hN : X.N[i]? = some x) (hv : Vis X.env.scope x) (hd : (x == ("__debug__" : Str)) = false:=by decide) (hcd : (x == ("__classdict__" : Str)) = false:=by decide) : PE X (.Name x pos) (tVar i):=by
 intro pins s σ H Q I h
 obtain ⟨v,e,h⟩:=h
 obtain ⟨m,hn,hl⟩:=I.loc
 obtain ⟨u,r,l⟩:=hl i x v hN e hv
 have fin : EP X pins σ Q u s:=⟨v,H,I,r,h⟩
 rcases l with ⟨hk,hm⟩ | ⟨hk,c,hc,hcell⟩
 ·exact wpAny_Name (wpAny_loadName_local I.ok.kind hk hn hm fin) hd
 ·rcases hk with hk | hk
  ·exact wpAny_Name (wpAny_loadName_cell I.ok.kind hk hc hcell fin) hd
  ·exact wpAny_Name (wpAny_loadName_free I.ok.kind hk hc hcell fin hcd) hd
theorem pe_int {i j pos} : PE X (.Constant (.int i) j pos) (tC (.int i)):=fun _ _ _ H _ I h=>wpAny_Constant_int ⟨.int i,H,I.tok _,⟨_,rfl⟩,h⟩
theorem pe_bl {b j pos} : PE X (.Constant (.bool b) j pos) (tC (.bl b)):=fun _ _ _ H _ I h=>Constant_bool ⟨.bl b,H,I,rfl,h⟩
theorem pe_non {j pos} : PE X (.Constant .none j pos) (tC .non):=fun _ _ _ H _ I h=>Constant_none ⟨.non,H,I,rfl,h⟩
theorem pe_str {x j pos} : PE X (.Constant (.str x) j pos) (tC (.str x)):=fun _ _ _ H _ I h=>Calls.Constant_str ⟨.str x,H,I.tok _,⟨_,rfl⟩,h⟩
noncomputable def Gl (X : Cx) (x : Str) : Prop:=X.env.kindOf x = some .globalImplicit
theorem ld_glob {E : Value→Shared→Prop} {pins : List (Addr × Obj)} {s : Shared} {σ : St} {H : Hp} {x : Str} {u : Value} {pos : Pos} {Q : Value→Shared→Prop} (I : Inv X pins σ H s) (hg : Gl X x) (hm : X.mg x = some u) (h : Q u s)
  (hd : (x == ("__debug__" : Str)) = false:=by decide) : wpAny (model X.prog X.w) X.A (eval (.Name x pos) X.env) Q E s :=
 Calls.Name_function_global I.ok.kind hg (Calls.loadGlobal_global (by rw [I.ok.glob]; exact I.mod.glob.keeps I.bk) hm h) hd
theorem ld_blt {E : Value→Shared→Prop} {pins : List (Addr × Obj)} {s : Shared} {σ : St} {H : Hp} {x : Str} {u : Value} {pos : Pos} {Q : Value→Shared→Prop} (I : Inv X pins σ H s) (hg : Gl X x) (hm : X.mg x = none) (hv : bootBuiltins x = some u) (h : Q u s)
  (hn : x ≠ "__name__":=by decide) (hd : (x == ("__debug__" : Str)) = false:=by decide) : wpAny (model X.prog X.w) X.A (eval (.Name x pos) X.env) Q E s:=by
 obtain ⟨mb,h1,h2⟩:=I.mod.blt
 exact Calls.Name_function_global I.ok.kind hg (Calls.loadGlobal_builtin (by rw [I.ok.glob]; exact I.mod.glob.keeps I.bk) hm (by rw [I.ok.blt]; exact h1.keeps I.bk) ((h2 x hn).trans hv) h) hd
theorem pe_glob {x : Str} {v : V} {u : Value} {pos : Pos} (hg : Gl X x) (hm : X.mg x = some u) (r : RelV v u) (hd : (x == ("__debug__" : Str)) = false:=by decide) : PE X (.Name x pos) (tC v) :=
 fun _ _ _ H _ I h=>ld_glob I hg hm ⟨v,H,I,r,h⟩ hd
theorem pe_bltn {x : Str} {v : V} {u : Value} {pos : Pos} (hg : Gl X x) (hm : X.mg x = none) (hv : bootBuiltins x = some u) (r : RelV v u) (hn : x ≠ "__name__":=by decide) (hd : (x == ("__debug__" : Str)) = false:=by decide) : PE X (.Name x pos) (tC v) :=
 fun _ _ _ H _ I h=>ld_blt I hg hm hv ⟨v,H,I,r,h⟩ hn hd
variable {a b : Expr} {ta tb : TE} {pos : Pos}
noncomputable def PC (X : Cx) (op : CmpOp) (a b : Expr) (t : TE) : Prop :=
 ∀ (pins : List (Addr × Obj)) (s : Shared) (σ : St) (H : Hp) (Q : VK),Inv X pins σ H s→t σ H Q →
  wpAny (model X.prog X.w) X.A (eval a X.env) (fun v s₁=>wpAny (model X.prog X.w) X.A (eval b X.env) (fun u s₂=>wpAny (model X.prog X.w) X.A (compareOp op v u) (EP X pins σ Q) X.xe s₂) X.xe s₁) X.xe s
theorem nobehind (b : Expr) {op : CmpOp} (h : op ≠ .In) (h2 : op ≠ .NotIn) : behindInMarks op b = false:=by
 have e1 : (op == CmpOp.In) = false:=by cases op <;> first | rfl | exact absurd rfl h
 have e2 : (op == CmpOp.NotIn) = false:=by cases op <;> first | rfl | exact absurd rfl h2
 cases b <;> simp [behindInMarks,e1,e2]
noncomputable def tIsN (ta : TE) : TE:=fun σ H Q=>ta σ H fun x H1=>Q (.bl (decide (x = .non))) H1
theorem RelV.none_iff {x : V} {v : Value} (r : RelV x v) : (v == Value.none) = decide (x = .non):=by
 cases x with
 | non=>cases r; rfl
 | bl _=>cases r; rfl
 | int _=>obtain ⟨t,rfl⟩:=r; rfl
 | str _=>obtain ⟨t,rfl⟩:=r; rfl
 | byt _=>obtain ⟨t,rfl⟩:=r; rfl
 | flt _=>obtain ⟨t,rfl⟩:=r; rfl
 | ref _=>cases r; rfl
 | ty _=>cases r; rfl
theorem pc_isN {j pos'} (ha : PE X a ta) : PC X .Is a (.Constant .none j pos') (tIsN ta):=by
 intro pins s σ H Q I h
 refine thn (ha pins s σ H _ I h) fun v s1 ⟨x,H1,I1,r1,q1⟩=>?_
 exact Constant_none (is_none_gen ⟨.bl _,H1,I1,by rw [r1.none_iff]; rfl,q1⟩)
noncomputable def tB (t : TE) : TT:=fun σ H Q=>t σ H fun x H1=>∃ c,x = .bl c∧Q c H1
theorem pe_cmp {op : CmpOp} {t : TE} (h : PC X op a b t) (h1 : behindInMarks op b = false:=by first | exact nobehind _ (by decide) (by decide) | rfl) : PE X (.Compare a [op] [b] pos) t:=fun pins s σ H Q I hw=>wpAny_Compare1 (h pins s σ H Q I hw) h1
theorem pt_cmp {op : CmpOp} {t : TE} (h : PC X op a b t) (h1 : behindInMarks op b = false:=by first | exact nobehind _ (by decide) (by decide) | rfl) : PT X (.Compare a [op] [b] pos) (tB t):=by
 intro pins s σ H Q I hw
 refine wpAny_isTrue_Compare1 (thn (h pins s σ H _ I hw) fun v s1 h1=>thn h1 fun u s2 h2=>thn h2 fun c s3 ⟨x,H1,I1,r1,q1⟩=>?_) h1
 obtain ⟨d,rfl,q⟩:=q1
 cases r1
 exact wpAny_truthy_bool ⟨H1,I1,q⟩
theorem pt_val {e : Expr} {t : TE} (h : PE X e t) (he : ∀ whole,isTrue e X.env whole = (do let v ← whole; standAt e.pos; holding [v] (truthy v)):=by intro _; rfl) : PT X e (tB t):=by
 intro pins s σ H Q I hw
 refine isTrue_plain (thn (h pins s σ H _ I hw) fun v s1 ⟨x,H1,I1,r1,q1⟩=>?_) (he _)
 obtain ⟨d,rfl,q⟩:=q1
 cases r1
 exact wpAny_truthy_bool ⟨H1,I1,q⟩
variable {tA tB' : TT} {rest : List Expr}
noncomputable def tAnd (t u : TT) : TT:=fun σ H Q=>t σ H fun c H1=>if c = true then u σ H1 Q else Q false H1
noncomputable def tOr (t u : TT) : TT:=fun σ H Q=>t σ H fun c H1=>if c = true then Q true H1 else u σ H1 Q
noncomputable def tNot (t : TT) : TT:=fun σ H Q=>t σ H fun c H1=>Q (!c) H1
theorem pw_and1 (ha : PT X a tA) : PW X (.BoolOp .And [a] pos) tA:=by
 intro wh pins s σ H Q I h
 refine isTrue_and (thn (ha pins s σ H Q I h) fun c s1 e=>?_)
 cases c with
 | true=>exact isTrue_and_nil e
 | false=>exact e
theorem pw_or1 (ha : PT X a tA) : PW X (.BoolOp .Or [a] pos) tA:=by
 intro wh pins s σ H Q I h
 refine isTrue_or (thn (ha pins s σ H Q I h) fun c s1 e=>?_)
 cases c with
 | false=>exact isTrue_or_nil e
 | true=>exact e
theorem pw_and (ha : PT X a tA) (hb : PW X (.BoolOp .And (b :: rest) pos) tB') : PW X (.BoolOp .And (a :: b :: rest) pos) (tAnd tA tB'):=by
 intro wh pins s σ H Q I h
 refine isTrue_and (thn (ha pins s σ H _ I h) fun c s1 ⟨H1,I1,q1⟩=>?_)
 cases c with
 | true=>exact hb wh pins s1 σ H1 Q I1 q1
 | false=>exact ⟨H1,I1,q1⟩
theorem pw_or (ha : PT X a tA) (hb : PW X (.BoolOp .Or (b :: rest) pos) tB') : PW X (.BoolOp .Or (a :: b :: rest) pos) (tOr tA tB'):=by
 intro wh pins s σ H Q I h
 refine isTrue_or (thn (ha pins s σ H _ I h) fun c s1 ⟨H1,I1,q1⟩=>?_)
 cases c with
 | true=>exact ⟨H1,I1,q1⟩
 | false=>exact hb wh pins s1 σ H1 Q I1 q1
theorem pt_not (ha : PT X a tA) : PT X (.UnaryOp .Not a pos) (tNot tA):=by
 intro pins s σ H Q I h
 exact isTrue_not (ha pins s σ H (fun c H1=>Q (!c) H1) I h)
noncomputable def tAndV (ta tb : TE) : TE:=fun σ H Q=>ta σ H fun x H1=>∃ c,x = .bl c∧if c = true then tb σ H1 Q else Q (.bl false) H1
noncomputable def tOrV (ta tb : TE) : TE:=fun σ H Q=>ta σ H fun x H1=>∃ c,x = .bl c∧if c = true then Q (.bl true) H1 else tb σ H1 Q
noncomputable def tNotV (ta : TE) : TE:=fun σ H Q=>ta σ H fun x H1=>∃ c,x = .bl c∧Q (.bl (!c)) H1
theorem pe_one {op} {t : TE} (h : PE X a t) : PE X (.BoolOp op [a] pos) t:=fun pins s σ H Q I hw=>BoolOp_one (h pins s σ H Q I hw)
theorem pe_and (ha : PE X a ta) (hb : PE X (.BoolOp .And (b :: rest) pos) tb) : PE X (.BoolOp .And (a :: b :: rest) pos) (tAndV ta tb):=by
 intro pins s σ H Q I h
 refine BoolOp_and (thn (ha pins s σ H _ I h) fun v s1 ⟨x,H1,I1,r1,q1⟩=>?_)
 obtain ⟨c,rfl,q1⟩:=q1
 cases r1
 refine wpAny_truthy_bool ?_
 cases c with
 | true=>exact hb pins s1 σ H1 Q I1 q1
 | false=>exact ⟨.bl false,H1,I1,rfl,q1⟩
theorem pe_or (ha : PE X a ta) (hb : PE X (.BoolOp .Or (b :: rest) pos) tb) : PE X (.BoolOp .Or (a :: b :: rest) pos) (tOrV ta tb):=by
 intro pins s σ H Q I h
 refine BoolOp_or (thn (ha pins s σ H _ I h) fun v s1 ⟨x,H1,I1,r1,q1⟩=>?_)
 obtain ⟨c,rfl,q1⟩:=q1
 cases r1
 refine wpAny_truthy_bool ?_
 cases c with
 | false=>exact hb pins s1 σ H1 Q I1 q1
 | true=>exact ⟨.bl true,H1,I1,rfl,q1⟩
theorem pe_not (ha : PE X a ta) : PE X (.UnaryOp .Not a pos) (tNotV ta):=by
 intro pins s σ H Q I h
 refine UnaryOp_ (thn (ha pins s σ H _ I h) fun v s1 ⟨x,H1,I1,r1,q1⟩=>?_)
 obtain ⟨c,rfl,q1⟩:=q1
 cases r1
 exact not_of (wpAny_truthy_bool ⟨.bl (!c),H1,I1,rfl,q1⟩)
noncomputable def tIf (t : TT) (ta tb : TE) : TE:=fun σ H Q=>t σ H fun c H1=>if c = true then ta σ H1 Q else tb σ H1 Q
theorem pe_ifExp {c : Expr} (hc : PT X c tA) (ha : PE X a ta) (hb : PE X b tb) : PE X (.IfExp c a b pos) (tIf tA ta tb):=by
 intro pins s σ H Q I h
 refine wpAny_IfExp (thn (hc pins s σ H _ I h) fun d s1 ⟨H1,I1,q1⟩=>?_)
 cases d with
 | true=>exact ha pins s1 σ H1 Q I1 q1
 | false=>exact hb pins s1 σ H1 Q I1 q1
end
end L2
namespace L2
open PySem PySem.Spec PyProof.Rows
noncomputable def SqL (K : PySem.W.Frag) (H : Hp) (a : Addr) (xs : List V) : Prop :=
 Rd H a (.lst xs) ∨
  ∃ (o : Obj) (its : Array Value) (n : Nat),K.lookup a = some o∧o.cls = .type "list"∧o.dict = none∧o.data = .seq its n∧its.size ≤ sizeLine∧Vals xs its.toList
noncomputable def SqT (K : PySem.W.Frag) (H : Hp) (a : Addr) (xs : List V) : Prop :=
 Rd H a (.tup xs) ∨
  ∃ (o : Obj) (its : Array Value) (n : Nat),K.lookup a = some o∧o.cls = .type "tuple"∧o.data = .seq its n∧its.size ≤ sizeLine∧Vals xs its.toList
noncomputable def absV : Value→Option V
 | .none=>some .non
 | .bool b=>some (.bl b)
 | .int i _=>some (.int i)
 | .str x _=>some (.str x)
 | .bytes b _=>some (.byt b)
 | .float b _=>some (.flt b)
 | .ref a=>some (.ref a)
 | .type n=>some (.ty n)
 | _=>none
theorem RelV.abs {x : V} {u : Value} (r : RelV x u) : absV u = some x:=by
 cases x with
 | non=>cases r; rfl
 | bl _=>cases r; rfl
 | int _=>obtain ⟨t,rfl⟩:=r; rfl
 | str _=>obtain ⟨t,rfl⟩:=r; rfl
 | byt _=>obtain ⟨t,rfl⟩:=r; rfl
 | flt _=>obtain ⟨t,rfl⟩:=r; rfl
 | ref _=>cases r; rfl
 | ty _=>cases r; rfl
theorem RelV.inj {x y : V} {u : Value} (r : RelV x u) (q : RelV y u) : x = y:=Option.some.inj (r.abs.symm.trans q.abs)
theorem Vals.inj : ∀ {xs ys : List V} {us : List Value},Vals xs us→Vals ys us→xs = ys
 | _,_,_,.nil,.nil=>rfl
 | _,_,_,.cons r t,.cons r' t'=>by rw [r.inj r',Vals.inj t t']
section
variable {X : Cx} {pins : List (Addr × Obj)} {σ : St} {H : Hp} {s : Shared} {a : Addr} {xs ys : List V}
theorem SqL.of {K : PySem.W.Frag} (h : H a = some (.lst xs)) : SqL K H a xs:=.inl (.inl h)
theorem SqT.of {K : PySem.W.Frag} (h : H a = some (.tup xs)) : SqT K H a xs:=.inl (.inl h)
theorem Inv.list (I : Inv X pins σ H s) (h : SqL X.K H a xs) : ∃ its : List Value,Vals xs its∧PlainL s.heap a its.toArray∧xs.length ≤ sizeLine:=by
 rcases h with h | ⟨o,its,n,hk,hc,hd,hs,hz,r⟩
 ·obtain ⟨z,its,n,r,e⟩:=h.ok I.hok
  exact ⟨its,r,⟨_,n,e,rfl,rfl,rfl⟩,z⟩
 ·refine ⟨its.toList,r,⟨o,n,I.kIn a o hk,hc,hd,by simpa using hs⟩,?_⟩
  have e:=r.length
  simp only [Array.length_toList] at e
  omega
theorem Inv.tuple (I : Inv X pins σ H s) (h : SqT X.K H a xs) : ∃ its : List Value,Vals xs its∧IsTup s.heap a its.toArray∧xs.length ≤ sizeLine:=by
 rcases h with h | ⟨o,its,n,hk,hc,hs,hz,r⟩
 ·obtain ⟨z,its,r,p⟩:=h.ok I.hok
  exact ⟨its,r,p,z⟩
 ·refine ⟨its.toList,r,⟨o,I.kIn a o hk,hc,n,by simpa using hs⟩,?_⟩
  have e:=r.length
  simp only [Array.length_toList] at e
  omega
theorem Inv.list_inj (I : Inv X pins σ H s) (h : SqL X.K H a xs) (h' : SqL X.K H a ys) : xs = ys:=by
 obtain ⟨its,r,⟨o,n,e,_,_,d⟩,_⟩:=I.list h
 obtain ⟨its',r',⟨o',n',e',_,_,d'⟩,_⟩:=I.list h'
 rw [e] at e'; cases e'
 rw [d] at d'
 injection d' with d1 _
 have : its = its':=by simpa using congrArg Array.toList d1
 subst this
 exact r.inj r'
theorem Inv.tuple_inj (I : Inv X pins σ H s) (h : SqT X.K H a xs) (h' : SqT X.K H a ys) : xs = ys:=by
 obtain ⟨its,r,⟨o,e,_,n,d⟩,_⟩:=I.tuple h
 obtain ⟨its',r',⟨o',e',_,n',d'⟩,_⟩:=I.tuple h'
 rw [e] at e'; cases e'
 rw [d] at d'
 injection d' with d1 _
 have : its = its':=by simpa using congrArg Array.toList d1
 subst this
 exact r.inj r'
end
noncomputable abbrev Cx.wish (X : Cx) (E : Value→Shared→Prop) : Cx:={ X with xe:=E }
noncomputable abbrev Cx.nox (X : Cx) : Cx:=X.wish fun _ _=>False
theorem Cx.Ok.wish {X : Cx} (ok : X.Ok) (E : Value→Shared→Prop) : (X.wish E).Ok :=
 ⟨ok.mod,ok.kind,ok.glob,ok.blt,ok.above,ok.inj,ok.has,ok.cab,ok.hd,ok.frames,ok.stk,ok.exf,ok.bs,ok.bsz,ok.noex,ok.exfs,ok.funs,ok.frf⟩
theorem Cx.Ok.unwish {X : Cx} {E : Value→Shared→Prop} (ok : (X.wish E).Ok) : X.Ok :=
 ⟨ok.mod,ok.kind,ok.glob,ok.blt,ok.above,ok.inj,ok.has,ok.cab,ok.hd,ok.frames,ok.stk,ok.exf,ok.bs,ok.bsz,ok.noex,ok.exfs,ok.funs,ok.frf⟩
section
variable {X : Cx} {pins : List (Addr × Obj)} {σ : St} {H : Hp} {s : Shared} {E : Value→Shared→Prop}
theorem Inv.wish (I : Inv X pins σ H s) (E : Value→Shared→Prop) : Inv (X.wish E) pins σ H s:=⟨I.ok.wish E,I.os,I.bare,I.base,I.loc,I.cell,I.free,I.freeC,I.pin,I.hok,I.len⟩
theorem Inv.unwish (I : Inv (X.wish E) pins σ H s) : Inv X pins σ H s:=⟨I.ok.unwish,I.os,I.bare,I.base,I.loc,I.cell,I.free,I.freeC,I.pin,I.hok,I.len⟩
theorem SP.unwish {D : Ends} {f : Flow} {s' : Shared} (h : SP (X.wish E) pins D f s') : SP X pins D f s':=by
 cases f with
 | next=>obtain ⟨σ',H',I,q⟩:=h; exact ⟨σ',H',I.unwish,q⟩
 | brk=>obtain ⟨σ',H',I,q⟩:=h; exact ⟨σ',H',I.unwish,q⟩
 | cont=>obtain ⟨σ',H',I,q⟩:=h; exact ⟨σ',H',I.unwish,q⟩
 | ret u=>obtain ⟨v,σ',H',I,r,q⟩:=h; exact ⟨v,σ',H',I.unwish,r,q⟩
theorem PSs.nox {st : List Stmt} {t : TS} (h : PSs X.nox st t) : PSs X st t:=fun pins s σ H D I hw =>
 wpAny_mono (h pins s σ H D (I.wish _) hw) (fun _ _ q=>q.unwish) fun _ _ z=>False.elim z
end
section
variable {X : Cx} {st : Stmt} {rest : List Stmt} {t u : TS} {e : Expr} {te : TE} {pos : Pos}
noncomputable def tNext : TS:=fun D σ H=>D.nx σ H
noncomputable def tSeq (t u : TS) : TS:=fun D σ H=>t { D with nx:=u D } σ H
theorem pss_nil : PSs X [] tNext:=fun _ _ σ H _ I h=>wpAny_execs_nil ⟨σ,H,I,h⟩
theorem pss_cons (h1 : PS X st t) (h2 : PSs X rest u) : PSs X (st :: rest) (tSeq t u):=by
 intro pins s σ H D I h
 refine wpAny_execs_cons (thn (h1 pins s σ H { D with nx:=u D } I h) fun f s1 q=>?_)
 cases f with
 | next =>
  obtain ⟨σ',H',I',q⟩:=q
  exact h2 pins s1 σ' H' D I' q
 | ret v=>exact q
 | brk=>exact q
 | cont=>exact q
theorem pss_one (h1 : PS X st t) : PSs X [st] t:=by
 intro pins s σ H D I h
 refine wpAny_execs_cons (thn (h1 pins s σ H D I h) fun f s1 q=>?_)
 cases f with
 | next=>exact wpAny_execs_nil q
 | ret v=>exact q
 | brk=>exact q
 | cont=>exact q
theorem Inv.quiet {pins : List (Addr × Obj)} {σ : St} {H : Hp} {s : Shared} (I : Inv X pins σ H s) : interactive X.env = false:=by simp [interactive,I.ok.kind]
noncomputable def tDrop (te : TE) : TS:=fun D σ H=>te σ H fun _ H1=>D.nx σ H1
theorem ps_expr (he : PE X e te) (hs : swapsWith e none pos.line X.env = pure false:=by rfl) : PS X (.Expr e pos) (tDrop te):=by
 intro pins s σ H D I h
 exact wpAny_Expr_any (thn (he pins s σ H _ I h) fun v s1 ⟨x,H1,I1,r1,q1⟩=>⟨σ,H1,I1,q1⟩) I.quiet hs
noncomputable def tRet (te : TE) : TS:=fun D σ H=>te σ H D.rt
theorem ps_ret (he : PE X e te) : PS X (.Return (some e) pos) (tRet te):=by
 intro pins s σ H D I h
 exact wpAny_Return_some (thn (he pins s σ H _ I h) fun v s1 ⟨x,H1,I1,r1,q1⟩=>⟨x,σ,H1,I1,r1,q1⟩)
noncomputable def tIfS (c : TT) (t u : TS) : TS:=fun D σ H=>c σ H fun b H1=>if b = true then t D σ H1 else u D σ H1
theorem ps_if {c : Expr} {a b : List Stmt} {tc : TT} (hc : PT X c tc) (ha : PSs X a t) (hb : PSs X b u) : PS X (.If c a b pos) (tIfS tc t u):=by
 intro pins s σ H D I h
 refine wpAny_If (thn (hc pins s σ H _ I h) fun d s1 ⟨H1,I1,q1⟩=>?_)
 cases d with
 | true=>exact ha pins s1 σ H1 D I1 q1
 | false=>exact hb pins s1 σ H1 D I1 q1
end
noncomputable abbrev TG:=V→St→Hp→(St→Hp→Prop)→Prop
noncomputable abbrev TGs:=List V→St→Hp→(St→Hp→Prop)→Prop
noncomputable def PG (X : Cx) (target : Expr) (t : TG) : Prop :=
 ∀ (pins : List (Addr × Obj)) (s : Shared) (σ : St) (H : Hp) (v : V) (u : Value) (Q : St→Hp→Prop),Inv X pins σ H s→RelV v u→t v σ H Q →
  wpAny (model X.prog X.w) X.A (assign target X.env u) (fun _ s'=>∃ σ' H',Inv X pins σ' H' s'∧Q σ' H') X.xe s
noncomputable def PGs (X : Cx) (ts : List Expr) (t : TGs) : Prop :=
 ∀ (pins : List (Addr × Obj)) (s : Shared) (σ : St) (H : Hp) (vs : List V) (us : List Value) (Q : St→Hp→Prop),Inv X pins σ H s→Vals vs us→t vs σ H Q →
  wpAny (model X.prog X.w) X.A (assignInOrder ((assignEach ts X.env).map (·.2)) us) (fun _ s'=>∃ σ' H',Inv X pins σ' H' s'∧Q σ' H') X.xe s
section
variable {X : Cx} {pos : Pos}
noncomputable def gName (i : Nat) : TG:=fun v σ H Q=>Q (σ.set i (some v)) H
theorem pg_name {i : Nat} {x : Str} (hN : X.N.Nodup) (hi : X.N[i]? = some x) (hx : Loc X.env.scope x) (hf : X.fn x = true ∨ X.env.scope.names.lookup x = some .local:=by first | exact .inl rfl | exact .inr rfl | assumption) : PG X (.Name x pos) (gName i):=by
 intro pins s σ H v u Q I r h
 exact wpAny_assign_Name (store_ok I hN hi hx r (fun s' I'=>⟨_,H,I',h⟩) hf)
noncomputable def gNil : TGs:=fun vs σ H Q=>vs = []∧Q σ H
noncomputable def gCons (t : TG) (u : TGs) : TGs:=fun vs σ H Q=>∃ v r,vs = v :: r∧t v σ H fun σ' H'=>u r σ' H' Q
theorem pgs_nil : PGs X [] gNil:=by
 intro pins s σ H vs us Q I r h
 obtain ⟨e,h⟩:=h
 subst e
 cases r
 exact assignInOrder_nil ⟨σ,H,I,h⟩
theorem pgs_cons {e : Expr} {es : List Expr} {t : TG} {u : TGs} (h1 : PG X e t) (h2 : PGs X es u)
  (hs : (assignEach (e :: es) X.env).map (·.2) = assign e X.env :: (assignEach es X.env).map (·.2):=by rfl) : PGs X (e :: es) (gCons t u):=by
 intro pins s σ H vs us Q I r h
 obtain ⟨v,vr,e1,h⟩:=h
 subst e1
 cases r with
 | cons r rr =>
  rw [hs]
  refine assignInOrder_cons (thn (h1 pins s σ H _ _ _ I r h) fun _ s1 ⟨σ1,H1,I1,q1⟩=>?_)
  exact h2 pins s1 σ1 H1 _ _ Q I1 rr q1
noncomputable def gTup (K : PySem.W.Frag) (n : Nat) (t : TGs) : TG:=fun v σ H Q=>∃ a xs,v = .ref a∧SqT K H a xs∧xs.length = n∧t xs σ H Q
theorem pg_tup {es : List Expr} {k : Nat} {t : TGs} {n : Nat} (hc : X.calm = true) (h : PGs X es t)
  (hn : (assignEach es X.env).length = n:=by rfl) (hst : (assignEach es X.env).findIdx? (·.1) = none:=by rfl) : PG X (.Tuple es k pos) (gTup X.K n t):=by
 intro pins s σ H v u Q I r hw
 obtain ⟨a,xs,e1,hq,hl,hw⟩:=hw
 subst e1
 cases r
 obtain ⟨its,rv,ht,hz⟩:=I.tuple hq
 refine assign_Tuple_tuple (I.ok.hd hc) ht (by simp [hn,← hl,rv.length]) hst fun h' hx=>?_
 have I1 : Inv X pins σ H { s with heap:=h' }:=I.kept (t':=s.toks) fun b o e=>hx b o (Nat.ne_of_lt (Heap.lt_size e)) e
 exact h pins _ σ H xs _ Q I1 (by simpa using rv) hw
noncomputable def tAsg (te : TE) (g : TG) : TS:=fun D σ H=>te σ H fun x H1=>g x σ H1 D.nx
theorem ps_asg {tg e : Expr} {te : TE} {g : TG} (he : PE X e te) (hg : PG X tg g) (hs : swapsWithSole [tg] e pos.line X.env = pure false:=by rfl) (hw : swappedStores [tg] e X.env = pure none:=by rfl)
  (h1 : (assignEach [tg] X.env).map (·.2) = [assign tg X.env]:=by rfl) : PS X (.Assign [tg] e pos) (tAsg te g):=by
 intro pins s σ H D I h
 refine wpAny_Assign_stores (thn (he pins s σ H _ I h) fun v s1 ⟨x,H1,I1,r1,q1⟩=>?_) hs hw
 rw [h1]
 exact thn (hg pins s1 σ H1 x v _ I1 r1 q1) fun _ s2 q=>q
theorem ps_set {i : Nat} {x : Str} {e : Expr} {te : TE} {pos' : Pos} (hN : X.N.Nodup) (hi : X.N[i]? = some x) (hx : Loc X.env.scope x) (he : PE X e te) (hs : swapsWith e (some (.Name x pos')) pos.line X.env = pure false:=by rfl) (hf : X.fn x = true ∨ X.env.scope.names.lookup x = some .local:=by first | exact .inl rfl | exact .inr rfl | assumption) :
  PS X (.Assign [.Name x pos'] e pos) (tAsg te (gName i)):=by
 intro pins s σ H D I h
 refine wpAny_Assign_Name (thn (he pins s σ H _ I h) fun v s1 ⟨y,H1,I1,r1,q1⟩=>?_) hs
 exact store_ok I1 hN hi hx r1 (fun s2 I2=>⟨_,H1,I2,q1⟩) hf
end
section
variable {X : Cx} {pos : Pos}
noncomputable def tWhile (c : TT) (tb : TS) : TS:=fun D σ H=>∃ W : Nat→St→Hp→Prop,(∃ m,W m σ H)∧∀ m σ H,W m σ H →
 c σ H fun b H1=>if b = true then ∃ N : St→Hp→Prop,(∀ σ' H',N σ' H'→∃ m',m' < m∧W m' σ' H')∧tb { D with nx:=N,ct:=N,bk:=D.nx } σ H1 else D.nx σ H1
theorem ps_while {c : Expr} {body : List Stmt} {tc : TT} {tb : TS} (hp : PassesOwn (model X.prog X.w) X.A X.env X.xe) (hc : PT X c tc) (hb : PSs X body tb) : PS X (.While c body [] pos) (tWhile tc tb):=by
 intro pins s σ H D I h
 obtain ⟨W,⟨m0,w0⟩,turn⟩:=h
 refine wpAny_While (codeAny_whileLoop (fun n s'=>∃ σ' H',Inv X pins σ' H' s'∧W n σ' H') ?_ m0 ⟨σ,H,I,w0⟩)
 rintro n s1 ⟨σ1,H1,I1,w1⟩
 refine wpAny_passesOwn hp (thn (hc pins s1 σ1 H1 _ I1 (turn n σ1 H1 w1)) fun b s2 ⟨H2,I2,q2⟩=>?_)
 cases b with
 | true =>
  obtain ⟨N,hN,q2⟩:=q2
  rw [if_pos rfl]
  refine wpAny_passesOwn hp (thn (hb pins s2 σ1 H2 _ I2 q2) fun f s3 q3=>?_)
  cases f with
  | next =>
   obtain ⟨σ3,H3,I3,n3⟩:=q3
   obtain ⟨m',hm,w3⟩:=hN σ3 H3 n3
   exact ⟨m',hm,σ3,H3,I3,w3⟩
  | cont =>
   obtain ⟨σ3,H3,I3,n3⟩:=q3
   obtain ⟨m',hm,w3⟩:=hN σ3 H3 n3
   exact ⟨m',hm,σ3,H3,I3,w3⟩
  | brk=>exact q3
  | ret v=>exact q3
 | false =>
  rw [if_neg Bool.false_ne_true]
  exact wpAny_execs_nil ⟨σ1,H2,I2,q2⟩
end
structure It where
 go : Nat→Hp→Prop
 yld : Nat→Hp→V→Hp→Prop
 stop : Nat→Hp→Prop
noncomputable def FpOk (X : Cx) (pins : List (Addr × Obj)) (H : Hp) (b : Addr) : Prop :=
 H b = none∧b ≠ X.env.locals∧b ∉ X.fs∧(b ∈ X.ex ∨ X.s₀.heap.objs.size ≤ b)∧(∀ x c,X.env.cells.lookup x = some c→c ≠ b)∧∀ p ∈ X.pn ++ pins,p.1 ≠ b
theorem Inv.fpOk {X : Cx} {pins : List (Addr × Obj)} {σ : St} {H H' : Hp} {s : Shared} {b : Addr} (I : Inv X pins σ H s) (hb : s.heap.objs.size ≤ b) (hn : H' b = none) : FpOk X pins H' b:=by
 refine ⟨hn,Nat.ne_of_gt (Nat.lt_of_lt_of_le I.lt hb),I.nofs hb,.inr (Nat.le_trans I.sz hb),fun x c e z=>?_,fun p hp z=>?_⟩
 ·obtain ⟨v,q⟩:=I.cell x c e
  exact absurd (Nat.lt_of_lt_of_le q.lt (by rw [z]; exact hb)) (Nat.lt_irrefl _)
 ·exact absurd (Nat.lt_of_lt_of_le (Heap.lt_size (I.pin p hp).1) (by rw [z]; exact hb)) (Nat.lt_irrefl _)
structure Turn (P : Program) (w : World) (K : PySem.W.Frag) (tg : Expr) (J : It) (fp : List Addr) (it : Addr) (tn : Nat→Heap→Prop) : Prop where
 mem : it ∈ fp
 obj : ∀ i h,tn i h→∀ b ∈ fp,∃ o,h.get? b = some o∧∀ v,o.data ≠ .cell v
 keep : ∀ i h h',tn i h→(∀ b ∈ fp,∀ o,h.get? b = some o→h'.get? b = some o)→tn i h'
 item : ∀ (X : Cx),X.prog = P→X.w = w→X.K = K→X.calm = true→∀ (i : Nat) (pins : List (Addr × Obj)) (s : Shared) (σ : St) (H : Hp) (E : Value→Shared→Prop),Inv X pins σ H s→(∀ b ∈ fp,FpOk X pins H b)→tn i s.heap→J.go i H →
  wpAny (model P w) X.A (pyNext (.ref it)) (fun r s1=>∃ u,r = some u ∧
   wpAny (model P w) X.A (letOwnedTupleGo tg (.ref it) u) (fun _ s2=>∃ x H',Inv X pins σ H' s2∧RelV x u∧J.yld i H x H'∧tn (i + 1) s2.heap∧∀ b ∈ fp,H' b = none) E s1) E s
 done : ∀ (X : Cx),X.prog = P→X.w = w→X.K = K→X.calm = true→∀ (i : Nat) (pins : List (Addr × Obj)) (s : Shared) (σ : St) (H : Hp) (E : Value→Shared→Prop),Inv X pins σ H s→(∀ b ∈ fp,FpOk X pins H b)→tn i s.heap→J.stop i H →
  wpAny (model P w) X.A (pyNext (.ref it)) (fun r s1=>r = none∧Inv X pins σ H s1) E s
 self : ∀ (A : Around) (i : Nat) (s : Shared) (Q : Value→Shared→Prop) (E : Value→Shared→Prop),tn i s.heap→Q (.ref it) s→wpAny (model P w) A (pyIter (.ref it)) Q E s
noncomputable abbrev TI:=St→Hp→(It→Hp→Prop)→Prop
noncomputable def PIE (X : Cx) (pins : List (Addr × Obj)) (σ : St) (tg : Expr) (R : It→Hp→Prop) (itv : Value) (s2 : Shared) : Prop :=
 ∃ (it : Addr) (fp : List Addr) (tn : Nat→Heap→Prop) (J : It) (H' : Hp),itv = .ref it∧Inv X pins σ H' s2∧Turn X.prog X.w X.K tg J fp it tn∧tn 0 s2.heap∧(∀ b ∈ fp,FpOk X pins H' b)∧R J H'
noncomputable def PI (X : Cx) (tg iter : Expr) (wi : TI) : Prop :=
 ∀ (pins : List (Addr × Obj)) (s : Shared) (σ : St) (H : Hp) (R : It→Hp→Prop),Inv X pins σ H s→wi σ H R →
  wpAny (model X.prog X.w) X.A (eval iter X.env) (fun v s1=>wpAny (model X.prog X.w) X.A (pyIter v) (PIE X pins σ tg R) X.xe s1) X.xe s
theorem go_of {M : Model} {A : Around} {E : Value→Shared→Prop} {s : Shared} {tg : Expr} {it : Addr} {u : Value} {o : Obj} {n : String} {vs : Array Value} {Q : Unit→Shared→Prop} (ho : s.heap.get? it = some o) (hc : o.cls = .type n) (hd : o.data = .fields vs)
  (hn : ["enumerate", "zip", "dict_itemiterator", "dict_reverseitemiterator", "odict_iterator", "itertools.zip_longest", "itertools.pairwise"].contains n = false) (hQ : Q () s) : wpAny M A (letOwnedTupleGo tg (.ref it) u) Q E s:=by
 unfold letOwnedTupleGo
 cases tg <;> first
  | exact wpAny_pure hQ
  | (cases u <;> first
    | exact wpAny_pure hQ
    | (refine wpAny_bind (wpAny_load ho ?_)
       rw [hc,hd]
       show wpAny M A (if (["enumerate", "zip", "dict_itemiterator", "dict_reverseitemiterator", "odict_iterator", "itertools.zip_longest", "itertools.pairwise"].contains n && vs[0]? == some (rawInt _)) = true then _ else _) Q E s
       rw [if_neg (by intro h; rw [hn,Bool.false_and] at h; cases h)]
       exact wpAny_pure hQ))
noncomputable def Itl (K : PySem.W.Frag) (a : Addr) : It :=
 ⟨fun i H=>∃ xs x,SqL K H a xs∧xs[i]? = some x,fun i H x H'=>H' = H∧∀ xs,SqL K H a xs→xs[i]? = some x,fun i H=>∃ xs,SqL K H a xs∧xs.length ≤ i⟩
noncomputable def Itt (K : PySem.W.Frag) (a : Addr) : It :=
 ⟨fun i H=>∃ xs x,SqT K H a xs∧xs[i]? = some x,fun i H x H'=>H' = H∧∀ xs,SqT K H a xs→xs[i]? = some x,fun i H=>∃ xs,SqT K H a xs∧xs.length ≤ i⟩
noncomputable def Itr (lo : Int) (n : Nat) : It:=⟨fun i _=>i < n,fun i H x H'=>H' = H∧x = .int (lo + i),fun i _=>n ≤ i⟩
theorem turn_list {P : Program} {w : World} {K : PySem.W.Frag} {tg : Expr} (a it : Addr) : Turn P w K tg (Itl K a) [it] it (fun i h=>h.IsListIter it a i) where
 mem:=by simp
 obj:=fun i h st b hb=>by
  have e : b = it:=by simpa using hb
  subst e
  obtain ⟨o,e,c,d⟩:=st
  exact ⟨o,e,fun v z=>by rw [d] at z; cases z⟩
 keep:=fun i h h' st k=>st.at fun o e=>k it (by simp) o e
 item:=by
  intro X hP hw hK hc i pins s σ H E I hf st hg
  subst hP hw hK
  obtain ⟨xs,x,hq,hx⟩:=hg
  obtain ⟨its,rv,p,hz⟩:=I.list hq
  obtain ⟨u,hu,ru⟩:=rv.get hx
  obtain ⟨f0,f1,f2,f3,f4,f5⟩:=hf it (by simp)
  refine wpAny_pyNext_list_item st p.isList (x:=u) (by simpa using hu) fun h' st' sb=>?_
  have I1 : Inv X pins σ H { s with heap:=h' }:=I.turned (t':=s.toks) (fun b o hb e=>(sb.2 b hb).trans e) f0 f1 f3 f4 f5
  obtain ⟨o,e,c,d⟩:=id st'
  exact ⟨u,rfl,go_of (s:={ s with heap:=h' }) e c d (by decide) ⟨x,H,I1,ru,⟨rfl,fun ys hy=>by rw [I.list_inj hy hq]; exact hx⟩,st',fun b hb=>(hf b hb).1⟩⟩
 done:=by
  intro X hP hw hK hc i pins s σ H E I hf st hg
  subst hP hw hK
  obtain ⟨xs,hq,hx⟩:=hg
  obtain ⟨its,rv,p,hz⟩:=I.list hq
  obtain ⟨f0,f1,f2,f3,f4,f5⟩:=hf it (by simp)
  have hl:=rv.length
  exact wpAny_pyNext_list_end (I.ok.hd hc) st p.isList (by simp; omega) fun h' eb=>⟨rfl,I.turned (t':=s.toks) (fun b o hb e=>eb b o hb e) f0 f1 f3 f4 f5⟩
 self:=fun _ _ _ _ _ st h=>wpAny_pyIter_listiter st h
theorem turn_tuple {P : Program} {w : World} {K : PySem.W.Frag} {tg : Expr} (a it : Addr) : Turn P w K tg (Itt K a) [it] it (fun i h=>h.IsTupleIter it a i) where
 mem:=by simp
 obj:=fun i h st b hb=>by
  have e : b = it:=by simpa using hb
  subst e
  obtain ⟨o,e,c,d⟩:=st
  exact ⟨o,e,fun v z=>by rw [d] at z; cases z⟩
 keep:=fun i h h' st k=>st.at fun o e=>k it (by simp) o e
 item:=by
  intro X hP hw hK hc i pins s σ H E I hf st hg
  subst hP hw hK
  obtain ⟨xs,x,hq,hx⟩:=hg
  obtain ⟨its,rv,p,hz⟩:=I.tuple hq
  obtain ⟨u,hu,ru⟩:=rv.get hx
  obtain ⟨f0,f1,f2,f3,f4,f5⟩:=hf it (by simp)
  refine wpAny_pyNext_tuple_item st (show s.heap.IsTuple a its.toArray from p) (x:=u) (by simpa using hu) fun h' st' sb=>?_
  have I1 : Inv X pins σ H { s with heap:=h' }:=I.turned (t':=s.toks) (fun b o hb e=>(sb.2 b hb).trans e) f0 f1 f3 f4 f5
  obtain ⟨o,e,c,d⟩:=id st'
  exact ⟨u,rfl,go_of (s:={ s with heap:=h' }) e c d (by decide) ⟨x,H,I1,ru,⟨rfl,fun ys hy=>by rw [I.tuple_inj hy hq]; exact hx⟩,st',fun b hb=>(hf b hb).1⟩⟩
 done:=by
  intro X hP hw hK hc i pins s σ H E I hf st hg
  subst hP hw hK
  obtain ⟨xs,hq,hx⟩:=hg
  obtain ⟨its,rv,p,hz⟩:=I.tuple hq
  obtain ⟨f0,f1,f2,f3,f4,f5⟩:=hf it (by simp)
  have hl:=rv.length
  exact wpAny_pyNext_tuple_end (I.ok.hd hc) st (show s.heap.IsTuple a its.toArray from p) (by simp; omega) fun h' eb=>⟨rfl,I.turned (t':=s.toks) (fun b o hb e=>eb b o hb e) f0 f1 f3 f4 f5⟩
 self:=fun _ _ _ _ _ st h=>wpAny_pyIter_tupleiter st h
theorem turn_range {P : Program} {w : World} {K : PySem.W.Frag} {tg : Expr} (it : Addr) (lo : Int) (n : Nat) : Turn P w K tg (Itr lo n) [it] it (fun i h=>IsRangeIter h it (lo + (i : Nat) * 1) ((n : Int) - (i : Nat)) 1) where
 mem:=by simp
 obj:=fun i h st b hb=>by
  have e : b = it:=by simpa using hb
  subst e
  exact ⟨_,st,fun v z=>by
   have z' : Data.fields _ = Data.cell v:=z
   cases z'⟩
 keep:=fun i h h' st k=>k it (by simp) _ st
 item:=by
  intro X hP hw hK hc i pins s σ H E I hf st hg
  subst hP hw hK
  obtain ⟨f0,f1,f2,f3,f4,f5⟩:=hf it (by simp)
  have W:=Walks.range (prog:=X.prog) (w:=X.w) (I.ok.hd hc) it lo 1 n
  refine W.item i s _ _ hg st fun v h' tk hv st' kk=>?_
  obtain ⟨t,rfl⟩:=hv
  have I1 : Inv X pins σ H { s with heap:=h',toks:=tk }:=I.turned (fun b o hb e=>kk b o (by simpa using hb) e) f0 f1 f3 f4 f5
  refine ⟨_,rfl,go_of (s:={ s with heap:=h',toks:=tk }) (n:="range_iterator") st' rfl rfl (by decide) ⟨.int (lo + i),H,I1,⟨t,?_⟩,⟨rfl,rfl⟩,st',fun b hb=>(hf b hb).1⟩⟩
  rw [Int.mul_one]
 done:=by
  intro X hP hw hK hc i pins s σ H E I hf st hg
  subst hP hw hK
  obtain ⟨f0,f1,f2,f3,f4,f5⟩:=hf it (by simp)
  exact wpAny_pyNext_range_end (I.ok.hd hc) st (by have : n ≤ i:=hg; omega) fun h' eb=>⟨rfl,I.turned (t':=s.toks) (fun b o hb e=>eb b o hb e) f0 f1 f3 f4 f5⟩
 self:=fun _ _ _ _ _ st h=>wpAny_pyIter_rangeiter st h
end L2
namespace L2
open PySem PySem.Spec PyProof.Rows
section
variable {X : Cx} {tg : Expr}
theorem range_it {pins : List (Addr × Obj)} {σ : St} {H : Hp} {s : Shared} {R : It→Hp→Prop} {E : Value→Shared→Prop} {lo hi : Int} {t u v : Tok} {tk : Nat} (I : Inv X pins σ H s) (h1 : -(2 ^ 62) ≤ lo) (h2 : lo < 2 ^ 62) (h3 : -(2 ^ 62) ≤ hi) (h4 : hi < 2 ^ 62)
  (q : R (Itr lo (hi - lo).toNat) H) : wpAny (model X.prog X.w) X.A (pyIter (.ref s.heap.objs.size)) (PIE X pins σ tg R) E { s with heap:=s.heap.push { cls:=.type "range",data:=.fields #[.int lo t,.int hi u,.int 1 v] },toks:=tk }:=by
 refine wpAny_pyIter_range (IsRange.new ..) (small_one h1 h2 h3 h4) ?_
 have I1 : Inv X pins σ H { s with heap:=s.heap.push { cls:=.type "range",data:=.fields #[.int lo t,.int hi u,.int 1 v] },toks:=tk }:=I.kept fun b o e=>Heap.get?_push_of_some _ e
 refine ⟨(s.heap.push { cls:=.type "range",data:=.fields #[.int lo t,.int hi u,.int 1 v] }).objs.size,[(s.heap.push { cls:=.type "range",data:=.fields #[.int lo t,.int hi u,.int 1 v] }).objs.size],_,_,H,rfl,
  I1.kept (t':=tk) fun b o e=>Heap.get?_push_of_some _ e,turn_range _ lo (hi - lo).toNat,?_,fun b hb=>?_,q⟩
 ·have e1 : lo + ((0 : Nat) : Int) * 1 = lo:=by simp
  have e2 : (((hi - lo).toNat : Nat) : Int) - ((0 : Nat) : Int) = Builtin.Range.rangeSize lo hi 1:=by rw [rangeSize_one]; split <;> omega
  show IsRangeIter _ _ (lo + ((0 : Nat) : Int) * 1) ((((hi - lo).toNat : Nat) : Int) - ((0 : Nat) : Int)) 1
  rw [e1,e2]
  exact Heap.get?_push_size _ rfl
 ·have e : b = (s.heap.push { cls:=.type "range",data:=.fields #[.int lo t,.int hi u,.int 1 v] }).objs.size:=by simpa using hb
  subst e
  exact I1.fpOk (Nat.le_refl _) (I1.hok.fresh (Nat.le_refl _))
noncomputable def iRng1 (ta : TA) : TI:=fun σ H R=>ta σ H fun vs H1=>∃ j : Int,vs = [.int j]∧-(2 ^ 62) ≤ j∧j < 2 ^ 62∧R (Itr 0 j.toNat) H1
theorem pi_range1 {a : Expr} {ta : TA} {p pos : Pos} (hg : Gl X "range") (hm : X.mg "range" = none) (ha : PA X [a] ta) (hs : starEach [a] X.env = [(false,eval a X.env)]:=by rfl) : PI X tg (.Call (.Name "range" p) [a] [] pos) (iRng1 ta):=by
 intro pins s σ H R I h
 refine Call_ (ld_blt I hg hm boot_range (PyProof.Rows.callWith_type1 (thn (ha pos pins s σ H _ I h) fun us s1 ⟨vs,H1,I1,r1,q1⟩=>?_) hs rfl))
 obtain ⟨j,e,q1,q2,q⟩:=q1
 subst e
 cases r1 with
 | cons r rr =>
  cases rr
  obtain ⟨t,rfl⟩:=r
  exact call_range_1 (range_it I1 (by omega) (by omega) q1 q2 (by simpa using q))
noncomputable def tFor (wi : TI) (g : TG) (tb : TS) : TS:=fun D σ H=>wi σ H fun J H1=>∃ W : Nat→Nat→St→Hp→Prop,(∃ m,W 0 m σ H1)∧∀ i m σ H,W i m σ H →
 (J.stop i H∧D.nx σ H) ∨ (J.go i H∧∃ N : St→Hp→Prop,(∀ σ' H',N σ' H'→∃ m',m' < m∧W (i + 1) m' σ' H')∧∀ x H',J.yld i H x H'→g x σ H' fun σ2 H2=>tb { D with nx:=N,ct:=N,bk:=D.nx } σ2 H2)
noncomputable def pinsAt (fp : List Addr) (h : Heap) : List (Addr × Obj):=fp.filterMap fun b=>(h.get? b).map fun o=>(b,o)
theorem mem_pinsAt {fp : List Addr} {h : Heap} {b : Addr} {o : Obj} (hb : b ∈ fp) (e : h.get? b = some o) : (b,o) ∈ pinsAt fp h:=List.mem_filterMap.mpr ⟨b,hb,by rw [e]; rfl⟩
theorem of_pinsAt {fp : List Addr} {h : Heap} {p : Addr × Obj} (hp : p ∈ pinsAt fp h) : p.1 ∈ fp∧h.get? p.1 = some p.2:=by
 obtain ⟨b,hb,e⟩:=List.mem_filterMap.mp hp
 cases q : h.get? b with
 | none=>rw [q] at e; cases e
 | some o =>
  rw [q] at e
  have e' : (b,o) = p:=Option.some.inj e
  subst e'
  exact ⟨hb,q⟩
theorem Inv.pinned {pins : List (Addr × Obj)} {σ : St} {H : Hp} {s : Shared} {fp : List Addr} (I : Inv X pins σ H s) (hf : ∀ b ∈ fp,FpOk X pins H b) (ho : ∀ b ∈ fp,∃ o,s.heap.get? b = some o∧∀ v,o.data ≠ .cell v) : Inv X (pins ++ pinsAt fp s.heap) σ H s :=
 I.pins_of fun p hp=>(List.mem_append.mp hp).elim (fun z=>I.pin p (List.mem_append_right _ z)) fun z=>by
  obtain ⟨hb,e⟩:=of_pinsAt z
  obtain ⟨f0,f1,f2,_⟩:=hf p.1 hb
  obtain ⟨o,e',d⟩:=ho p.1 hb
  rw [e] at e'; cases e'
  exact ⟨e,f0,f1,f2,d⟩
theorem Inv.unpinned {pins pl : List (Addr × Obj)} {σ : St} {H : Hp} {s : Shared} (I : Inv X (pins ++ pl) σ H s) : Inv X pins σ H s:=I.pins_of fun p hp=>I.pin p (List.mem_append_right _ (List.mem_append_left _ hp))
theorem ps_for {iter : Expr} {body : List Stmt} {wi : TI} {g : TG} {tb : TS} {pos : Pos} (hp : PassesOwn (model X.prog X.w) X.A X.env X.xe) (hc : X.calm = true) (hi : PI X tg iter wi) (hg : PG X tg g) (hb : PSs X body tb)
  (hs : ∀ x,foldedSetIterable iter X.env x = pure x:=by intro _; rfl) : PS X (.For tg iter body [] pos) (tFor wi g tb):=by
 intro pins s σ H D I h
 refine wpAny_For (thn (hi pins s σ H _ I h) fun v s1 h1=>thn h1 fun itv s2 h2=>?_) hs
 obtain ⟨it,fp,tn,J,H2,e,I2,T,st2,f2,W,⟨m0,w0⟩,turn⟩:=h2
 subst e
 have stat : ∀ {H' : Hp},(∀ b ∈ fp,H' b = none)→∀ b ∈ fp,FpOk X pins H' b:=fun hn b hb=>⟨hn b hb,(f2 b hb).2⟩
 refine codeAny_forLoop_any (fun n s'=>∃ i σ' H',Inv X pins σ' H' s'∧tn i s'.heap∧(∀ b ∈ fp,H' b = none)∧W i n σ' H') ?_ m0 ⟨0,σ,H2,I2,st2,fun b hb=>(f2 b hb).1,w0⟩
 rintro n s3 ⟨i,σ3,H3,I3,st3,fr3,w3⟩
 rcases turn i n σ3 H3 w3 with ⟨stop,qn⟩ | ⟨go,N,hN,step⟩
 ·refine wpAny_passesOwn hp (thn (T.done X rfl rfl rfl hc i pins s3 σ3 H3 X.xe I3 (stat fr3) st3 stop) fun r s4 ⟨hr,I4⟩=>?_)
  subst hr
  exact wpAny_execs_nil ⟨σ3,H3,I4,qn⟩
 ·refine wpAny_passesOwn hp (thn (T.item X rfl rfl rfl hc i pins s3 σ3 H3 X.xe I3 (stat fr3) st3 go) fun r s4 ⟨u,hr,h4⟩=>?_)
  subst hr
  refine wpAny_passesOwn hp (thn h4 fun _ s5 ⟨x,H5,I5,r5,y5,st5,fr5⟩=>?_)
  have I5':=I5.pinned (stat fr5) (T.obj _ _ st5)
  refine wpAny_passesOwn hp (thn (hg _ s5 σ3 H5 x u _ I5' r5 (step x H5 y5)) fun _ s6 ⟨σ6,H6,I6,q6⟩=>?_)
  refine wpAny_passesOwn hp (thn (hb _ s6 σ6 H6 _ I6 q6) fun f s7 q7=>?_)
  have again : ∀ {σ7 : St} {H7 : Hp},Inv X (pins ++ pinsAt fp s5.heap) σ7 H7 s7→N σ7 H7→∃ m,m < n∧∃ i σ' H',Inv X pins σ' H' s7∧tn i s7.heap∧(∀ b ∈ fp,H' b = none)∧W i m σ' H':=fun {σ7 H7} I7 n7=>by
   obtain ⟨m',hm,w7⟩:=hN σ7 H7 n7
   refine ⟨m',hm,i + 1,σ7,H7,I7.unpinned,T.keep _ _ _ st5 fun b hb o e=>(I7.pin (b,o) (List.mem_append_right _ (List.mem_append_right _ (mem_pinsAt hb e)))).1,fun b hb=>?_,w7⟩
   obtain ⟨o,e,d⟩:=T.obj _ _ st5 b hb
   exact (I7.pin (b,o) (List.mem_append_right _ (List.mem_append_right _ (mem_pinsAt hb e)))).2.1
  cases f with
  | next=>obtain ⟨σ7,H7,I7,n7⟩:=q7; exact again I7 n7
  | cont=>obtain ⟨σ7,H7,I7,n7⟩:=q7; exact again I7 n7
  | brk=>obtain ⟨σ7,H7,I7,q7⟩:=q7; exact ⟨σ7,H7,I7.unpinned,q7⟩
  | ret v=>obtain ⟨x7,σ7,H7,I7,r7,q7⟩:=q7; exact ⟨x7,σ7,H7,I7.unpinned,r7,q7⟩
end
theorem for_list {K : PySem.W.Frag} {a : Addr} {xs : List V} {g : TG} {tb : TS} {D : Ends} {σ : St} {H : Hp} (Pv : Nat→St→Hp→Prop) (h0 : Pv 0 σ H) (hl : ∀ i σ H,i ≤ xs.length→Pv i σ H→SqL K H a xs)
  (hs : ∀ i x σ H,xs[i]? = some x→Pv i σ H→g x σ H fun σ2 H2=>tb { D with nx:=Pv (i + 1),ct:=Pv (i + 1),bk:=D.nx } σ2 H2) (hd : ∀ σ H,Pv xs.length σ H→D.nx σ H) :
  ∃ W : Nat→Nat→St→Hp→Prop,(∃ m,W 0 m σ H)∧∀ i m σ H,W i m σ H →
   ((Itl K a).stop i H∧D.nx σ H) ∨ ((Itl K a).go i H∧∃ N : St→Hp→Prop,(∀ σ' H',N σ' H'→∃ m',m' < m∧W (i + 1) m' σ' H')∧∀ x H',(Itl K a).yld i H x H'→g x σ H' fun σ2 H2=>tb { D with nx:=N,ct:=N,bk:=D.nx } σ2 H2):=by
 refine ⟨fun i m σ H=>m = xs.length - i∧i ≤ xs.length∧Pv i σ H,⟨xs.length,by simp,Nat.zero_le _,h0⟩,?_⟩
 rintro i m σ H ⟨rfl,hi,p⟩
 have q:=hl i σ H hi p
 by_cases hlt : i < xs.length
 ·refine .inr ⟨⟨xs,xs[i],q,by simp [hlt]⟩,Pv (i + 1),fun σ' H' p'=>⟨xs.length - (i + 1),by omega,rfl,hlt,p'⟩,fun x H' y=>?_⟩
  obtain ⟨e,y⟩:=y
  subst e
  exact hs i x σ _ (y xs q) p
 ·have e : i = xs.length:=by omega
  subst e
  exact .inl ⟨⟨xs,q,Nat.le_refl _⟩,hd σ H p⟩
theorem for_tup {K : PySem.W.Frag} {a : Addr} {xs : List V} {g : TG} {tb : TS} {D : Ends} {σ : St} {H : Hp} (Pv : Nat→St→Hp→Prop) (h0 : Pv 0 σ H) (hl : ∀ i σ H,i ≤ xs.length→Pv i σ H→SqT K H a xs)
  (hs : ∀ i x σ H,xs[i]? = some x→Pv i σ H→g x σ H fun σ2 H2=>tb { D with nx:=Pv (i + 1),ct:=Pv (i + 1),bk:=D.nx } σ2 H2) (hd : ∀ σ H,Pv xs.length σ H→D.nx σ H) :
  ∃ W : Nat→Nat→St→Hp→Prop,(∃ m,W 0 m σ H)∧∀ i m σ H,W i m σ H →
   ((Itt K a).stop i H∧D.nx σ H) ∨ ((Itt K a).go i H∧∃ N : St→Hp→Prop,(∀ σ' H',N σ' H'→∃ m',m' < m∧W (i + 1) m' σ' H')∧∀ x H',(Itt K a).yld i H x H'→g x σ H' fun σ2 H2=>tb { D with nx:=N,ct:=N,bk:=D.nx } σ2 H2):=by
 refine ⟨fun i m σ H=>m = xs.length - i∧i ≤ xs.length∧Pv i σ H,⟨xs.length,by simp,Nat.zero_le _,h0⟩,?_⟩
 rintro i m σ H ⟨rfl,hi,p⟩
 have q:=hl i σ H hi p
 by_cases hlt : i < xs.length
 ·refine .inr ⟨⟨xs,xs[i],q,by simp [hlt]⟩,Pv (i + 1),fun σ' H' p'=>⟨xs.length - (i + 1),by omega,rfl,hlt,p'⟩,fun x H' y=>?_⟩
  obtain ⟨e,y⟩:=y
  subst e
  exact hs i x σ _ (y xs q) p
 ·have e : i = xs.length:=by omega
  subst e
  exact .inl ⟨⟨xs,q,Nat.le_refl _⟩,hd σ H p⟩
theorem for_range {lo : Int} {n : Nat} {g : TG} {tb : TS} {D : Ends} {σ : St} {H : Hp} (Pv : Nat→St→Hp→Prop) (h0 : Pv 0 σ H)
  (hs : ∀ i σ H,i < n→Pv i σ H→g (.int (lo + i)) σ H fun σ2 H2=>tb { D with nx:=Pv (i + 1),ct:=Pv (i + 1),bk:=D.nx } σ2 H2) (hd : ∀ σ H,Pv n σ H→D.nx σ H) :
  ∃ W : Nat→Nat→St→Hp→Prop,(∃ m,W 0 m σ H)∧∀ i m σ H,W i m σ H →
   ((Itr lo n).stop i H∧D.nx σ H) ∨ ((Itr lo n).go i H∧∃ N : St→Hp→Prop,(∀ σ' H',N σ' H'→∃ m',m' < m∧W (i + 1) m' σ' H')∧∀ x H',(Itr lo n).yld i H x H'→g x σ H' fun σ2 H2=>tb { D with nx:=N,ct:=N,bk:=D.nx } σ2 H2):=by
 refine ⟨fun i m σ H=>m = n - i∧i ≤ n∧Pv i σ H,⟨n,by simp,Nat.zero_le _,h0⟩,?_⟩
 rintro i m σ H ⟨rfl,hi,p⟩
 by_cases hlt : i < n
 ·refine .inr ⟨hlt,Pv (i + 1),fun σ' H' p'=>⟨n - (i + 1),by omega,rfl,hlt,p'⟩,fun x H' y=>?_⟩
  obtain ⟨e,y⟩:=y
  subst e y
  exact hs i σ _ hlt p
 ·have e : i = n:=by omega
  subst e
  exact .inl ⟨Nat.le_refl _,hd σ H p⟩
end L2
namespace L2
open PySem PySem.Spec PyProof.Rows
noncomputable abbrev R2:=V→V→Hp→VK→Prop
noncomputable def OpR (X : Cx) (f : Value→Value→Sem Value) (r : R2) : Prop :=
 ∀ (pins : List (Addr × Obj)) (s : Shared) (σ : St) (H : Hp) (x y : V) (v u : Value) (Q : VK),Inv X pins σ H s→RelV x v→RelV y u→r x y H Q →
  wpAny (model X.prog X.w) X.A (f v u) (EP X pins σ Q) X.xe s
noncomputable def UnR (X : Cx) (f : Value→Sem Value) (r : V→Hp→VK→Prop) : Prop :=
 ∀ (pins : List (Addr × Obj)) (s : Shared) (σ : St) (H : Hp) (x : V) (v : Value) (Q : VK),Inv X pins σ H s→RelV x v→r x H Q →
  wpAny (model X.prog X.w) X.A (f v) (EP X pins σ Q) X.xe s
noncomputable def CallR (X : Cx) (f : Value) (r : List V→Hp→VK→Prop) : Prop :=
 ∀ (pins : List (Addr × Obj)) (s : Shared) (σ : St) (H : Hp) (xs : List V) (us : List Value) (Q : VK),Inv X pins σ H s→Vals xs us→r xs H Q →
  wpAny (model X.prog X.w) X.A (call f us) (EP X pins σ Q) X.xe s
noncomputable def TruR (X : Cx) (r : V→Hp→(Bool→Hp→Prop)→Prop) : Prop :=
 ∀ (pins : List (Addr × Obj)) (s : Shared) (σ : St) (H : Hp) (x : V) (v : Value) (Q : Bool→Hp→Prop),Inv X pins σ H s→RelV x v→r x H Q →
  wpAny (model X.prog X.w) X.A (truthy v) (TP X pins σ Q) X.xe s
noncomputable def tOp (r : R2) (ta tb : TE) : TE:=fun σ H Q=>ta σ H fun x H1=>tb σ H1 fun y H2=>r x y H2 Q
noncomputable def tUn (r : V→Hp→VK→Prop) (ta : TE) : TE:=fun σ H Q=>ta σ H fun x H1=>r x H1 Q
noncomputable def rI (C : Int→Int→Prop) (g : Int→Int→V) : R2:=fun x y H Q=>∃ i j,x = .int i∧y = .int j∧C i j∧Q (g i j) H
noncomputable def rI0 (g : Int→Int→V) : R2:=fun x y H Q=>∃ i j,x = .int i∧y = .int j∧Q (g i j) H
noncomputable def rU (g : Int→V) : V→Hp→VK→Prop:=fun x H Q=>∃ i,x = .int i∧Q (g i) H
section
variable {X : Cx} {a b c : Expr} {ta tb tc : TE} {pos : Pos}
theorem binT (ha : PE X a ta) (hb : PE X b tb) {pins : List (Addr × Obj)} {s : Shared} {σ : St} {H : Hp} {R : V→V→Hp→Prop} (I : Inv X pins σ H s)
  (h : ta σ H fun x H1=>tb σ H1 fun y H2=>R x y H2) {Q : Value→Shared→Prop} {f : Value→Value→Sem Value}
  (hf : ∀ v u s2 x y H2,Inv X pins σ H2 s2→RelV x v→RelV y u→R x y H2→wpAny (model X.prog X.w) X.A (f v u) Q X.xe s2) :
  wpAny (model X.prog X.w) X.A (eval a X.env) (fun v s₁=>wpAny (model X.prog X.w) X.A (eval b X.env) (fun u s₂=>wpAny (model X.prog X.w) X.A (f v u) Q X.xe s₂) X.xe s₁) X.xe s:=by
 refine thn (ha pins s σ H _ I h) fun v s1 ⟨x,H1,I1,r1,q1⟩=>?_
 refine thn (hb pins s1 σ H1 _ I1 q1) fun u s2 ⟨y,H2,I2,r2,q2⟩=>?_
 exact hf v u s2 x y H2 I2 r1 r2 q2
theorem pe_op {op : Operator} {r : R2} (ho : OpR X (binaryOp op) r) (ha : PE X a ta) (hb : PE X b tb) : PE X (.BinOp a op b pos) (tOp r ta tb):=by
 intro pins s σ H Q I h
 exact wpAny_BinOp (binT ha hb I h fun v u s2 x y H2 I2 rx ry q=>ho pins s2 σ H2 x y v u Q I2 rx ry q)
theorem pe_un {op : UnaryOp} {r : V→Hp→VK→Prop} (ho : UnR X (unaryOp op) r) (ha : PE X a ta) : PE X (.UnaryOp op a pos) (tUn r ta):=by
 intro pins s σ H Q I h
 exact UnaryOp_ (thn (ha pins s σ H _ I h) fun v s1 ⟨x,H1,I1,r1,q1⟩=>ho pins s1 σ H1 x v Q I1 r1 q1)
theorem opI {f : Value→Value→Sem Value} {C : Int→Int→Prop} {g : Int→Int→Int}
  (rule : ∀ (i j : Int) (t u : Tok) (s : Shared) (Q : Value→Shared→Prop) (E : Value→Shared→Prop),C i j→Q (.int (g i j) s.toks) { s with toks:=s.toks + 1 }→wpAny (model X.prog X.w) X.A (f (.int i t) (.int j u)) Q E s) :
  OpR X f (rI C fun i j=>.int (g i j)):=by
 intro pins s σ H x y v u Q I rx ry h
 obtain ⟨i,j,rfl,rfl,hc,q⟩:=h
 obtain ⟨t,rfl⟩:=rx
 obtain ⟨t',rfl⟩:=ry
 exact rule i j t t' s _ _ hc ⟨.int (g i j),H,I.tok _,⟨_,rfl⟩,q⟩
theorem opI0 {f : Value→Value→Sem Value} {g : Int→Int→Int}
  (rule : ∀ (i j : Int) (t u : Tok) (s : Shared) (Q : Value→Shared→Prop) (E : Value→Shared→Prop),Q (.int (g i j) s.toks) { s with toks:=s.toks + 1 }→wpAny (model X.prog X.w) X.A (f (.int i t) (.int j u)) Q E s) :
  OpR X f (rI0 fun i j=>.int (g i j)):=by
 intro pins s σ H x y v u Q I rx ry h
 obtain ⟨i,j,rfl,rfl,q⟩:=h
 obtain ⟨t,rfl⟩:=rx
 obtain ⟨t',rfl⟩:=ry
 exact rule i j t t' s _ _ ⟨.int (g i j),H,I.tok _,⟨_,rfl⟩,q⟩
theorem opB0 {f : Value→Value→Sem Value} {g : Int→Int→Bool}
  (rule : ∀ (i j : Int) (t u : Tok) (s : Shared) (Q : Value→Shared→Prop) (E : Value→Shared→Prop),Q (.bool (g i j)) s→wpAny (model X.prog X.w) X.A (f (.int i t) (.int j u)) Q E s) :
  OpR X f (rI0 fun i j=>.bl (g i j)):=by
 intro pins s σ H x y v u Q I rx ry h
 obtain ⟨i,j,rfl,rfl,q⟩:=h
 obtain ⟨t,rfl⟩:=rx
 obtain ⟨t',rfl⟩:=ry
 exact rule i j t t' s _ _ ⟨.bl (g i j),H,I,rfl,q⟩
noncomputable def CDiv (i j : Int) : Prop:=0 < j∧j < 1073741824
noncomputable def CPow (i j : Int) : Prop:=0 ≤ j∧j ≤ 1000000∧i.natAbs < 2 ^ 64
noncomputable def CMul (i j : Int) : Prop:=(-(2 ^ 64) < i∧i < 2 ^ 64) ∨ (-(2 ^ 64) < j∧j < 2 ^ 64)
theorem CMul.ok {i j : Int} (h : CMul i j) : IntMulOk i j:=by
 rcases h with ⟨h1,h2⟩ | ⟨h1,h2⟩
 ·exact .of_left (intBits_le_64 h1 h2)
 ·exact .of_right (intBits_le_64 h1 h2)
theorem op_add : OpR X (binaryOp .Add) (rI0 fun i j=>.int (i + j)):=opI0 fun _ _ _ _ _ _ _ q=>add_int q
theorem op_sub : OpR X (binaryOp .Sub) (rI0 fun i j=>.int (i - j)):=opI0 fun _ _ _ _ _ _ _ q=>sub_int q
theorem op_mul : OpR X (binaryOp .Mult) (rI CMul fun i j=>.int (i * j)):=opI fun _ _ _ _ _ _ _ hc q=>mul_int q hc.ok
theorem op_fdiv : OpR X (binaryOp .FloorDiv) (rI CDiv fun i j=>.int (i / j)):=opI fun i j _ _ _ _ _ hc q=>by
 have h1 : (0 : Int) < j:=hc.1
 have h2 : j < 1073741824:=hc.2
 exact floordiv_int (by omega) (by rw [Int.fdiv_eq_ediv_of_nonneg i (by omega)]; exact q) (.inl (PyProof.noPylong_small (by omega)))
theorem op_mod : OpR X (binaryOp .Mod) (rI (fun _ j=>0 < j) fun i j=>.int (i % j)):=opI fun i j _ _ _ _ _ hc q=>by
 have h1 : (0 : Int) < j:=hc
 exact mod_int' (by omega) (by rw [Int.fmod_eq_emod_of_nonneg i (by omega)]; exact q)
theorem op_pow : OpR X (binaryOp .Pow) (rI CPow fun i j=>.int (i ^ j.toNat)):=opI fun _ _ _ _ _ _ _ hc q=>pow_int_small hc.1 hc.2.1 hc.2.2 q
theorem unI {f : Value→Sem Value} {g : Int→Int}
  (rule : ∀ (i : Int) (t : Tok) (s : Shared) (Q : Value→Shared→Prop) (E : Value→Shared→Prop),Q (.int (g i) s.toks) { s with toks:=s.toks + 1 }→wpAny (model X.prog X.w) X.A (f (.int i t)) Q E s) :
  UnR X f (rU fun i=>.int (g i)):=by
 intro pins s σ H x v Q I rx h
 obtain ⟨i,rfl,q⟩:=h
 obtain ⟨t,rfl⟩:=rx
 exact rule i t s _ _ ⟨.int (g i),H,I.tok _,⟨_,rfl⟩,q⟩
theorem un_neg : UnR X (unaryOp .USub) (rU fun i=>.int (-i)):=unI fun _ _ _ _ _ q=>neg_int q
end
noncomputable def scal : V→V→Bool
 | .non,.non=>true | .non,.int _=>true | .int _,.non=>true | .non,.bl _=>true | .bl _,.non=>true | .non,.str _=>true | .str _,.non=>true
 | .int _,.int _=>true | .bl _,.bl _=>true | .str _,.str _=>true | .byt _,.byt _=>true
 | .int _,.str _=>true | .str _,.int _=>true | .bl _,.str _=>true | .str _,.bl _=>true
 | _,_=>false
noncomputable def rEq : R2:=fun x y H Q=>scal x y = true∧Q (.bl (decide (x = y))) H
noncomputable def rNe : R2:=fun x y H Q=>scal x y = true∧Q (.bl (!decide (x = y))) H
theorem dec_int {i j : Int} : decide (V.int i = V.int j) = (i == j):=by
 rw [Bool.eq_iff_iff]
 simp
theorem dec_bl {i j : Bool} : decide (V.bl i = V.bl j) = (i == j):=by
 rw [Bool.eq_iff_iff]
 simp
theorem dec_str {i j : Str} : decide (V.str i = V.str j) = (i == j):=by
 rw [Bool.eq_iff_iff]
 simp
theorem dec_byt {i j : Array UInt8} : decide (V.byt i = V.byt j) = (i.toList == j.toList):=by
 rw [Bool.eq_iff_iff]
 cases i
 cases j
 simp
section
variable {X : Cx} {a b c : Expr} {ta tb tc : TE} {pos : Pos}
theorem fin_bl {pins : List (Addr × Obj)} {σ : St} {H : Hp} {s : Shared} {Q : VK} {k k' : Bool} (I : Inv X pins σ H s) (q : Q (.bl k) H) (e : k = k') : EP X pins σ Q (.bool k') s:=by
 subst e
 exact ⟨.bl k,H,I,rfl,q⟩
theorem op_eq : OpR X (compareOp .Eq) rEq:=by
 intro pins s σ H x y v u Q I rx ry h
 obtain ⟨hs,q⟩:=h
 cases x with
 | non =>
  cases rx
  cases y with
  | non=>cases ry; exact PySem.EqNone.eq_none_none (fin_bl I q (by simp))
  | bl j=>cases ry; exact PySem.EqNone.eq_none_bool (fin_bl I q (by simp))
  | int j=>obtain ⟨t',rfl⟩:=ry; exact PySem.EqNone.eq_none_int (fin_bl I q (by simp))
  | str j=>obtain ⟨t',rfl⟩:=ry; exact PySem.EqNone.eq_none_str (fin_bl I q (by simp))
  | _=>exact absurd (show false = true from hs) Bool.false_ne_true
 | bl i =>
  cases rx
  cases y with
  | non=>cases ry; exact PySem.EqNone.eq_bool_none (fin_bl I q (by simp))
  | bl j=>cases ry; exact eq_bool (fin_bl I q dec_bl)
  | str j=>obtain ⟨t',rfl⟩:=ry; exact PySem.EqMixed.eq_bool_str (fin_bl I q (by simp))
  | _=>exact absurd (show false = true from hs) Bool.false_ne_true
 | int i =>
  obtain ⟨t,rfl⟩:=rx
  cases y with
  | non=>cases ry; exact PySem.EqNone.eq_int_none (fin_bl I q (by simp))
  | int j=>obtain ⟨t',rfl⟩:=ry; exact eq_int (fin_bl I q dec_int)
  | str j=>obtain ⟨t',rfl⟩:=ry; exact PySem.EqMixed.eq_int_str (fin_bl I q (by simp))
  | _=>exact absurd (show false = true from hs) Bool.false_ne_true
 | str i =>
  obtain ⟨t,rfl⟩:=rx
  cases y with
  | non=>cases ry; exact PySem.EqNone.eq_str_none (fin_bl I q (by simp))
  | bl j=>cases ry; exact PySem.EqMixed.eq_str_bool (fin_bl I q (by simp))
  | int j=>obtain ⟨t',rfl⟩:=ry; exact PySem.EqMixed.eq_str_int (fin_bl I q (by simp))
  | str j=>obtain ⟨t',rfl⟩:=ry; exact eq_str (fin_bl I q dec_str)
  | _=>exact absurd (show false = true from hs) Bool.false_ne_true
 | byt i =>
  obtain ⟨t,rfl⟩:=rx
  cases y with
  | byt j=>obtain ⟨t',rfl⟩:=ry; exact PySem.W.eq_bytes (fin_bl I q dec_byt)
  | _=>exact absurd (show false = true from hs) Bool.false_ne_true
 | _=>cases y <;> exact absurd (show false = true from hs) Bool.false_ne_true
theorem op_ne : OpR X (compareOp .NotEq) rNe:=by
 intro pins s σ H x y v u Q I rx ry h
 obtain ⟨hs,q⟩:=h
 cases x with
 | non =>
  cases rx
  cases y with
  | non=>cases ry; exact PySem.EqNone.ne_none_none (fin_bl I q (by simp))
  | bl j=>cases ry; exact PySem.EqNone.ne_none_bool (fin_bl I q (by simp))
  | int j=>obtain ⟨t',rfl⟩:=ry; exact PySem.EqNone.ne_none_int (fin_bl I q (by simp))
  | str j=>obtain ⟨t',rfl⟩:=ry; exact PySem.EqNone.ne_none_str (fin_bl I q (by simp))
  | _=>exact absurd (show false = true from hs) Bool.false_ne_true
 | bl i =>
  cases rx
  cases y with
  | non=>cases ry; exact PySem.EqNone.ne_bool_none (fin_bl I q (by simp))
  | bl j=>cases ry; exact ne_bool (fin_bl I q (congrArg not dec_bl))
  | str j=>obtain ⟨t',rfl⟩:=ry; exact PySem.EqMixed.ne_bool_str (fin_bl I q (by simp))
  | _=>exact absurd (show false = true from hs) Bool.false_ne_true
 | int i =>
  obtain ⟨t,rfl⟩:=rx
  cases y with
  | non=>cases ry; exact PySem.EqNone.ne_int_none (fin_bl I q (by simp))
  | int j=>obtain ⟨t',rfl⟩:=ry; exact ne_int (fin_bl I q (congrArg not dec_int))
  | str j=>obtain ⟨t',rfl⟩:=ry; exact PySem.EqMixed.ne_int_str (fin_bl I q (by simp))
  | _=>exact absurd (show false = true from hs) Bool.false_ne_true
 | str i =>
  obtain ⟨t,rfl⟩:=rx
  cases y with
  | non=>cases ry; exact PySem.EqNone.ne_str_none (fin_bl I q (by simp))
  | bl j=>cases ry; exact PySem.EqMixed.ne_str_bool (fin_bl I q (by simp))
  | int j=>obtain ⟨t',rfl⟩:=ry; exact PySem.EqMixed.ne_str_int (fin_bl I q (by simp))
  | str j=>obtain ⟨t',rfl⟩:=ry; exact ne_str (fin_bl I q (congrArg not dec_str))
  | _=>exact absurd (show false = true from hs) Bool.false_ne_true
 | byt i =>
  obtain ⟨t,rfl⟩:=rx
  cases y with
  | byt j=>obtain ⟨t',rfl⟩:=ry; exact PySem.W.ne_bytes (fin_bl I q (congrArg not dec_byt))
  | _=>exact absurd (show false = true from hs) Bool.false_ne_true
 | _=>cases y <;> exact absurd (show false = true from hs) Bool.false_ne_true
theorem op_lt : OpR X (compareOp .Lt) (rI0 fun i j=>.bl (decide (i < j))):=opB0 fun _ _ _ _ _ _ _ q=>lt_int q
theorem op_le : OpR X (compareOp .LtE) (rI0 fun i j=>.bl (decide (i ≤ j))):=opB0 fun _ _ _ _ _ _ _ q=>le_int q
theorem op_gt : OpR X (compareOp .Gt) (rI0 fun i j=>.bl (decide (j < i))):=opB0 fun _ _ _ _ _ _ _ q=>gt_int q
theorem op_lt_str : OpR X (compareOp .Lt) (fun x y H Q=>∃ i j,x = .str i∧y = .str j∧Q (.bl (decide (i.cps.toList < j.cps.toList))) H):=by
 intro pins s σ H x y v u Q I rx ry h
 obtain ⟨i,j,rfl,rfl,q⟩:=h
 obtain ⟨t,rfl⟩:=rx
 obtain ⟨t',rfl⟩:=ry
 exact lt_str (fin_bl I q rfl)
theorem op_in_str : OpR X (compareOp .In) (fun x y H Q=>∃ i j,x = .str i∧y = .str j∧Q (.bl (!(Builtin.Str.occurrences j i 0 j.length 1).isEmpty)) H):=by
 intro pins s σ H x y v u Q I rx ry h
 obtain ⟨i,j,rfl,rfl,q⟩:=h
 obtain ⟨t,rfl⟩:=rx
 obtain ⟨t',rfl⟩:=ry
 exact in_str (fin_bl I q rfl)
theorem OpR.or {f : Value→Value→Sem Value} {r r' : R2} (h : OpR X f r) (h' : OpR X f r') : OpR X f (fun x y H Q=>r x y H Q ∨ r' x y H Q):=by
 intro pins s σ H x y v u Q I rx ry q
 rcases q with q | q
 ·exact h pins s σ H x y v u Q I rx ry q
 ·exact h' pins s σ H x y v u Q I rx ry q
theorem nomark (b : Expr) {op : CmpOp} (h : op ≠ .In:=by decide) (h2 : op ≠ .NotIn:=by decide) : behindInMarks op b = false:=by
 have e1 : (op == CmpOp.In) = false:=by cases op <;> first | rfl | exact absurd rfl h
 have e2 : (op == CmpOp.NotIn) = false:=by cases op <;> first | rfl | exact absurd rfl h2
 cases b <;> simp [behindInMarks,e1,e2]
theorem pe_cmpR {op : CmpOp} {r : R2} (ho : OpR X (compareOp op) r) (ha : PE X a ta) (hb : PE X b tb) (hm : behindInMarks op b = false) : PE X (.Compare a [op] [b] pos) (tOp r ta tb):=by
 intro pins s σ H Q I h
 exact wpAny_Compare1 (binT ha hb I h fun v u s2 x y H2 I2 rx ry q=>ho pins s2 σ H2 x y v u Q I2 rx ry q) hm
noncomputable def tTest (t : TE) : TT:=fun σ H Q=>t σ H fun x H'=>∃ k,x = .bl k∧Q k H'
theorem pt_cmpR {op : CmpOp} {r : R2} (ho : OpR X (compareOp op) r) (ha : PE X a ta) (hb : PE X b tb) (hm : behindInMarks op b = false) : PT X (.Compare a [op] [b] pos) (tTest (tOp r ta tb)):=by
 intro pins s σ H Q I h
 refine wpAny_isTrue_Compare1 (thn (ha pins s σ H _ I h) fun v s1 ⟨x,H1,I1,r1,q1⟩=>thn (hb pins s1 σ H1 _ I1 q1) fun u s2 ⟨y,H2,I2,r2,q2⟩ =>
  thn (ho pins s2 σ H2 x y v u _ I2 r1 r2 q2) fun c s3 ⟨z,H3,I3,r3,k,e,q3⟩=>?_) hm
 subst e
 cases r3
 exact wpAny_truthy_bool ⟨H3,I3,q3⟩
noncomputable def tChain (r r' : R2) (ta tb tc : TE) : TE:=fun σ H Q=>ta σ H fun x H1=>tb σ H1 fun y H2=>r x y H2 fun z H3=>∃ k,z = .bl k ∧
 (if k = true then tc σ H3 fun w' H4=>r' y w' H4 Q else Q (.bl false) H3)
theorem pe_chain {op op' : CmpOp} {r r' : R2} (ho : OpR X (compareOp op) r) (ho' : OpR X (compareOp op') r') (ha : PE X a ta) (hb : PE X b tb) (hc : PE X c tc)
  (hm : lastMarks [op,op'] [b,c] = false:=by with_unfolding_all rfl) : PE X (.Compare a [op,op'] [b,c] pos) (tChain r r' ta tb tc):=by
 intro pins s σ H Q I h
 refine Compare_chain (thn (ha pins s σ H _ I h) fun v s1 ⟨x,H1,I1,r1,q1⟩=>chain_link (thn (hb pins s1 σ H1 _ I1 q1) fun u s2 ⟨y,H2,I2,r2,q2⟩ =>
  thn (ho pins s2 σ H2 x y v u _ I2 r1 r2 q2) fun d s3 ⟨z,H3,I3,r3,k,e,q3⟩=>?_)) hm
 subst e
 cases r3
 refine wpAny_truthy_bool ?_
 cases k with
 | false=>exact ite_ff ⟨.bl false,H3,I3,rfl,q3⟩
 | true=>exact ite_tt (chain_last (thn (hc pins s3 σ H3 _ I3 q3) fun w' s4 ⟨z',H4,I4,r4,q4⟩=>ho' pins s4 σ H4 y z' u w' Q I4 r2 r4 q4))
noncomputable def TruV (K : PySem.W.Frag) (x : V) (H : Hp) (k : Bool) : Prop :=
 match x with
 | .non=>k = false
 | .bl b=>k = b
 | .int i=>k = (i != 0)
 | .str y=>y.length ≤ sizeLine∧k = ((y.length : Int) != 0)
 | .byt y=>y.size ≤ sizeLine∧k = ((y.size : Int) != 0)
 | .ref p=>(∃ xs,SqL K H p xs∧k = !xs.isEmpty) ∨ (∃ xs,SqT K H p xs∧k = !xs.isEmpty) ∨ ∃ kvs,H p = some (.dK kvs)∧k = !kvs.isEmpty
 | _=>False
theorem isEmpty_kv {κ : Type} {kvs : List (κ × V)} {vs : List (κ × Value)} (r : KV kvs vs) : (!vs.isEmpty) = !kvs.isEmpty:=by
 cases r <;> rfl
theorem isEmpty_of {xs : List V} {its : List Value} (r : Vals xs its) : (!its.toArray.isEmpty) = !xs.isEmpty:=by
 cases r <;> simp
theorem line63 : (sizeLine : Nat) < 2 ^ 63:=by rw [sizeLine_eq]; decide
theorem tru_ok : TruR X (fun x H Q=>∃ k,TruV X.K x H k∧Q k H):=by
 intro pins s σ H x v Q I rx h
 obtain ⟨k,e,q⟩:=h
 have hl:=line63
 have hs : sizeLine = 16777216:=sizeLine_eq
 cases x with
 | non =>
  cases rx
  have e' : k = false:=e
  subst e'
  exact truthy_none ⟨H,I,q⟩
 | bl b =>
  cases rx
  have e' : k = b:=e
  subst e'
  exact wpAny_truthy_bool ⟨H,I,q⟩
 | int i =>
  obtain ⟨t,rfl⟩:=rx
  have e' : k = (i != 0):=e
  subst e'
  exact PySem.P.truthy_int ⟨H,I,q⟩
 | str y =>
  obtain ⟨t,rfl⟩:=rx
  obtain ⟨hy,e'⟩ : y.length ≤ sizeLine∧k = ((y.length : Int) != 0):=e
  subst e'
  exact PySem.P.truthy_str (by omega) ⟨H,I.tok _,q⟩
 | byt y =>
  obtain ⟨t,rfl⟩:=rx
  obtain ⟨hy,e'⟩ : y.size ≤ sizeLine∧k = ((y.size : Int) != 0):=e
  subst e'
  exact PySem.W.truthy_bytes (by omega) ⟨H,I.tok _,q⟩
 | ref p =>
  cases rx
  have e' : (∃ xs,SqL X.K H p xs∧k = !xs.isEmpty) ∨ (∃ xs,SqT X.K H p xs∧k = !xs.isEmpty) ∨ ∃ kvs,H p = some (.dK kvs)∧k = !kvs.isEmpty:=e
  rcases e' with ⟨xs,hx,e'⟩ | ⟨xs,hx,e'⟩ | ⟨kvs,hx,e'⟩
  ·subst e'
   obtain ⟨its,r,pl,hz⟩:=I.list hx
   have hlen:=r.length
   exact wpAny_truthy_list pl.isList (by simp only [List.size_toArray]; omega) ⟨H,I.tok _,by rw [isEmpty_of r]; exact q⟩
  ·subst e'
   obtain ⟨its,r,pl,hz⟩:=I.tuple hx
   have hlen:=r.length
   exact truthy_tuple pl (by simp only [List.size_toArray]; omega) ⟨H,I.tok _,by rw [isEmpty_of r]; exact q⟩
  ·subst e'
   obtain ⟨hz,hS,vs,r,m⟩ : kvs.length ≤ sizeLine∧(p == sysModules) = false∧∃ vs,KV kvs vs∧s.heap.DictOf (mixKind X.prog X.w) p vs:=I.hok p _ hx
   have hlen : kvs.length = vs.length:=Paired.length r
   exact wpAny_truthy_dict hS m (by omega) ⟨H,I.tok _,by rw [isEmpty_kv r]; exact q⟩
 | _=>exact (show False from e).elim
theorem pt_truth (ha : PE X a ta) (he : ∀ whole,isTrue a X.env whole = (do let v ← whole; standAt a.pos; holding [v] (truthy v))) :
  PT X a (fun σ H Q=>ta σ H fun x H'=>∃ k,TruV X.K x H' k∧Q k H'):=by
 intro pins s σ H Q I h
 exact isTrue_plain (thn (ha pins s σ H _ I h) fun v s1 ⟨x,H1,I1,r1,q1⟩=>tru_ok pins s1 σ H1 x v Q I1 r1 q1) (he _)
theorem op_add_str : OpR X (binaryOp .Add) (fun x y H Q=>∃ i j,x = .str i∧y = .str j∧i.length + j.length ≤ sizeLine∧Q (.str (i ++ j)) H):=by
 intro pins s σ H x y v u Q I rx ry h
 obtain ⟨i,j,rfl,rfl,hz,q⟩:=h
 obtain ⟨t,rfl⟩:=rx
 obtain ⟨t',rfl⟩:=ry
 exact add_str (fun t' tk=>⟨.str (i ++ j),H,I.tok _,⟨_,rfl⟩,q⟩) hz
theorem vals1 {x : V} {us : List Value} (r : Vals [x] us) : ∃ u,us = [u]∧RelV x u:=by
 cases r with
 | cons r1 r2=>cases r2; exact ⟨_,rfl,r1⟩
theorem call_int1 : CallR X (.type "int") (fun xs H Q=>(∃ i,xs = [.int i]∧Q (.int i) H) ∨ ∃ k,xs = [.bl k]∧Q (.int (if k then 1 else 0)) H):=by
 intro pins s σ H xs us Q I r h
 rcases h with ⟨i,rfl,q⟩ | ⟨k,rfl,q⟩
 ·obtain ⟨u,rfl,t,rfl⟩:=vals1 r
  exact call_int_int ⟨.int i,H,I,⟨_,rfl⟩,q⟩
 ·obtain ⟨u,rfl,r1⟩:=vals1 r
  cases r1
  exact call_int_bool ⟨.int (if k then 1 else 0),H,I.tok _,⟨_,rfl⟩,q⟩
noncomputable def LenV (K : PySem.W.Frag) (x : V) (H : Hp) (n : Nat) : Prop :=
 match x with
 | .str y=>y.length ≤ sizeLine∧n = y.length
 | .byt y=>y.size ≤ sizeLine∧n = y.size
 | .ref p=>(∃ xs,SqL K H p xs∧n = xs.length) ∨ ∃ xs,SqT K H p xs∧n = xs.length
 | _=>False
theorem call_len : CallR X (.builtin "len") (fun xs H Q=>∃ x n,xs = [x]∧LenV X.K x H n∧Q (.int n) H):=by
 intro pins s σ H xs us Q I r h
 obtain ⟨x,n,rfl,e,q⟩:=h
 obtain ⟨u,rfl,rx⟩:=vals1 r
 have hl:=line63
 have hs : sizeLine = 16777216:=sizeLine_eq
 cases x with
 | str y =>
  obtain ⟨t,rfl⟩:=rx
  obtain ⟨hy,e'⟩ : y.length ≤ sizeLine∧n = y.length:=e
  subst e'
  exact len_str (by omega) ⟨.int _,H,I.tok _,⟨_,rfl⟩,q⟩
 | byt y =>
  obtain ⟨t,rfl⟩:=rx
  obtain ⟨hy,e'⟩ : y.size ≤ sizeLine∧n = y.size:=e
  subst e'
  exact PySem.W.len_bytes (by omega) ⟨.int _,H,I.tok _,⟨_,rfl⟩,q⟩
 | ref p =>
  cases rx
  have e' : (∃ xs,SqL X.K H p xs∧n = xs.length) ∨ ∃ xs,SqT X.K H p xs∧n = xs.length:=e
  rcases e' with ⟨xs,hx,e'⟩ | ⟨xs,hx,e'⟩
  ·subst e'
   obtain ⟨its,r',pl,hz⟩:=I.list hx
   have hlen:=r'.length
   exact Calls.call_len_list pl.isList (by simp only [List.size_toArray]; omega) ⟨.int xs.length,H,I.tok _,⟨_,by simp only [List.size_toArray]; rw [hlen]⟩,q⟩
  ·subst e'
   obtain ⟨its,r',pl,hz⟩:=I.tuple hx
   have hlen:=r'.length
   exact len_tuple pl (by simp only [List.size_toArray]; omega) ⟨.int xs.length,H,I.tok _,⟨_,by simp only [List.size_toArray]; rw [hlen]⟩,q⟩
 | _=>exact (show False from e).elim
end
end L2
namespace L2
open PySem PySem.Spec PyProof.Rows
structure ObjM (h : Heap) (x dx C : Addr) (mA : Str→Option Value) : Prop where
 obj : h.get? x = some (PySem.W.instObj C dx)
 ns : h.Ns1 dx mA
 ne : dx ≠ x
theorem lookIn_ns {h : Heap} {dx : Addr} {mA : Str→Option Value} (n : h.Ns1 dx mA) : ∃ od,h.get? dx = some od∧∀ name,PySem.W.lookIn name od = some (mA name):=by
 obtain ⟨o,es,ep,ho,hd,hk,_,hm⟩:=n
 refine ⟨o,ho,fun name=>?_⟩
 have e:=hm name
 unfold nsFind findBy at e
 rw [← Array.find?_toList] at e
 unfold PySem.W.lookIn
 rw [hd]
 dsimp only
 split
 ·rename_i y q
  rw [q] at e
  exact congrArg some e
 ·rename_i q
  rw [q] at e
  have a : es.toList.any (·.refKey) = false:=by
   rw [List.any_eq_false]
   intro y hy
   obtain ⟨z,t,hkey⟩:=hk y (Array.mem_toList_iff.mp hy)
   simp [DictEntry.refKey,hkey]
  have a' : ¬ es.toList.any (·.refKey) = true:=by rw [a]; exact Bool.false_ne_true
  rw [if_neg a']
  exact congrArg some e
theorem ObjM.look {h : Heap} {x dx C : Addr} {mA : Str→Option Value} (I : ObjM h x dx C mA) : ∃ od,PySem.W.InstAt h x (PySem.W.instObj C dx) C (some od)∧∀ name,PySem.W.lookIn name od = some (mA name) :=
 let ⟨od,ho,hl⟩:=lookIn_ns I.ns
 ⟨od,⟨I.obj,rfl,rfl,ho⟩,hl⟩
section
variable {prog : Program} {w : World} {A : Around} {E : Value→Shared→Prop} {s : Shared} {K : PySem.W.Frag} {x dx C f : Addr} {mA : Str→Option Value} {name : Str} {v : Value}
theorem get_map {expr : Bool} {Q : Value→Shared→Prop} (X : K.In s.heap) (I : ObjM s.heap x dx C mA) (hg : PySem.W.plainGet K C name = true) (hh : PySem.W.hasDictIn K C = true)
  (ha : PySem.W.findIn K (.ref C) name = some none) (hv : mA name = some v) (hv' : PySem.W.handedIn v = true) (h : Q v { s with toks:=s.toks + 1 }) :
  wpAny (model prog w) A (getAttr (.ref x) name expr) Q E s:=by
 obtain ⟨od,J,hl⟩:=I.look
 exact PySem.W.get_value X J (PySem.W.plainGet_of hg).1 (PySem.W.findObj_own hh ha rfl (by rw [hl,hv])) hv' h
theorem get_meth {pl : Sem Bool} {Q : Value × List Value→Shared→Prop} (X : K.In s.heap) (I : ObjM s.heap x dx C mA) (hg : PySem.W.plainGet K C name = true)
  (hf : PySem.W.findIn K (.ref C) name = some (some (.ref f))) (ht : PySem.W.isFn K (.ref f) = true) (hv : mA name = none) (h : Q (.ref f,[.ref x]) s) :
  wpAny (model prog w) A (getMethod (.ref x) name pl) Q E s:=by
 obtain ⟨od,J,hl⟩:=I.look
 exact PySem.W.method_fn X J (PySem.W.plainGet_of hg).1 (PySem.W.plainGet_of hg).2 hf (beq_iff_eq.mp ht) (by show (PySem.W.lookIn name od).map (·.isSome) = some false; rw [hl,hv]; rfl) h
theorem set_map {ns : List Str} {Q : Unit→Shared→Prop} (X : K.In s.heap) (I : ObjM s.heap x dx C mA)
  (hs : PySem.W.findIn K (.ref C) "__setattr__" = some (some (.builtin "object.__setattr__"))) (hp : PySem.W.plainOver K C = true) (ht : PySem.W.takerIn K C name = some none) (hh : PySem.W.hasDictIn K C = true)
  (hw : PySem.Within mA ns) (hsz : ns.length ≤ sizeLine)
  (h : ∀ h',ObjM h' x dx C (fun y=>if y = name then some v else mA y)→Heap.SameBut dx s.heap h'→Q () { s with heap:=h',toks:=s.toks + 2 }) :
  wpAny (model prog w) A (setAttr (.ref x) name v) Q E s:=by
 obtain ⟨od,J,hl⟩:=I.look
 refine PySem.W.set_plain X J hs (PySem.W.osa_open (s:={ s with toks:=s.toks + 1 }) (r:=none) X J hp ht fun b=>?_)
 obtain ⟨cd,hc,hd'⟩:=PySem.W.any_some hh
 have hx : s.heap.get? x = some ⟨.ref C,some dx,.plain,#[]⟩:=I.obj
 refine wpAny_bind (wpAny_pure (wpAny_bind (wpAny_bind (wpAny_loadPart hx (wpAny_bind (PySem.W.Looks.here (s:={ s with toks:=s.toks + 1 }) (PySem.W.looks_clsIn X hc) ?_))))))
 rw [hd']
 refine wpAny_pure (a:=some dx) (wpAny_bind (wpAny_pure (wpAny_bind ?_)))
 refine wpAny_nsSet1 (s:={ s with toks:=s.toks + 1 }) I.ns fun h' hn2 hs2=>?_
 obtain ⟨oD,esD,epD,hoD,hdD,hcD⟩:=hn2.count (PySem.Within.cons name v hw)
 refine wpAny_bind (wpAny_lookBehind hoD (by rw [hdD]; exact pastItsLine_dict (Nat.le_trans hcD (by rw [List.length_cons]; omega))) ?_)
 exact wpAny_pure (h _ ⟨(hs2.2 _ (Ne.symm I.ne)).trans I.obj,hn2,I.ne⟩ hs2)
theorem make_map {R : Result→Shared→Prop} {vs : List Value} {kw : List (Str × Value)} (X : K.In s.heap) (hm : PySem.W.makesIn K C = true)
  (hi : PySem.W.findIn K (.ref C) "__init__" = some (some (.ref f))) (hf : PySem.W.typeIn K (.ref f) = some (.type "function"))
  (h : codeAny (model prog w) (A.under (.builtin "type.__call__" ⟨.ref C :: vs,kw⟩)) (.call (.ref f) ⟨.ref (s.heap.objs.size + 1) :: vs,kw⟩) (PySem.W.InitBack (s.heap.objs.size + 1) R)
   { s with heap:=(s.heap.push PySem.W.emptyDict).push (PySem.W.instObj C s.heap.objs.size) }) :
  codeAny (model prog w) A (.call (.ref C) ⟨vs,kw⟩) R s:=by
 obtain ⟨hh,g,d,t,os⟩:=s
 exact PySem.W.make_core (PySem.W.makes_of X hm) (PySem.W.looks_findIn X hi) (fun self=>PySem.W.bind_fn X self hf) (.inl rfl) h
end
noncomputable def putF (f : Str) (v : V) : List (Str × V)→List (Str × V)
 | []=>[(f,v)]
 | (g,x) :: r=>if g = f then (g,v) :: r else (g,x) :: putF f v r
theorem lookup_putF (f g : Str) (v : V) : ∀ fs : List (Str × V),(putF f v fs).lookup g = if g = f then some v else fs.lookup g
 | []=>by
  show List.lookup g [(f,v)] = _
  by_cases h : g = f
  ·have hb : (g == f) = true:=beq_iff_eq.mpr h
   simp only [List.lookup,hb,if_pos h]
  ·have hb : (g == f) = false:=beq_eq_false_iff_ne.mpr h
   simp only [List.lookup,hb,if_neg h]
 | (k,x) :: r=>by
  have ih:=lookup_putF f g v r
  rw [show putF f v ((k,x) :: r) = (if k = f then (k,v) :: r else (k,x) :: putF f v r) from rfl]
  by_cases hk : k = f
  ·rw [if_pos hk]
   by_cases h : g = k
   ·have hb : (g == k) = true:=beq_iff_eq.mpr h
    simp only [List.lookup,hb,if_pos (h.trans hk)]
   ·have hb : (g == k) = false:=beq_eq_false_iff_ne.mpr h
    simp only [List.lookup,hb,if_neg (fun e : g = f=>h (e.trans hk.symm))]
  ·rw [if_neg hk]
   by_cases h : g = k
   ·have hb : (g == k) = true:=beq_iff_eq.mpr h
    simp only [List.lookup,hb,if_neg (fun e : g = f=>hk (h.symm.trans e))]
   ·have hb : (g == k) = false:=beq_eq_false_iff_ne.mpr h
    simp only [List.lookup,hb]
    exact ih
theorem keys_putF (f : Str) (v : V) : ∀ fs : List (Str × V),f ∈ (putF f v fs).map (·.1)∧∀ g,g ∈ fs.map (·.1)→g ∈ (putF f v fs).map (·.1)
 | []=>⟨by simp [putF],fun g h=>by simp at h⟩
 | (k,x) :: r=>by
  obtain ⟨i1,i2⟩:=keys_putF f v r
  rw [show putF f v ((k,x) :: r) = (if k = f then (k,v) :: r else (k,x) :: putF f v r) from rfl]
  by_cases hk : k = f
  ·rw [if_pos hk]
   subst hk
   exact ⟨by simp,fun g h=>by simpa using h⟩
  ·rw [if_neg hk]
   refine ⟨?_,fun g h=>?_⟩
   ·rw [List.map_cons]
    exact List.mem_cons_of_mem _ i1
   ·rw [List.map_cons] at h ⊢
    rcases List.mem_cons.mp h with e | e
    ·exact List.mem_cons.mpr (.inl e)
    ·exact List.mem_cons_of_mem _ (i2 g e)
theorem length_putF (f : Str) (v : V) : ∀ fs : List (Str × V),(putF f v fs).length ≤ fs.length + 1
 | []=>by simp [putF]
 | (k,x) :: r=>by
  have ih:=length_putF f v r
  rw [show putF f v ((k,x) :: r) = (if k = f then (k,v) :: r else (k,x) :: putF f v r) from rfl]
  by_cases hk : k = f
  ·rw [if_pos hk,List.length_cons,List.length_cons]; omega
  ·rw [if_neg hk,List.length_cons,List.length_cons]; omega
theorem RelO.some_of {v : V} {o : Option Value} (r : RelO (some v) o) : ∃ u,o = some u∧RelV v u:=by
 cases o with
 | none=>exact (show False from r).elim
 | some u=>exact ⟨u,rfl,r⟩
theorem RelO.none_of {o : Option Value} (r : RelO none o) : o = none:=by
 cases o with
 | none=>rfl
 | some u=>exact (show False from r).elim
theorem handed_of {v : V} {u : Value} (r : RelV v u) : PySem.W.handedIn u = true:=by
 cases v with
 | non=>cases (show u = Value.none from r); rfl
 | bl b=>cases (show u = Value.bool b from r); rfl
 | int i=>obtain ⟨t,e⟩:=(show ∃ t,u = Value.int i t from r); cases e; rfl
 | str x=>obtain ⟨t,e⟩:=(show ∃ t,u = Value.str x t from r); cases e; rfl
 | byt b=>obtain ⟨t,e⟩:=(show ∃ t,u = Value.bytes b t from r); cases e; rfl
 | flt b=>obtain ⟨t,e⟩:=(show ∃ t,u = Value.float b t from r); cases e; rfl
 | ref a=>cases (show u = Value.ref a from r); rfl
 | ty n=>cases (show u = Value.type n from r); rfl
section
variable {P : Program} {w : World} {H H' : Hp} {h h' : Heap} {a C dx : Addr} {fs fs' : List (Str × V)}
theorem ins_get (hok : HOk P w H h) (e : H a = some (.ins C dx fs)) : ∃ mA,ObjM h a dx C mA∧(∀ f,RelO (fs.lookup f) (mA f))∧PySem.Within mA (fs.map (·.1))∧fs.length ≤ 1000∧H dx = some (.own a):=by
 obtain ⟨d,z,ne,ob,mA,n,r,q⟩:=(show ObjOk P w H h a (.ins C dx fs) from hok a _ e)
 exact ⟨mA,⟨ob,n,ne⟩,r,q,z,d⟩
end
structure Cls (K : PySem.W.Frag) (C : Addr) : Prop where
 pg : PySem.W.plainGet K C Str.empty = true
 hd : PySem.W.hasDictIn K C = true
 po : PySem.W.plainOver K C = true
 sa : PySem.W.findIn K (.ref C) "__setattr__" = some (some (.builtin "object.__setattr__"))
theorem Cls.get {K : PySem.W.Frag} {C : Addr} (c : Cls K C) (f : Str) : PySem.W.plainGet K C f = true:=c.pg
noncomputable def NoAttr (K : PySem.W.Frag) (C : Addr) (f : Str) : Prop:=PySem.W.findIn K (.ref C) f = some none
theorem NoAttr.taker {K : PySem.W.Frag} {C : Addr} {f : Str} (n : NoAttr K C f) : PySem.W.takerIn K C f = some none:=by
 unfold PySem.W.takerIn
 rw [show PySem.W.findIn K (.ref C) f = some none from n]
 rfl
structure Meth (K : PySem.W.Frag) (C : Addr) (m : Str) (f : Addr) : Prop where
 at_ : PySem.W.findIn K (.ref C) m = some (some (.ref f))
 fn : PySem.W.isFn K (.ref f) = true
 kp : PySem.W.keepIn K (.ref f) = true
section
variable {X : Cx} {pins : List (Addr × Obj)} {σ : St} {H : Hp} {s : Shared} {a C dx : Addr} {fs : List (Str × V)} {f : Str} {v : V} {A : Around} {E : Value→Shared→Prop}
theorem getattr_ok {b : Bool} {Q : Value→Shared→Prop} (I : Inv X pins σ H s) (e : H a = some (.ins C dx fs)) (c : Cls X.K C) (n : NoAttr X.K C f) (l : fs.lookup f = some v)
  (h : ∀ u s',Inv X pins σ H s'→RelV v u→Q u s') : wpAny (model X.prog X.w) A (getAttr (.ref a) f b) Q E s:=by
 obtain ⟨mA,O,r,_,_,_⟩:=ins_get I.hok e
 obtain ⟨u,hu,ru⟩:=RelO.some_of (v:=v) (o:=mA f) (by rw [← l]; exact r f)
 exact get_map I.kIn O (c.get f) c.hd n hu (handed_of ru) (h u _ (I.tok _) ru)
theorem getmeth_ok {m : Str} {g : Addr} {pl : Sem Bool} {Q : Value × List Value→Shared→Prop} (I : Inv X pins σ H s) (e : H a = some (.ins C dx fs)) (c : Cls X.K C) (k : Meth X.K C m g) (l : fs.lookup m = none)
  (h : Q (.ref g,[.ref a]) s) : wpAny (model X.prog X.w) A (getMethod (.ref a) m pl) Q E s:=by
 obtain ⟨mA,O,r,_,_,_⟩:=ins_get I.hok e
 have hn : mA m = none:=RelO.none_of (by rw [← l]; exact r m)
 exact get_meth I.kIn O (c.get m) k.at_ k.fn hn h
theorem setattr_ok {y : V} {u : Value} {Q : Unit→Shared→Prop} (I : Inv X pins σ H s) (e : H a = some (.ins C dx fs)) (c : Cls X.K C) (n : NoAttr X.K C f) (hl : fs.length < 1000) (ry : RelV y u)
  (h : ∀ s',Inv X pins σ (upd H a (.ins C dx (putF f y fs))) s'→Q () s') : wpAny (model X.prog X.w) A (setAttr (.ref a) f u) Q E s:=by
 obtain ⟨mA,O,r,wi,_,ho⟩:=ins_get I.hok e
 have hz : (fs.map (·.1)).length ≤ sizeLine:=by rw [List.length_map,sizeLine_eq]; omega
 refine set_map I.kIn O c.sa c.po n.taker c.hd wi hz fun h' O' sb=>h _ ?_
 have hd : ∃ o,h'.get? dx = some o:=let ⟨o,_,_,e',_⟩:=O'.ns; ⟨o,e'⟩
 refine I.write (x:=a) (e:=dx) (by rw [e]; exact True.intro) (.inr ho) (fun b q hb z=>(sb.2 b hb).trans z) hd ?_
 refine ⟨by rw [upd_ne O.ne]; exact ho,?_,O.ne,O'.obj,_,O'.ns,fun g=>?_,fun g hg=>?_⟩
 ·have:=length_putF f y fs; omega
 ·show RelO ((putF f y fs).lookup g) (if g = f then some u else mA g)
  rw [lookup_putF]
  by_cases q : g = f
  ·rw [if_pos q,if_pos q]; exact ry
  ·rw [if_neg q,if_neg q]; exact r g
 ·by_cases q : g = f
  ·rw [q]; exact (keys_putF f y fs).1
  ·refine (keys_putF f y fs).2 g (wi g fun z=>hg ?_)
   show (if g = f then some u else mA g) = none
   rw [if_neg q]; exact z
theorem Inv.made (I : Inv X pins σ H s) : Inv X pins σ (upd (upd H s.heap.objs.size (.own (s.heap.objs.size + 1))) (s.heap.objs.size + 1) (.ins C s.heap.objs.size []))
  { s with heap:=(s.heap.push PySem.W.emptyDict).push (PySem.W.instObj C s.heap.objs.size) }:=by
 have e1 : (s.heap.push PySem.W.emptyDict).get? s.heap.objs.size = some PySem.W.emptyDict:=Heap.get?_push_size s.heap rfl
 have e2 : ((s.heap.push PySem.W.emptyDict).push (PySem.W.instObj C s.heap.objs.size)).get? (s.heap.objs.size + 1) = some (PySem.W.instObj C s.heap.objs.size):=by
  have:=Heap.get?_push_size (s.heap.push PySem.W.emptyDict) (o:=PySem.W.instObj C s.heap.objs.size) rfl
  rwa [Heap.size_push] at this
 have e3 : (s.heap.push PySem.W.emptyDict).Ns s.heap.objs.size (fun _=>none):=⟨PySem.W.emptyDict,#[],_,e1,rfl,(fun e he=>absurd he (by simp)),fun _=>rfl⟩
 have I1:=I.laid (a:=s.heap.objs.size) (o:=.own (s.heap.objs.size + 1)) (h':=s.heap.push PySem.W.emptyDict) (t':=s.toks) (fun b u q=>Heap.get?_push_of_some _ q) (Nat.le_refl _) ⟨_,e1⟩
 refine I1.laid (a:=s.heap.objs.size + 1) (o:=.ins C s.heap.objs.size []) (t':=s.toks) (fun b u q=>Heap.get?_push_of_some _ q) (Nat.le_of_eq (Heap.size_push _ _)) ?_
 have ne : s.heap.objs.size ≠ s.heap.objs.size + 1:=Nat.ne_of_lt (Nat.lt_succ_self _)
 refine ⟨by rw [upd_ne ne,upd_same],Nat.zero_le _,ne,e2,fun _=>none,(Heap.Ns1.of_empty e3).at fun o q=>Heap.get?_push_of_some _ q,fun _=>True.intro,fun y hy=>absurd rfl hy⟩
theorem attr_of {prog : Program} {w : World} {env : Env} {e : Expr} {f : Str} {pos : Pos} {s : Shared} {Q : Value→Shared→Prop} (hb : attributeBase e f env (eval e env) = eval e env)
  (h : wpAny (model prog w) A (eval e env) (fun o s₁=>wpAny (model prog w) A (getAttr o f true) Q E s₁) E s) : wpAny (model prog w) A (eval (.Attribute e f pos) env) Q E s :=
 Attribute_any_ h (by rw [arm_eval_Attribute,hb])
end
noncomputable def tFld (K : PySem.W.Frag) (ta : TE) (f : Str) : TE:=fun σ H Q=>ta σ H fun x H1=>∃ a C dx fs v,x = .ref a∧H1 a = some (.ins C dx fs)∧Cls K C∧NoAttr K C f∧fs.lookup f = some v∧Q v H1
noncomputable def sFld (K : PySem.W.Frag) (ta tv : TE) (f : Str) : TS:=fun D σ H=>tv σ H fun y H1=>ta σ H1 fun x H2=>∃ a C dx fs,x = .ref a∧H2 a = some (.ins C dx fs)∧Cls K C∧NoAttr K C f∧fs.length < 1000 ∧
 D.nx σ (upd H2 a (.ins C dx (putF f y fs)))
noncomputable def InOp (X : Cx) (op : Operator) (rd : V→V→Hp→VK→Prop) : Prop :=
 ∀ (pins : List (Addr × Obj)) (s : Shared) (σ : St) (H : Hp) (x y : V) (u v : Value) (Q : VK),Inv X pins σ H s→RelV x u→RelV y v→rd x y H Q→wpAny (model X.prog X.w) X.A (inplaceOp op u v) (EP X pins σ Q) X.xe s
noncomputable def sFldAug (K : PySem.W.Frag) (ta tv : TE) (rd : V→V→Hp→VK→Prop) (f : Str) : TS:=fun D σ H=>ta σ H fun x H1=>∃ a C dx fs v,x = .ref a∧H1 a = some (.ins C dx fs)∧Cls K C∧NoAttr K C f∧fs.lookup f = some v ∧
 tv σ H1 fun y H2=>rd v y H2 fun z H3=>∃ dx' fs',H3 a = some (.ins C dx' fs')∧fs'.length < 1000∧D.nx σ (upd H3 a (.ins C dx' (putF f z fs')))
section
variable {X : Cx} {o e value : Expr} {f : Str} {pos pos' tpos : Pos} {ta tv : TE}
theorem pe_fld (he : PE X e ta) (hb : attributeBase e f X.env (eval e X.env) = eval e X.env) : PE X (.Attribute e f pos) (tFld X.K ta f):=by
 intro pins s σ H Q I h
 refine attr_of hb (thn (he pins s σ H _ I h) fun u s1 ⟨x,H1,I1,rx,a,C,dx,fs,v,ex,ea,c,n,l,q⟩=>?_)
 subst ex
 obtain rfl : u = Value.ref a:=rx
 exact getattr_ok I1 ea c n l fun u' s2 I2 ru=>⟨v,H1,I2,ru,q⟩
theorem ps_fld (ha : PE X o ta) (hv : PE X value tv) (hs : swapsWith value (some (.Attribute o f pos')) pos.line X.env = pure false) : PS X (.Assign [.Attribute o f pos'] value pos) (sFld X.K ta tv f):=by
 intro pins s σ H D I h
 refine plainObj_wpAny_Assign_Attribute (thn (hv pins s σ H _ I h) fun u s1 ⟨y,H1,I1,ry,q⟩=>thn (ha pins s1 σ H1 _ I1 q) fun ov s2 ⟨x,H2,I2,rx,a,C,dx,fs,ex,ea,c,n,l,q2⟩=>?_) hs
 subst ex
 obtain rfl : ov = Value.ref a:=rx
 exact setattr_ok I2 ea c n l ry fun s3 I3=>⟨σ,_,I3,q2⟩
theorem ps_fldaug {op : Operator} {rd : V→V→Hp→VK→Prop} (ha : PE X o ta) (hv : PE X value tv) (hop : InOp X op rd) : PS X (.AugAssign (.Attribute o f tpos) op value pos) (sFldAug X.K ta tv rd f):=by
 intro pins s σ H D I h
 refine wpAny_AugAssign_AttributeAny (thn (ha pins s σ H _ I h) fun ov s1 ⟨x,H1,I1,rx,a,C,dx,fs,v,ex,ea,c,n,l,q⟩=>?_)
 subst ex
 obtain rfl : ov = Value.ref a:=rx
 refine getattr_ok I1 ea c n l fun u s2 I2 ru=>thn (hv pins s2 σ H1 _ I2 q) fun w3 s3 ⟨y,H2,I3,ry,q3⟩=>thn (hop pins s3 σ H2 v y u w3 _ I3 ru ry q3) fun w4 s4 ⟨z,H3,I4,rz,dx',fs',ea',l',q4⟩=>?_
 exact setattr_ok I4 ea' c n l' rz fun s5 I5=>⟨σ,_,I5,q4⟩
noncomputable def rAdd : V→V→Hp→VK→Prop:=fun x y H Q=>∃ i j,x = .int i∧y = .int j∧Q (.int (i + j)) H
theorem in_add : InOp X .Add rAdd:=by
 rintro pins s σ H x y u v Q I rx ry ⟨i,j,rfl,rfl,q⟩
 obtain ⟨t,rfl⟩:=(show ∃ t,u = Value.int i t from rx)
 obtain ⟨t',rfl⟩:=(show ∃ t',v = Value.int j t' from ry)
 exact PyProof.Rows.iadd_int ⟨.int (i + j),H,I.tok _,⟨_,rfl⟩,q⟩
end
section
variable {X : Cx} {pins : List (Addr × Obj)} {σ : St} {H : Hp} {s : Shared} {A : Around} {E : Value→Shared→Prop} {Q : Value→Shared→Prop} {c : Value} {b : Bool}
inductive TyOf (K : PySem.W.Frag) (H : Hp) : V→Value→Prop where
 | non : TyOf K H .non (.type "NoneType")
 | bl (x : Bool) : TyOf K H (.bl x) (.type "bool")
 | int (i : Int) : TyOf K H (.int i) (.type "int")
 | str (x : Str) : TyOf K H (.str x) (.type "str")
 | flt (x : UInt64) : TyOf K H (.flt x) (.type "float")
 | lst {a : Addr} {xs : List V} (e : H a = some (.lst xs)) : TyOf K H (.ref a) (.type "list")
 | frz {a : Addr} {o : Obj} {xs : List V} (e : H a = some (.frz o (.lst xs))) : TyOf K H (.ref a) (.type "list")
 | tup {a : Addr} {xs : List V} (e : H a = some (.tup xs)) : TyOf K H (.ref a) (.type "tuple")
 | dK {a : Addr} {kvs : List (Key × V)} (e : H a = some (.dK kvs)) : TyOf K H (.ref a) (.type "dict")
 | dT {a : Addr} {kvs : List (List Key × V)} (e : H a = some (.dT kvs)) : TyOf K H (.ref a) (.type "dict")
 | ins {a C dx : Addr} {fs : List (Str × V)} (e : H a = some (.ins C dx fs)) (cl : Cls K C) (ha : PySem.W.findIn K (.ref C) "__class__" = some (some (.builtin "object.__class__")))
   (hn : PySem.W.specialIn K (.builtin "object.__class__") "__get__" = some (some (.builtin "getset_descriptor.__get__"))) (htk : PySem.W.takesIn K (.builtin "object.__class__") = some true)
   (hm : PySem.W.mroIn K C (.type "object") = some true) : TyOf K H (.ref a) (.ref C)
theorem isinst_ok {x : V} {u t : Value} (I : Inv X pins σ H s) (rx : RelV x u) (ty : TyOf X.K H x t) (e : PySem.W.kitOne X.K t c = some b) (h : ∀ tk,Q (.bool b) { s with toks:=tk }) :
  wpAny (model X.prog X.w) A (call (.builtin "isinstance") [u,c]) Q E s:=by
 cases ty with
 | non=>cases (show u = Value.none from rx); exact PySem.W.kia_one PySem.W.kitx_none I.kIn True.intro e (fun z=>nomatch z) h
 | bl y=>cases (show u = Value.bool y from rx); exact PySem.W.kia_one PySem.W.kitx_bool I.kIn True.intro e (fun z=>nomatch z) h
 | int i=>obtain ⟨t,q⟩:=(show ∃ t,u = Value.int i t from rx); cases q; exact PySem.W.kia_one PySem.W.kitx_int I.kIn True.intro e (fun z=>nomatch z) h
 | str y=>obtain ⟨t,q⟩:=(show ∃ t,u = Value.str y t from rx); cases q; exact PySem.W.kia_one PySem.W.kitx_str I.kIn True.intro e (fun z=>nomatch z) h
 | flt y=>obtain ⟨t,q⟩:=(show ∃ t,u = Value.float y t from rx); cases q; exact PySem.W.kia_one PySem.W.kitx_float I.kIn True.intro e (fun z=>nomatch z) h
 | @lst a xs ea =>
  cases (show u = Value.ref a from rx)
  obtain ⟨_,_,n,_,h1⟩:=(show ObjOk X.prog X.w H s.heap a (.lst xs) from I.hok a _ ea)
  exact PySem.W.kia_one PySem.W.kitx_list I.kIn ⟨_,h1,rfl⟩ e (fun z=>nomatch z) h
 | @frz a ob xs ea =>
  cases (show u = Value.ref a from rx)
  obtain ⟨_,_,_,n,_,h1⟩:=(show ObjOk X.prog X.w H s.heap a (.frz ob (.lst xs)) from I.hok a _ ea)
  exact PySem.W.kia_one PySem.W.kitx_list I.kIn ⟨_,h1,rfl⟩ e (fun z=>nomatch z) h
 | @tup a xs ea =>
  cases (show u = Value.ref a from rx)
  obtain ⟨_,_,_,p⟩:=(show ObjOk X.prog X.w H s.heap a (.tup xs) from I.hok a _ ea)
  obtain ⟨o,h1,h2,_⟩:=p
  exact PySem.W.kia_one PySem.W.kitx_tuple I.kIn ⟨o,h1,h2⟩ e (fun z=>nomatch z) h
 | @dK a kvs ea =>
  cases (show u = Value.ref a from rx)
  obtain ⟨_,_,vs,_,p⟩:=(show ObjOk X.prog X.w H s.heap a (.dK kvs) from I.hok a _ ea)
  obtain ⟨o,es,ep,h1,h2,_⟩:=p
  exact PySem.W.kia_one PySem.W.kitx_dict I.kIn ⟨o,h1,h2.1⟩ e (fun z=>nomatch z) h
 | @dT a kvs ea =>
  cases (show u = Value.ref a from rx)
  obtain ⟨_,_,xs,_,o,es,ep,h1,h2,_⟩:=(show ObjOk X.prog X.w H s.heap a (.dT kvs) from I.hok a _ ea)
  exact PySem.W.kia_one PySem.W.kitx_dict I.kIn ⟨o,h1,h2.1⟩ e (fun z=>nomatch z) h
 | @ins a C dx fs ea cl ha hn htk hm =>
  cases (show u = Value.ref a from rx)
  obtain ⟨mA,O,_⟩:=ins_get I.hok ea
  obtain ⟨od,J,_⟩:=O.look
  exact PySem.W.kia_one (PySem.W.kitx_own (cl.get _) cl.hd ha hn htk hm) I.kIn J e (fun z=>nomatch z) h
end
end L2
namespace L2
open PySem PySem.Spec PyProof.Rows
structure Room (k : Nat) (A : Around) : Prop where
 hd : A.handled = none
 dp : A.depth + 3 * k + 5 < recursionLimit
 un : A.units + 16 * k + 200 < cLine
theorem Room.mono {j k : Nat} {A : Around} (r : Room k A) (h : j ≤ k) : Room j A:=⟨r.hd,by have:=r.dp; omega,by have:=r.un; omega⟩
theorem Room.deeper {k : Nat} {A : Around} (r : Room (k + 1) A) (env : Env) : Room k (A.deeper env) :=
 ⟨r.hd,by have:=r.dp; show A.depth + 1 + 3 * k + 5 < _; omega,by have:=r.un; show A.units + 3 + 16 * k + 200 < _; omega⟩
theorem make_depth {A : Around} {C : Addr} {us : List Value} {kw : List (Str × Value)} : (A.under (.builtin "type.__call__" ⟨.ref C :: us,kw⟩)).depth = A.depth + 1:=by
 first | rfl | simp [Around.under,Code.weight,Code.isCreation,Code.isGuard,Code.isCaller,Code.frames,Code.isFrame,guardIds]
theorem make_units {A : Around} {C : Addr} {us : List Value} {kw : List (Str × Value)} : (A.under (.builtin "type.__call__" ⟨.ref C :: us,kw⟩)).units = A.units + 1:=by
 first | rfl | simp [Around.under,Code.cUnits,Code.frames,Code.isFrame]
theorem Room.make {k : Nat} {A : Around} (r : Room (k + 1) A) (C : Addr) (us : List Value) (kw : List (Str × Value)) : Room k (A.under (.builtin "type.__call__" ⟨.ref C :: us,kw⟩)) :=
 ⟨r.hd,by have:=r.dp; rw [make_depth]; omega,by have:=r.un; rw [make_units]; omega⟩
theorem Room.depth {k : Nat} {A : Around} (r : Room k A) : A.depth < recursionLimit:=by have:=r.dp; omega
noncomputable def tNil : TA:=fun _ H Q=>Q [] H
noncomputable def tCons (ta : TE) (tr : TA) : TA:=fun σ H Q=>ta σ H fun x H1=>tr σ H1 fun xs H2=>Q (x :: xs) H2
section
variable {X : Cx} {e : Expr} {es : List Expr} {te : TE} {t : TA} {pos : Pos}
theorem pa_nil : PA X [] tNil:=fun _ _ _ _ H Q I h=>Calls.spliced_nil ⟨[],H,I,.nil,h⟩
theorem pa_cons (ha : PE X e te) (hr : PA X es t) (hs : starEach (e :: es) X.env = (false,eval e X.env) :: starEach es X.env:=by rfl) : PA X (e :: es) (tCons te t):=by
 intro pos pins s σ H Q I h
 rw [hs]
 show wpAny _ _ (spliced ((false,eval e X.env) :: backTo pos (starEach es X.env))) _ _ s
 refine Calls.spliced_cons (thn (ha pins s σ H _ I h) fun u s1 ⟨x,H1,I1,r1,q1⟩=>?_)
 exact thn (hr pos pins s1 σ H1 _ I1 q1) fun us s2 ⟨xs,H2,I2,r2,q2⟩=>⟨x :: xs,H2,I2,.cons r1 r2,q2⟩
noncomputable def tTup (t : TA) : TE:=fun σ H Q=>t σ H fun xs H1=>xs.length ≤ sizeLine∧∀ p,H1 p = none→Q (.ref p) (upd H1 p (.tup xs))
noncomputable def tLst (t : TA) : TE:=fun σ H Q=>t σ H fun xs H1=>xs.length ≤ sizeLine∧∀ p,H1 p = none→Q (.ref p) (upd H1 p (.lst xs))
theorem pe_tup {x1} (h : PA X es t) : PE X (.Tuple es x1 pos) (tTup t):=by
 intro pins s σ H Q I hq
 refine wpAny_Tuple_spliced (thn (h pos pins s σ H _ I hq) fun us s1 ⟨xs,H1,I1,r,z,q⟩=>⟨by rw [← r.length]; exact z,?_⟩)
 have hf : H1 s1.heap.objs.size = none:=I1.hok.fresh (Nat.le_refl _)
 refine ⟨.ref s1.heap.objs.size,upd H1 s1.heap.objs.size (.tup xs),I1.laid (t':=s1.toks) (fun b u e=>Heap.get?_push_of_some _ e) (Nat.le_refl _) ?_,rfl,q _ hf⟩
 exact ⟨z,us,r,⟨_,Heap.get?_push_size _ rfl,rfl,_,rfl⟩⟩
theorem pe_lst (h : PA X es t) : PE X (.List es pos) (tLst t):=by
 intro pins s σ H Q I hq
 refine wpAny_List_spliced (thn (h pos pins s σ H _ I hq) fun us s1 ⟨xs,H1,I1,r,z,q⟩=>⟨by rw [← r.length]; exact z,?_⟩)
 have hf : H1 s1.heap.objs.size = none:=I1.hok.fresh (Nat.le_refl _)
 refine ⟨.ref s1.heap.objs.size,upd H1 s1.heap.objs.size (.lst xs),I1.laid (t':=s1.toks) (fun b u e=>Heap.get?_push_of_some _ e) (Nat.le_refl _) ?_,rfl,q _ hf⟩
 exact ⟨z,us,0,r,Heap.get?_push_size _ rfl⟩
end
noncomputable abbrev Sp:=List V→Hp→VK→XK→Prop
noncomputable abbrev CXT:=List Env→Hp→Shared→XK→Value→Shared→Prop
structure Env0 (P : Program) (w : World) (K : PySem.W.Frag) (mg : Str→Option Value) (base : Heap) (A : Around) (outer : List Env) (s : Shared) (H : Hp) : Prop where
 frames : A.frames = some outer
 mod : Mod K mg base
 bs : ∀ b o,base.get? b = some o→s.heap.get? b = some o∧H b = none
 bsz : base.objs.size ≤ s.heap.objs.size
 funs : s.heap.FunFrames base outer
 frf : ∀ b ∈ frs outer,H b = none
 hok : HOk P w H s.heap
 bare : AllBare s.gens
noncomputable def CE (outer : List Env) (P : Program) (w : World) (H : Hp) (s : Shared) (Q : VK) (u : Value) (s' : Shared) : Prop :=
 ∃ v H',s'.os = s.os∧AllBare s'.gens∧Un (frs outer) [] H H' s.heap s'.heap∧HOk P w H' s'.heap∧RelV v u∧Q v H'
noncomputable def CR (CX : CXT) (outer : List Env) (P : Program) (w : World) (H : Hp) (s : Shared) (Q : VK) (E : XK) (r : Result) (s' : Shared) : Prop :=
 match r with
 | .ok (.ret u)=>CE outer P w H s Q u s'
 | .ok _=>False
 | .error e=>CX outer H s E e s'
structure FnOk (P : Program) (w : World) (K : PySem.W.Frag) (mg : Str→Option Value) (base : Heap) (CX : CXT) (k : Nat) (f : Addr) (fd : FuncData) (ps : List Str) (sp : Sp) : Prop where
 len : ∀ vs H Q E,sp vs H Q E→vs.length = ps.length
 run : ∀ (A : Around) (outer : List Env) (s : Shared) (H : Hp) (args : Args) (us : List Value) (vs : List V) (Q : VK) (E : XK),Room k A→Env0 P w K mg base A outer s H→BindsTo s fd args (ps.zip us)→Vals vs us→sp vs H Q E →
  codeAny (model P w) A (.call (.ref f) args) (CR CX outer P w H s Q E) s
theorem Env0.make {P : Program} {w : World} {K : PySem.W.Frag} {mg : Str→Option Value} {base : Heap} {A : Around} {outer : List Env} {s : Shared} {H : Hp} (e : Env0 P w K mg base A outer s H) (C : Addr) (us : List Value) (kw : List (Str × Value)) :
  Env0 P w K mg base (A.under (.builtin "type.__call__" ⟨.ref C :: us,kw⟩)) outer s H:=⟨by first | exact e.frames | (simpa [Around.under,Code.envs,Code.isFrame,pushEnvs] using e.frames),e.mod,e.bs,e.bsz,e.funs,e.frf,e.hok,e.bare⟩
section
variable {X : Cx} {pins : List (Addr × Obj)} {σ : St} {H : Hp} {s s' : Shared}
theorem Inv.env0 (I : Inv X pins σ H s) : Env0 X.prog X.w X.K X.mg X.base X.A X.stack s H :=
 ⟨I.ok.frames,I.ok.mod,I.bs,Nat.le_trans I.ok.bsz I.sz,I.stack,I.stkFree,I.hok,I.bare⟩
theorem Inv.after {Q : VK} {u : Value} (I : Inv X pins σ H s) (h : CE X.stack X.prog X.w H s Q u s') : EP X pins σ Q u s':=by
 obtain ⟨v,H',os,bare,un,hok,r,q⟩:=h
 obtain ⟨hh,g,d,t,os'⟩:=s'
 obtain rfl : os' = s.os:=os
 exact ⟨v,H',I.call (h':=hh) (g':=g) (d':=d) (t':=t) (ch:=[]) un hok bare (fun b z=>absurd z (by simp)),r,q⟩
end
noncomputable def tCall (sp : Sp) (dvs : List V) (E : XK) (t : TA) : TE:=fun σ H Q=>t σ H fun vs H1=>sp (vs ++ dvs) H1 Q E
noncomputable def Binds (K : PySem.W.Frag) (fd : FuncData) (ps : List Str) (ds : List Value) : Prop :=
 ∀ (s : Shared) (us : List Value),K.In s.heap→(us ++ ds).length = ps.length→BindsTo s fd ⟨us,[]⟩ (ps.zip (us ++ ds))
theorem Binds.all {K : PySem.W.Frag} {fd : FuncData} {ps : List Str} (h : ∀ us : List Value,us.length = ps.length→bindArgs fd ⟨us,[]⟩ = pure (ps.zip us)) : Binds K fd ps []:=fun s us _ hl=>by
 rw [List.append_nil] at hl ⊢
 exact .of_eq (h us hl)
noncomputable def Passes (CX : CXT) (X : Cx) (E : XK) : Prop:=∀ (pins : List (Addr × Obj)) (σ : St) (H : Hp) (s : Shared) (e : Value) (s' : Shared),Inv X pins σ H s→CX X.stack H s E e s'→X.xe e s'
section
variable {X : Cx} {CX : CXT} {k : Nat} {f C : Addr} {fd : FuncData} {ps : List Str} {sp : Sp} {dvs : List V} {ds : List Value} {E : XK} {x m : Str} {p pos apos : Pos} {e o : Expr} {es : List Expr} {ta : TE} {t : TA}
theorem run_fn {pins : List (Addr × Obj)} {σ : St} {H : Hp} {s : Shared} {Q : VK} {us : List Value} {vs : List V} (F : FnOk X.prog X.w X.K X.mg X.base CX k f fd ps sp) (hr : Room k X.A) (hb : Binds X.K fd ps ds) (hd : Vals dvs ds) (hx : Passes CX X E)
  (I : Inv X pins σ H s) (r : Vals vs us) (h : sp (vs ++ dvs) H Q E) : wpAny (model X.prog X.w) X.A (call (.ref f) us) (EP X pins σ Q) X.xe s:=by
 have r2 : Vals (vs ++ dvs) (us ++ ds):=r.append hd
 have hl : (us ++ ds).length = ps.length:=by rw [← r2.length]; exact F.len _ _ _ _ h
 refine wpAny_call (codeAny_mono (F.run X.A X.stack s H ⟨us,[]⟩ (us ++ ds) (vs ++ dvs) Q E hr I.env0 (hb s us I.kIn hl) r2 h) fun r s' hq=>?_)
 cases r with
 | error e=>exact hx pins σ H s e s' I hq
 | ok fl =>
  cases fl with
  | ret u=>exact I.after hq
  | next=>exact False.elim hq
  | brk=>exact False.elim hq
  | cont=>exact False.elim hq
theorem pe_call (F : FnOk X.prog X.w X.K X.mg X.base CX k f fd ps sp) (hr : Room k X.A) (hg : Gl X x) (hm : X.mg x = some (.ref f)) (hk : PySem.W.keepIn X.K (.ref f) = true) (hb : Binds X.K fd ps ds) (hd : Vals dvs ds) (hx : Passes CX X E)
  (ha : PA X (e :: es) t) (hdb : (x == ("__debug__" : Str)) = false:=by decide) (he : starEach (e :: es) X.env = (false,eval e X.env) :: starEach es X.env:=by rfl) (hpl : (backTo pos (starEach es X.env)).any (·.1) = false:=by rfl) :
  PE X (.Call (.Name x p) (e :: es) [] pos) (tCall sp dvs E t):=by
 intro pins s σ H Q I h
 refine wpAny_Call_Name_kw (ld_glob I hg hm ?_ hdb)
 refine PySem.W.callWith_K (h₀:=X.base) I.ok.mod.kin hk (thn (ha pos pins s σ H _ I h) fun us s1 ⟨vs,H1,I1,r,q⟩=>⟨I1.kIn,?_⟩) he hpl
 exact run_fn F hr hb hd hx I1 r q
structure Mk (K : PySem.W.Frag) (C f : Addr) : Prop where
 makes : PySem.W.makesIn K C = true
 init : PySem.W.findIn K (.ref C) "__init__" = some (some (.ref f))
 fn : PySem.W.isFn K (.ref f) = true
 kp : PySem.W.keepIn K (.ref C) = true
theorem run_make {pins : List (Addr × Obj)} {σ : St} {H : Hp} {s : Shared} {Q : VK} {us : List Value} {vs : List V} (M : Mk X.K C f) (F : FnOk X.prog X.w X.K X.mg X.base CX k f fd ps sp) (hr : Room (k + 1) X.A) (hb : Binds X.K fd ps ds) (hd : Vals dvs ds)
  (hx : Passes CX X E) (I : Inv X pins σ H s) (r : Vals vs us)
  (h : ∀ x dx,H x = none→H dx = none→dx ≠ x→sp (.ref x :: (vs ++ dvs)) (upd (upd H dx (.own x)) x (.ins C dx [])) (fun v H2=>v = .non∧Q (.ref x) H2) E) :
  wpAny (model X.prog X.w) X.A (call (.ref C) us) (EP X pins σ Q) X.xe s:=by
 have hq:=h (s.heap.objs.size + 1) s.heap.objs.size (I.hok.fresh (Nat.le_succ _)) (I.hok.fresh (Nat.le_refl _)) (Nat.ne_of_lt (Nat.lt_succ_self _))
 have I2:=Inv.made (C:=C) I
 have r2 : Vals (V.ref (s.heap.objs.size + 1) :: (vs ++ dvs)) (Value.ref (s.heap.objs.size + 1) :: (us ++ ds)):=.cons rfl (r.append hd)
 have hl : (Value.ref (s.heap.objs.size + 1) :: us ++ ds).length = ps.length:=by
  have e:=r2.length
  rw [F.len _ _ _ _ hq] at e
  exact e.symm
 refine wpAny_call (make_map (f:=f) I.kIn M.makes M.init (beq_iff_eq.mp M.fn) (codeAny_mono (F.run _ X.stack _ _ ⟨Value.ref (s.heap.objs.size + 1) :: us,[]⟩ (Value.ref (s.heap.objs.size + 1) :: (us ++ ds)) _ _ E (hr.make C us [])
  (I2.env0.make C us []) (hb _ (Value.ref (s.heap.objs.size + 1) :: us) I2.kIn hl) r2 hq) fun r s' hq'=>?_))
 cases r with
 | error e=>exact hx pins σ _ _ e s' I2 hq'
 | ok fl =>
  cases fl with
  | ret u =>
   obtain ⟨v,H',I3,rv,ev,q3⟩:=I2.after hq'
   subst ev
   exact ⟨rv,⟨V.ref (s.heap.objs.size + 1),H',I3,rfl,q3⟩⟩
  | next=>exact False.elim hq'
  | brk=>exact False.elim hq'
  | cont=>exact False.elim hq'
end
section
variable {X : Cx} {CX : CXT} {k : Nat} {f C : Addr} {fd : FuncData} {ps ks : List Str} {sp : Sp} {E : XK} {x m : Str} {p pos apos kpos : Pos} {e o : Expr} {es : List Expr} {kws : List Keyword} {te ta : TE} {t tk : TA} {nm : Option Str}
variable {g : List Value→List Value→List Value} {gV : List V→List V→List V}
end
structure FnScope (N P : List Str) (sc : Scope) : Prop where
 kind : sc.kind = .function
 co : sc.isCoroutine = false
 gen : sc.isGenerator = false
 nd : N.Nodup
 pre : N.take P.length = P
 par : ∀ x ∈ P,sc.names.lookup x = some .local ∨ sc.names.lookup x = some .cell
 nofree : ∀ y ∈ sc.names,y.2 ≠ .free
theorem bindL_out {kindOf : Str→Option NameKind} {x : Str} : ∀ {binds : List (Str × Value)} {m : Str→Option Value},(∀ v,(x,v) ∉ binds)→bindL kindOf binds m x = m x
 | [],_,_=>rfl
 | (n,v) :: r,m,h=>by
  unfold bindL
  rw [bindL_out fun w hw=>h w (List.mem_cons_of_mem _ hw)]
  split
  ·have : x ≠ n:=by rintro rfl; exact h v List.mem_cons_self
   simp [this]
  ·rfl
theorem bindC_out {kindOf : Str→Option NameKind} {x : Str} : ∀ {binds : List (Str × Value)} {m : Str→Option Value},(∀ v,(x,v) ∉ binds)→bindC kindOf binds m x = m x
 | [],_,_=>rfl
 | (n,v) :: r,m,h=>by
  unfold bindC
  rw [bindC_out fun w hw=>h w (List.mem_cons_of_mem _ hw)]
  split
  ·rfl
  ·have : x ≠ n:=by rintro rfl; exact h v List.mem_cons_self
   simp [this]
theorem bindL_get {kindOf : Str→Option NameKind} {x : Str} {v : Value} : ∀ {P : List Str} {vs : List Value} {i : Nat} {m : Str→Option Value},P.Nodup→P[i]? = some x→vs[i]? = some v→kindOf x = some .local →
  bindL kindOf (P.zip vs) m x = some v
 | [],_,_,_,_,h,_,_=>by simp at h
 | _ :: _,[],_,_,_,_,h,_=>by simp at h
 | p :: P,w :: vs,0,m,nd,h1,h2,hk=>by
  simp at h1 h2; subst h1; subst h2
  show bindL kindOf ((p,w) :: P.zip vs) m p = _
  unfold bindL
  rw [bindL_out fun v hv=>(List.nodup_cons.mp nd).1 (List.of_mem_zip hv).1,if_pos hk]
  simp
 | p :: P,w :: vs,i + 1,m,nd,h1,h2,hk=>by
  show bindL kindOf ((p,w) :: P.zip vs) m x = _
  unfold bindL
  exact bindL_get (i:=i) (List.nodup_cons.mp nd).2 (by simpa using h1) (by simpa using h2) hk
theorem bindC_get {kindOf : Str→Option NameKind} {x : Str} {v : Value} : ∀ {P : List Str} {vs : List Value} {i : Nat} {m : Str→Option Value},P.Nodup→P[i]? = some x→vs[i]? = some v→kindOf x ≠ some .local →
  bindC kindOf (P.zip vs) m x = some v
 | [],_,_,_,_,h,_,_=>by simp at h
 | _ :: _,[],_,_,_,_,h,_=>by simp at h
 | p :: P,w :: vs,0,m,nd,h1,h2,hk=>by
  simp at h1 h2; subst h1; subst h2
  show bindC kindOf ((p,w) :: P.zip vs) m p = _
  unfold bindC
  rw [bindC_out fun v hv=>(List.nodup_cons.mp nd).1 (List.of_mem_zip hv).1,if_neg hk]
  simp
 | p :: P,w :: vs,i + 1,m,nd,h1,h2,hk=>by
  show bindC kindOf ((p,w) :: P.zip vs) m x = _
  unfold bindC
  exact bindC_get (i:=i) (List.nodup_cons.mp nd).2 (by simpa using h1) (by simpa using h2) hk
noncomputable def start (N : List Str) (vs : List V) : St:=vs.map some ++ List.replicate (N.length - vs.length) none
noncomputable def cxOf (CX : CXT) (P : Program) (w : World) (K : PySem.W.Frag) (mg : Str→Option Value) (base : Heap) (N : List Str) (qual : Str) (scope : Scope) (f : Addr) (cd : Value) (A : Around) (outer : List Env) (s : Shared) (H : Hp) (E : XK) : Cx where
 prog:=P
 w:=w
 K:=K
 mg:=mg
 base:=base
 A:=A.deeper (envOfC qual scope s.heap.objs.size f cd)
 N:=N
 s₀:=s
 H₀:=H
 env:=envOfC qual scope s.heap.objs.size f cd
 outer:=outer
 stack:=envOfC qual scope s.heap.objs.size f cd :: outer
 ex:=[]
 calm:=true
 fn:=fun _=>true
 pn:=[]
 xe:=fun e s'=>wpAny (model P w) (A.deeper (envOfC qual scope s.heap.objs.size f cd)) (leaving (envOfC qual scope s.heap.objs.size f cd) e) (fun _ s''=>CX outer H s E e s'') (fun e' s''=>CX outer H s E e' s'') s'
theorem cell_has {sc : Scope} {n : Nat} {x : Str} (h : sc.names.lookup x = some .cell) : ∃ c,(cellsFrom n sc.names []).lookup x = some c:=by
 have q:=PySem.W.cellsFrom_some sc.names n [] (.inl h)
 exact Option.isSome_iff_exists.mp q
theorem inv_start {CX : CXT} {P : Program} {w : World} {K : PySem.W.Frag} {mg : Str→Option Value} {base : Heap} {N ps : List Str} {qual : Str} {scope : Scope} {f : Addr} {cd : Value} {A : Around} {outer : List Env} {s s1 : Shared} {H : Hp} {E : XK} {us : List Value} {vs : List V}
  (S : FnScope N ps scope) (hd : A.handled = none) (e0 : Env0 P w K mg base A outer s H) (hl : vs.length = ps.length) (r : Vals vs us)
  (x : InCallC s s.heap.objs.size (bindL (envOfC qual scope s.heap.objs.size f cd).kindOf (ps.zip us) fun _=>none) (cellsFrom (s.heap.objs.size + 1) scope.names []) (bindC (envOfC qual scope s.heap.objs.size f cd).kindOf (ps.zip us) fun _=>none) s1) :
  Inv (cxOf CX P w K mg base N qual scope f cd A outer s H E) [] (start N vs) H s1:=by
 have hpl : ps.length ≤ N.length:=by have:=congrArg List.length S.pre; rw [List.length_take] at this; omega
 obtain ⟨h1,tk,rfl,hk⟩:=x.done
 have noA : ∀ b : Addr,b ∉ (cxOf CX P w K mg base N qual scope f cd A outer s H E).ex:=fun b z=>absurd (show b ∈ ([] : List Addr) from z) (by simp)
 refine ⟨⟨e0.mod,S.kind,rfl,rfl,Nat.le_refl _,fun y z c h1 h2=>?_,fun y hy=>?_,fun y c _ h=>?_,fun _=>hd,Around.frames_deeper e0.frames,.inr ⟨rfl,rfl⟩,fun b z=>absurd z (noA b),e0.bs,e0.bsz,fun b _ _=>noA b,fun b z=>absurd z (noA b),e0.funs,e0.frf⟩,
  rfl,e0.bare,Un.kept hk,⟨_,x.toInCall.ns,fun i y v h1 h2 h3=>?_⟩,fun y c h=>⟨_,x.cell y c h⟩,e0.hok.fresh (Nat.le_refl _),fun y c h=>?_,fun p hp=>absurd (show p ∈ ([] : List (Addr × Obj)) from hp) (by simp),e0.hok.kept hk,?_⟩
 ·exact name_of_addr x.apart (PySem.mem_of_lookup h1) (PySem.mem_of_lookup h2)
 ·have hy : scope.names.lookup y = some .cell ∨ scope.names.lookup y = some .free:=hy
  rcases hy with hy | hy
  ·exact cell_has hy
  ·exact absurd rfl (S.nofree _ (PySem.mem_of_lookup hy))
 ·exact Nat.le_of_lt (x.above y c (PySem.mem_of_lookup h))
 ·have hi : i < vs.length:=by
   unfold start at h2
   by_cases hi : i < vs.length
   ·exact hi
   ·rw [List.getElem?_append_right (by simpa using hi)] at h2
    rw [List.getElem?_replicate] at h2
    split at h2 <;> cases h2
  have ha : vs[i]? = some v:=by
   unfold start at h2
   rw [List.getElem?_append_left (by simpa using hi),List.getElem?_map] at h2
   cases e : vs[i]? with
   | none=>rw [e] at h2; cases h2
   | some a=>rw [e] at h2; cases h2; rfl
  obtain ⟨u,hu,rv⟩:=r.get ha
  have hp : ps[i]? = some y:=by
   rw [← S.pre,List.getElem?_take_of_lt (by omega)]; exact h1
  have ndP : ps.Nodup:=by rw [← S.pre]; exact S.nd.sublist (List.take_sublist _ _)
  refine ⟨u,rv,?_⟩
  rcases S.par y (List.mem_of_getElem? hp) with k | k
  ·exact .inl ⟨k,bindL_get ndP hp hu k⟩
  ·obtain ⟨c,e⟩:=cell_has (n:=s.heap.objs.size + 1) k
   refine .inr ⟨.inl k,c,e,?_⟩
   have q:=x.cell y c e
   rw [bindC_get ndP hp hu (by show scope.names.lookup y ≠ _; rw [k]; decide)] at q
   exact q
 ·exact e0.hok.fresh (Nat.le_of_lt (x.above y c (PySem.mem_of_lookup h)))
 ·unfold start
  show _ = N.length
  rw [List.length_append,List.length_map,List.length_replicate]
  omega
theorem fn_of {CX : CXT} {P : Program} {w : World} {K : PySem.W.Frag} {mg : Str→Option Value} {base : Heap} {k : Nat} {f : Addr} {name qual : Str} {params : Arguments} {body : List Stmt} {scope : Scope} {dV kV doc pm cdv ct oc : Value} {an od : Option Addr}
  {osl : Array (Option Value)} {N ps : List Str} {sp : Sp} (lk : K.lookup f = some ⟨oc,od,.func (PySem.W.fnOf name qual params body scope dV kV doc pm an cdv ct),osl⟩) (hcd : PySem.W.codeIn K cdv qual = true) (S : FnScope N ps scope)
  (len : ∀ vs H Q E,sp vs H Q E→vs.length = ps.length)
  (hbody : ∀ (A : Around) (outer : List Env) (s : Shared) (H : Hp) (vs : List V) (Q : VK) (E : XK),Room k (A.deeper (envOfC qual scope s.heap.objs.size f cdv))→sp vs H Q E →
   ∃ t,PSs (cxOf CX P w K mg base N qual scope f cdv A outer s H E) body t∧t { nx:=fun _ H'=>Q .non H',rt:=Q } (start N vs) H) :
  FnOk P w K mg base CX (k + 1) f (PySem.W.fnOf name qual params body scope dV kV doc pm an cdv ct) ps sp:=by
 refine ⟨len,fun A outer s H args us vs Q E hr e0 hb r hsp=>?_⟩
 have hl:=len _ _ _ _ hsp
 have KX : K.In s.heap:=e0.mod.kin.keeps fun b o e=>(e0.bs b o e).1
 have lim : s.heap.NoLimit:=e0.mod.nolimit.keeps fun b o e=>(e0.bs b o e).1
 have hkind : ∀ y ∈ ps.zip us,scope.names.lookup y.1 = some .local ∨ (scope.names.lookup y.1 = some .cell∧((cellsFrom (s.heap.objs.size + 1) scope.names []).lookup y.1).isSome = true):=fun ⟨n,v⟩ hy=>by
  rcases S.par n (List.of_mem_zip hy).1 with q | q
  ·exact .inl q
  ·exact .inr ⟨q,PySem.W.cellsFrom_some _ _ _ (.inl q)⟩
 refine codeAny_call_function hr.depth (KX _ _ lk) rfl S.co S.gen rfl (PySem.W.codeRec_of KX hcd) (hb _ _ _ _ ?_)
 refine wpAny_newFunctionEnv_cells S.kind hkind fun env he s1 x=>?_
 subst he
 refine ⟨lim.keeps x.toInCall.keep,codeAny_func ?_⟩
 obtain ⟨t,ht,hq⟩:=hbody A outer s H vs Q E (hr.deeper _) hsp
 have I : Inv (cxOf CX P w K mg base N qual scope f cdv A outer s H E) [] (start N vs) H s1:=inv_start S hr.hd e0 hl r x
 refine wpAny_mono (ht [] s1 (start N vs) H _ I hq) (fun fl s' hs=>?_) fun e s' hs=>hs
 have fin : ∀ {σ' : St} {H' : Hp} {v : V} {u : Value},Inv (cxOf CX P w K mg base N qual scope f cdv A outer s H E) [] σ' H' s'→RelV v u→Q v H'→CE outer P w H s Q u s' :=
  fun {σ' H' v u} J rv q=>⟨v,H',J.os,J.bare,J.base,J.hok,rv,q⟩
 cases fl with
 | ret u =>
  obtain ⟨v,σ',H',J,rv,q⟩:=hs
  exact fin J rv q
 | next =>
  obtain ⟨σ',H',J,q⟩:=hs
  exact fin (v:=V.non) (u:=Value.none) J rfl q
 | brk =>
  obtain ⟨_,_,_,q⟩:=hs
  exact False.elim q
 | cont =>
  obtain ⟨_,_,_,q⟩:=hs
  exact False.elim q
end L2
namespace L2
open PySem PySem.Spec PyProof.Rows
section
variable {X : Cx} {x : Str} {p pos : Pos} {e : Expr} {es : List Expr} {t : TA} {id T : String} {r : List V→Hp→VK→Prop}
noncomputable def tCB (r : List V→Hp→VK→Prop) (t : TA) : TE:=fun σ H Q=>t σ H fun vs H1=>r vs H1 Q
theorem pe_callB (hc : CallR X (.builtin id) r) (hg : Gl X x) (hm : X.mg x = none) (hv : bootBuiltins x = some (.builtin id)) (ha : PA X (e :: es) t) (hn : x ≠ "__name__":=by decide) (hdb : (x == ("__debug__" : Str)) = false:=by decide)
  (he : starEach (e :: es) X.env = (false,eval e X.env) :: starEach es X.env:=by rfl) (hpl : (backTo pos (starEach es X.env)).any (·.1) = false:=by rfl) : PE X (.Call (.Name x p) (e :: es) [] pos) (tCB r t):=by
 intro pins s σ H Q I h
 refine wpAny_Call_Name_kw (ld_blt I hg hm hv ?_ hn hdb)
 exact PyProof.Rows.callWith_builtin1 (thn (ha pos pins s σ H _ I h) fun us s1 ⟨vs,H1,I1,r1,q1⟩=>hc pins s1 σ H1 vs us Q I1 r1 q1) he hpl
theorem pe_callTy (hc : CallR X (.type T) r) (hg : Gl X x) (hm : X.mg x = none) (hv : bootBuiltins x = some (.type T)) (ha : PA X (e :: es) t) (hn : x ≠ "__name__":=by decide) (hdb : (x == ("__debug__" : Str)) = false:=by decide)
  (he : starEach (e :: es) X.env = (false,eval e X.env) :: starEach es X.env:=by rfl) (hpl : (backTo pos (starEach es X.env)).any (·.1) = false:=by rfl) : PE X (.Call (.Name x p) (e :: es) [] pos) (tCB r t):=by
 intro pins s σ H Q I h
 refine wpAny_Call_Name_kw (ld_blt I hg hm hv ?_ hn hdb)
 exact PyProof.Rows.callWith_type1 (thn (ha pos pins s σ H _ I h) fun us s1 ⟨vs,H1,I1,r1,q1⟩=>hc pins s1 σ H1 vs us Q I1 r1 q1) he hpl
end
end L2
namespace HT
open PySem PyProof.Rows
section
open PySem.SeqAt
open PySem.AutoSeq1 (wpAny_loadPart')
open PySem.MeetsSeq PySem.MeetsSeq2 PySem.MeetsSeq3
end
section
variable {prog : Program} {w : World} {A : Around} {E : Value→Shared→Prop} {s : Shared}
theorem cat_tup {t b : Addr} {vs ws : List Value} {Q : Value→Shared→Prop} (ht : IsTup s.heap t vs.toArray) (hb : IsTup s.heap b ws.toArray) (hv : vs ≠ [])
  (h1 : ws = []→Q (.ref t) s) (h2 : ws ≠ []→Q (.ref s.heap.objs.size) { s with heap:=s.heap.push { cls:=.type "tuple",data:=.seq (vs ++ ws).toArray } })
  (hsz : vs.length + ws.length ≤ sizeLine) : wpAny (model prog w) A (binaryOp .Add (.ref t) (.ref b)) Q E s:=by
 obtain ⟨⟨cls,dd,data,sl⟩,ho,hc,n,hd⟩:=id ht
 obtain ⟨⟨cls2,dd2,data2,sl2⟩,ho2,hc2,n2,hd2⟩:=id hb
 simp only at hc hd hc2 hd2
 subst hc hd hc2 hd2
 have e : vs.toArray ++ ws.toArray = (vs ++ ws).toArray:=by simp
 by_cases hw : ws = []
 ·exact concat_meets ⟨_,ho,rfl⟩ ⟨_,ho2,rfl⟩ noFill_tuple_add seq_tuple_add PySem.F.slot_tuple_add PySem.F.entry_tuple_add (PySem.F.args_tuple_add_2 _ _)
   (tuple_addW1 t b vs.toArray ws.toArray n n2 dd dd2 sl sl2 (by simpa using hv) (by simp [hw])) ⟨ho,ho2,h1 hw⟩
 ·refine concat_meets ⟨_,ho,rfl⟩ ⟨_,ho2,rfl⟩ noFill_tuple_add seq_tuple_add PySem.F.slot_tuple_add PySem.F.entry_tuple_add (PySem.F.args_tuple_add_2 _ _)
   (tuple_addW2 t b vs.toArray ws.toArray n n2 dd dd2 sl sl2 (by simpa using hv) (by simpa using hw) (by rw [List.size_toArray,List.size_toArray]; exact hsz)) ⟨ho,ho2,?_⟩
  rw [e]
  exact h2 hw
noncomputable def sIx (n d : Nat) : Option Int→Nat
 | none=>d
 | some v=>if v < 0 then (v + (n : Int)).toNat else min v.toNat n
theorem sIx_none (n d : Nat) : sIx n d none = d:=rfl
theorem sIx_nat (n d k : Nat) : sIx n d (some (k : Int)) = min k n:=by
 show (if (k : Int) < 0 then ((k : Int) + (n : Int)).toNat else min (k : Int).toNat n) = min k n
 rw [if_neg (by omega),Int.toNat_natCast]
theorem sIx_le (n d : Nat) (hd : d ≤ n) (o : Option Int) : sIx n d o ≤ n:=by
 cases o with
 | none=>exact hd
 | some v =>
  show (if v < 0 then (v + (n : Int)).toNat else min v.toNat n) ≤ n
  by_cases hv : v < 0
  ·rw [if_pos hv]; omega
  ·rw [if_neg hv]; exact Nat.min_le_right _ _
theorem clip_eq (v : Int) (n d : Nat) : (if v < 0 then max (v + (n : Int)) 0 else min v (n : Int)) = ((sIx n d (some v) : Nat) : Int):=by
 show (if v < 0 then max (v + (n : Int)) 0 else min v (n : Int)) = (((if v < 0 then (v + (n : Int)).toNat else min v.toNat n) : Nat) : Int)
 by_cases hv : v < 0
 ·simp only [if_pos hv]; omega
 ·simp only [if_neg hv]; omega
theorem adjust_gen (lo hi : Option Int) (n : Nat) : Builtin.Slice.sliceAdjust lo hi 1 (n : Int) = (((sIx n 0 lo : Nat) : Int),((sIx n n hi : Nat) : Int)):=by
 have h1 : ¬ ((1 : Int) < 0):=by omega
 unfold Builtin.Slice.sliceAdjust
 simp only [h1,if_false]
 refine Prod.ext ?_ ?_
 ·cases lo with
  | none=>rfl
  | some v=>exact clip_eq v n 0
 ·cases hi with
  | none=>rfl
  | some v=>exact clip_eq v n n
theorem places_gen (i j : Nat) : Builtin.Slice.slicePlaces (i : Int) (j : Int) 1 = j - i:=by
 unfold Builtin.Slice.slicePlaces
 have h1 : (1 : Int) > 0:=by omega
 simp only [h1,if_true,Int.ediv_one]
 split <;> omega
theorem slicePart_ {v : Value} {o : Option Int} {Q : Option Int→Shared→Prop} (p : IsPart v o) (h : Q o s) : wpAny (model prog w) A (Builtin.Slice.slicePartIndex v) Q E s:=by
 cases p with
 | none=>exact slicePart_none h
 | int i t=>exact slicePart_int h
theorem sliceApplied_gen {sl : Addr} {vl vu : Value} {lo hi : Option Int} {n : Nat} {Q : Int × Int × Nat→Shared→Prop} (hs : s.heap.IsSliceOf sl vl vu .none) (pl : IsPart vl lo) (pu : IsPart vu hi)
  (h : Q (((sIx n 0 lo : Nat) : Int),1,sIx n n hi - sIx n 0 lo) s) : wpAny (model prog w) A (Builtin.Slice.sliceApplied (.ref sl) (pure (n : Int))) Q E s:=by
 obtain ⟨os,hos,hcs,hds⟩:=id hs
 unfold Builtin.Slice.sliceApplied Builtin.Slice.sliceFields
 refine wpAny_bind (wpAny_bind (wpAny_field hos hds (x:=vl) rfl (wpAny_bind (wpAny_field hos hds (x:=vu) rfl (wpAny_bind (wpAny_field hos hds (x:=.none) rfl (wpAny_pure ?_)))))))
 refine wpAny_bind (slicePart_none ?_)
 show wpAny _ _ (if ((1 : Int) == 0) = true then _ else _) _ _ s
 rw [if_neg (by decide)]
 refine wpAny_bind (slicePart_ pl (wpAny_bind (slicePart_ pu (wpAny_bind (wpAny_pure ?_)))))
 show wpAny _ _ (match Builtin.Slice.sliceAdjust lo hi 1 (n : Int) with | (lo,hi)=>pure (lo,(1 : Int),Builtin.Slice.slicePlaces lo hi 1)) _ _ s
 rw [adjust_gen lo hi n]
 show wpAny _ _ (pure (((sIx n 0 lo : Nat) : Int),(1 : Int),Builtin.Slice.slicePlaces ((sIx n 0 lo : Nat) : Int) ((sIx n n hi : Nat) : Int) 1)) _ _ s
 rw [places_gen]
 exact wpAny_pure h
theorem pick_gen (xs : Array Value) (i k : Nat) : ((List.range k).filterMap fun (m : Nat)=>xs[((i : Int) + (m : Int) * 1).toNat]?).toArray = ((xs.toList.drop i).take k).toArray:=by
 have e : (fun (m : Nat)=>xs[((i : Int) + (m : Int) * 1).toNat]?) = fun m=>xs[i + m]?:=by
  funext m
  have : ((i : Int) + (m : Int) * 1).toNat = i + m:=by omega
  rw [this]
 rw [e]
 have:=pick_run xs i k
 rw [List.filterMap_map] at this
 have e2 : ((fun x=>xs[x]?) ∘ fun x=>i + x) = fun m=>xs[i + m]?:=rfl
 rw [e2] at this
 rw [this]
theorem getItem_tuple_cut {t sl : Addr} {items : Array Value} {vl vu : Value} {lo hi : Option Int} {Q : Value→Shared→Prop} (ht : IsTup s.heap t items) (hs : s.heap.IsSliceOf sl vl vu .none) (pl : IsPart vl lo) (pu : IsPart vu hi)
  (hw : ¬ (sIx items.size 0 lo = 0∧sIx items.size items.size hi = items.size))
  (h : Q (.ref s.heap.objs.size) { s with heap:=s.heap.push { cls:=.type "tuple",data:=.seq ((items.toList.drop (sIx items.size 0 lo)).take (sIx items.size items.size hi - sIx items.size 0 lo)).toArray } })
  (hsz : items.size ≤ sizeLine) : wpAny (model prog w) A (getItem (.ref t) (.ref sl)) Q E s:=by
 have htake : sizeOk (.seq ((items.toList.drop (sIx items.size 0 lo)).take (sIx items.size items.size hi - sIx items.size 0 lo)).toArray):=by
  show ((items.toList.drop (sIx items.size 0 lo)).take (sIx items.size items.size hi - sIx items.size 0 lo)).toArray.size ≤ sizeLine
  rw [List.size_toArray,List.length_take,List.length_drop,Array.length_toList]
  omega
 have hj : sIx items.size items.size hi ≤ items.size:=sIx_le _ _ (Nat.le_refl _) hi
 obtain ⟨os,hos,hcs,hds⟩:=id hs
 have hTs : s.TypeIs (.ref sl) "slice":=⟨os,hos,hcs⟩
 unfold getItem
 try with_reducible refine wpAny_holding ?_
 first | refine wpAny_bind (wpAny_pure ?_) | skip
 refine wpAny_bind (wpAny_sequenceKey ht.typeIs (by decide) ?_)
 refine wpAny_bind (wpAny_callSpecial?_slot (name:=Str.ofString "__getitem__") ht.typeIs PyProof.Rows.slot_tuple_getitem
  (wpAny_call_entry PyProof.Rows.slot_tuple_getitem ht.typeIs entry_tuple_getitem ?_ (args_tuple_getitem _ _)))
 show wpAny _ _ (Builtin.Tuple.tupleItemsOf (.ref t) >>= _) _ _ s
 refine wpAny_bind (tupleItemsOf_ ht ?_)
 refine wpAny_bind (wpAny_typeOf hTs ?_)
 rw [if_pos (by decide)]
 refine wpAny_bind (sliceApplied_gen hs pl pu ?_)
 have hno : ¬ ((((sIx items.size 0 lo : Nat) : Int) == 0 && (1 : Int) == 1 && (sIx items.size items.size hi - sIx items.size 0 lo) == items.size) = true):=by
  intro q
  rw [Bool.and_eq_true,Bool.and_eq_true] at q
  have q1 : ((sIx items.size 0 lo : Nat) : Int) = 0:=eq_of_beq q.1.1
  have q2 : sIx items.size items.size hi - sIx items.size 0 lo = items.size:=eq_of_beq q.2
  exact hw ⟨by omega,by omega⟩
 show wpAny _ _ (if (((sIx items.size 0 lo : Nat) : Int) == 0 && (1 : Int) == 1 && (sIx items.size items.size hi - sIx items.size 0 lo) == items.size) = true then _ else _) _ _ s
 rw [if_neg hno,pick_gen]
 first
  | exact wpAny_bind (m:=Builtin.Tuple.tupleExact _) (wpAny_newObj_type (wpAny_pure ⟨_,rfl,wpAny_pure h⟩) htake)
  | exact wpAny_bind (m:=Builtin.Tuple.tupleExact _) (wpAny_newObj_type (wpAny_bind (wpAny_pure (wpAny_pure ⟨_,rfl,wpAny_pure h⟩))) htake)
  | exact wpAny_bind (wpAny_bind (m:=Builtin.Tuple.tupleExact _) (wpAny_newObj_type (wpAny_pure (wpAny_pure ⟨_,rfl,wpAny_pure h⟩)) htake))
  | exact wpAny_bind (wpAny_bind (m:=Builtin.Tuple.tupleExact _) (wpAny_newObj_type (wpAny_pure ⟨_,rfl,wpAny_pure h⟩) htake))
end
end HT
namespace L2
open PySem PySem.Spec PyProof.Rows
noncomputable abbrev TO:=St→Hp→(Option Int→Hp→Prop)→Prop
noncomputable def PO (X : Cx) (e : Option Expr) (t : TO) : Prop :=
 ∀ (pins : List (Addr × Obj)) (s : Shared) (σ : St) (H : Hp) (Q : Option Int→Hp→Prop),Inv X pins σ H s→t σ H Q →
  wpAny (model X.prog X.w) X.A (evalPart e X.env) (fun u s'=>∃ o H',Inv X pins σ H' s'∧IsPart u o∧Q o H') X.xe s
noncomputable def tNoPart : TO:=fun _ H Q=>Q none H
noncomputable def tPart (t : TE) : TO:=fun σ H Q=>t σ H fun x H1=>∃ i,x = .int i∧Q (some i) H1
section
variable {X : Cx} {e : Expr} {te : TE} {lo hi : Option Expr} {tl th : TO} {pos p2 : Pos}
theorem po_none : PO X none tNoPart:=by
 intro pins s σ H Q I h
 rw [evalPart_none]
 exact wpAny_pure ⟨none,H,I,.none,h⟩
theorem po_some (h : PE X e te) : PO X (some e) (tPart te):=by
 intro pins s σ H Q I hw
 rw [evalPart_some]
 refine thn (h pins s σ H _ I hw) fun u s1 ⟨x,H1,I1,r1,q1⟩=>?_
 obtain ⟨i,rfl,q⟩:=q1
 obtain ⟨t,rfl⟩:=r1
 exact ⟨some i,H1,I1,.int i t,q⟩
noncomputable def SlR (X : Cx) (r : V→Option Int→Option Int→Hp→VK→Prop) : Prop :=
 ∀ (pins : List (Addr × Obj)) (s : Shared) (σ : St) (H : Hp) (x : V) (v vl vu : Value) (lo hi : Option Int) (sl : Addr) (Q : VK),Inv X pins σ H s→RelV x v→s.heap.IsSliceOf sl vl vu .none→IsPart vl lo→IsPart vu hi→r x lo hi H Q →
  ∃ T id,typeLookup (.type T) "__getitem__" = pure (some (.builtin id))∧s.TypeIs v T∧wpAny (model X.prog X.w) X.A (getItem v (.ref sl)) (EP X pins σ Q) X.xe s
theorem SlR.or {r r' : V→Option Int→Option Int→Hp→VK→Prop} (h : SlR X r) (h' : SlR X r') : SlR X (fun x lo hi H Q=>r x lo hi H Q ∨ r' x lo hi H Q):=by
 intro pins s σ H x v vl vu lo hi sl Q I rx hs pl pu q
 rcases q with q | q
 ·exact h pins s σ H x v vl vu lo hi sl Q I rx hs pl pu q
 ·exact h' pins s σ H x v vl vu lo hi sl Q I rx hs pl pu q
noncomputable def tSl (r : V→Option Int→Option Int→Hp→VK→Prop) (te : TE) (tl th : TO) : TE:=fun σ H Q=>te σ H fun x H1=>tl σ H1 fun l H2=>th σ H2 fun u H3=>r x l u H3 Q
theorem pe_slice {r : V→Option Int→Option Int→Hp→VK→Prop} (hr : SlR X r) (he : PE X e te) (hl : PO X lo tl) (hu : PO X hi th) : PE X (.Subscript e (.Slice lo hi none p2) pos) (tSl r te tl th):=by
 intro pins s σ H Q I h
 refine Subscript_ (thn (he pins s σ H _ I h) fun v s1 ⟨x,H1,I1,r1,q1⟩=>?_)
 refine wpAny_Slice (thn (hl pins s1 σ H1 _ I1 q1) fun vl s2 ⟨l,H2,I2,pl,q2⟩=>thn (hu pins s2 σ H2 _ I2 q2) fun vu s3 ⟨u,H3,I3,pu,q3⟩=>?_)
 rw [evalPart_none]
 refine wpAny_pure ?_
 have I4 : Inv X pins σ H3 { s3 with heap:=s3.heap.push { cls:=.type "slice",data:=.fields #[vl,vu,.none] } }:=I3.kept (t':=s3.toks) fun b ob q=>Heap.get?_push_of_some _ q
 obtain ⟨T,id,hT,ht,hg⟩:=hr pins { s3 with heap:=s3.heap.push { cls:=.type "slice",data:=.fields #[vl,vu,.none] } } σ H3 x v vl vu l u s3.heap.objs.size Q I4 r1 (Heap.IsSliceOf.new ..) pl pu q3
 show wpAny (model X.prog X.w) X.A (subscriptTail e (.Slice lo hi none p2) v (.ref s3.heap.objs.size)) (EP X pins σ Q) X.xe { s3 with heap:=s3.heap.push { cls:=.type "slice",data:=.fields #[vl,vu,.none] } }
 exact tail_any (ops:=[.ref s3.heap.objs.size,v]) ht hT hg (by with_unfolding_all rfl)
noncomputable def cutV (xs : List V) (lo hi : Option Int) : List V:=(xs.drop (HT.sIx xs.length 0 lo)).take (HT.sIx xs.length xs.length hi - HT.sIx xs.length 0 lo)
theorem cutV_length (xs : List V) (lo hi : Option Int) : (cutV xs lo hi).length ≤ xs.length:=by
 unfold cutV
 rw [List.length_take,List.length_drop]
 omega
noncomputable def rSlT (K : PySem.W.Frag) : V→Option Int→Option Int→Hp→VK→Prop:=fun x lo hi H Q=>∃ a xs,x = .ref a∧SqT K H a xs ∧
 ¬ (HT.sIx xs.length 0 lo = 0∧HT.sIx xs.length xs.length hi = xs.length)∧∀ p,H p = none→Q (.ref p) (upd H p (.tup (cutV xs lo hi)))
theorem sl_tup : SlR X (rSlT X.K):=by
 intro pins s σ H x v vl vu lo hi sl Q I rx hs pl pu h
 obtain ⟨a,xs,rfl,hx,hw,q⟩:=h
 cases rx
 obtain ⟨its,r,ht,hz⟩:=I.tuple hx
 have hlen : its.toArray.size = xs.length:=by rw [List.size_toArray]; exact r.length.symm
 refine ⟨"tuple",_,PyProof.Rows.slot_tuple_getitem.lookup,ht.typeIs,?_⟩
 refine HT.getItem_tuple_cut ht hs pl pu (by rw [hlen]; exact hw) ?_ (by rw [hlen]; exact hz)
 rw [hlen]
 refine ⟨.ref s.heap.objs.size,_,I.laid (t':=s.toks) (o:=.tup (cutV xs lo hi)) (fun b ob q=>Heap.get?_push_of_some _ q) (Nat.le_refl _) ?_,rfl,q _ (I.hok.fresh (Nat.le_refl _))⟩
 exact ⟨Nat.le_trans (cutV_length xs lo hi) hz,_,(r.drop (HT.sIx xs.length 0 lo)).take (HT.sIx xs.length xs.length hi - HT.sIx xs.length 0 lo),IsTup.new _ _⟩
noncomputable def rCatT (K : PySem.W.Frag) : R2:=fun x y H Q=>∃ a b xs ys,x = .ref a∧y = .ref b∧SqT K H a xs∧SqT K H b ys∧xs ≠ []∧xs.length + ys.length ≤ sizeLine ∧
 (ys = []→Q (.ref a) H)∧(ys ≠ []→∀ p,H p = none→Q (.ref p) (upd H p (.tup (xs ++ ys))))
theorem Vals.nil_iff {xs : List V} {us : List Value} (r : Vals xs us) : us = [] ↔ xs = []:=by
 cases r with
 | nil=>simp
 | cons _ _=>simp
theorem op_catT : OpR X (binaryOp .Add) (rCatT X.K):=by
 intro pins s σ H x y v u Q I rx ry h
 obtain ⟨a,b,xs,ys,rfl,rfl,ha,hb,hx,hz,q1,q2⟩:=h
 cases rx
 cases ry
 obtain ⟨its,r1,p1,_⟩:=I.tuple ha
 obtain ⟨its2,r2,p2,_⟩:=I.tuple hb
 refine HT.cat_tup p1 p2 (fun z=>hx (r1.nil_iff.mp z)) (fun z=>⟨.ref a,H,I,rfl,q1 (r2.nil_iff.mp z)⟩) (fun z=>?_) (by rw [← r1.length,← r2.length]; exact hz)
 refine ⟨.ref s.heap.objs.size,_,I.laid (t':=s.toks) (o:=.tup (xs ++ ys)) (fun b ob q=>Heap.get?_push_of_some _ q) (Nat.le_refl _) ?_,rfl,q2 (fun w=>z (r2.nil_iff.mpr w)) _ (I.hok.fresh (Nat.le_refl _))⟩
 exact ⟨by rw [List.length_append]; exact hz,_,r1.append r2,IsTup.new _ _⟩
end
end L2
namespace L2
open PySem PySem.Spec PyProof.Rows
noncomputable def ixN (n : Nat) (i : Int) : Option Nat:=if 0 ≤ i then (if i < n then some i.toNat else none) else if -(n : Int) ≤ i then some (i + n).toNat else none
noncomputable def atI {α : Type} (xs : List α) (i : Int) : Option α:=(ixN xs.length i).bind fun j=>xs[j]?
theorem ixN_seq {n : Nat} {i : Int} {j : Nat} (h : ixN n i = some j) : seqIndex? i n = some j∧j < n∧-(n : Int) ≤ i∧i < n:=by
 unfold ixN at h
 by_cases h0 : 0 ≤ i
 ·rw [if_pos h0] at h
  by_cases h1 : i < n
  ·rw [if_pos h1] at h
   have e : i.toNat = j:=Option.some.inj h
   exact ⟨by rw [seqIndex_of h0 h1,e],by omega,by omega,h1⟩
  ·rw [if_neg h1] at h; cases h
 ·rw [if_neg h0] at h
  by_cases h1 : -(n : Int) ≤ i
  ·rw [if_pos h1] at h
   have e : (i + n).toNat = j:=Option.some.inj h
   exact ⟨by rw [seqIndex_neg (by omega) h1,e],by omega,h1,by omega⟩
  ·rw [if_neg h1] at h; cases h
theorem atI_get {α : Type} {xs : List α} {i : Int} {v : α} (h : atI xs i = some v) : ∃ j,seqIndex? i xs.length = some j∧xs[j]? = some v∧j < xs.length∧-(xs.length : Int) ≤ i∧i < xs.length:=by
 unfold atI at h
 cases e : ixN xs.length i with
 | none=>rw [e] at h; cases h
 | some j =>
  rw [e] at h
  obtain ⟨h1,h2,h3,h4⟩:=ixN_seq e
  exact ⟨j,h1,h,h2,h3,h4⟩
theorem atI_nat {α : Type} {xs : List α} {j : Nat} {v : α} (h : xs[j]? = some v) : atI xs (j : Int) = some v:=by
 have hj : j < xs.length:=(List.getElem?_eq_some_iff.mp h).1
 have e : ixN xs.length (j : Int) = some j:=by
  unfold ixN
  rw [if_pos (by omega),if_pos (by omega)]; simp
 unfold atI; rw [e]; exact h
noncomputable def PlainIx (b : Expr) : Prop:=∀ o i,subscripted b false o i = operate [o,i] (getItem o i)
noncomputable def IxR (X : Cx) (r : R2) : Prop :=
 ∀ (value slice : Expr) (pins : List (Addr × Obj)) (s : Shared) (σ : St) (H : Hp) (x y : V) (v u : Value) (Q : VK),Inv X pins σ H s→RelV x v→RelV y u→r x y H Q →
  subscripted slice false v u = operate [v,u] (getItem v u)→wpAny (model X.prog X.w) X.A (subscriptTail value slice v u) (EP X pins σ Q) X.xe s
noncomputable def MtR (X : Cx) (id : String) (r : V→List V→Hp→VK→Prop) : Prop :=
 ∀ (pins : List (Addr × Obj)) (s : Shared) (σ : St) (H : Hp) (x : V) (xs : List V) (v : Value) (us : List Value) (Q : VK),Inv X pins σ H s→RelV x v→Vals xs us→r x xs H Q →
  wpAny (model X.prog X.w) X.A (call (.builtin id) (v :: us)) (EP X pins σ Q) X.xe s
section
variable {X : Cx} {a b : Expr} {ta tb : TE} {pos : Pos}
theorem IxR.or {r r' : R2} (h : IxR X r) (h' : IxR X r') : IxR X (fun x y H Q=>r x y H Q ∨ r' x y H Q):=by
 intro value slice pins s σ H x y v u Q I rx ry q hs
 rcases q with q | q
 ·exact h value slice pins s σ H x y v u Q I rx ry q hs
 ·exact h' value slice pins s σ H x y v u Q I rx ry q hs
theorem pe_ix {r : R2} (hr : IxR X r) (ha : PE X a ta) (hb : PE X b tb) (hs : PlainIx b) : PE X (.Subscript a b pos) (tOp r ta tb):=by
 intro pins s σ H Q I h
 exact Subscript_ (binT ha hb I h fun v u s2 x y H2 I2 rx ry q=>hr a b pins s2 σ H2 x y v u Q I2 rx ry q (hs _ _))
noncomputable def rIxL (K : PySem.W.Frag) : R2:=fun x y H Q=>∃ p xs i v,x = .ref p∧y = .int i∧SqL K H p xs∧atI xs i = some v∧Q v H
noncomputable def rIxT (K : PySem.W.Frag) : R2:=fun x y H Q=>∃ p xs i v,x = .ref p∧y = .int i∧SqT K H p xs∧atI xs i = some v∧Q v H
noncomputable def rIxS : R2:=fun x y H Q=>∃ z i c,x = .str z∧y = .int i∧z.length ≤ sizeLine∧atI z.cps.toList i = some c∧Q (.str ⟨#[c]⟩) H
theorem ix_list : IxR X (rIxL X.K):=by
 intro value slice pins s σ H x y v u Q I rx ry h hs
 obtain ⟨p,xs,i,z,rfl,rfl,hq,he,q⟩:=h
 cases rx
 obtain ⟨t,rfl⟩:=ry
 obtain ⟨its,r,pl,hz⟩:=I.list hq
 obtain ⟨j,h1,h2,h3,h4,h5⟩:=atI_get he
 obtain ⟨w,ew,rw'⟩:=r.get h2
 have hl:=r.length
 have hn:=line63
 have fin : EP X pins σ Q w s:=⟨z,H,I,rw',q⟩
 by_cases h0 : 0 ≤ i
 ·have hj : i.toNat = j:=by
   rw [seqIndex_of h0 h5] at h1
   exact Option.some.inj h1
  exact item_listR pl.isList h0 (by omega) (by rw [hj]; simpa using ew) fin hs
 ·have hj : (i + (its.toArray.size : Int)).toNat = j:=by
   rw [seqIndex_neg (by omega) h4] at h1
   rw [List.size_toArray,← hl]
   exact Option.some.inj h1
  exact subscriptTail_builtinR (x:=w) pl.isList.typeIs slot_list_getitem.lookup
   (wpAny_getItem_list_neg (Q:=fun r s'=>r = w∧EP X pins σ Q r s') pl.isList (by omega) (by rw [List.size_toArray] <;> omega) (by omega) (by rw [hj]; simpa using ew) ⟨rfl,fin⟩) hs
theorem ix_tup : IxR X (rIxT X.K):=by
 intro value slice pins s σ H x y v u Q I rx ry h hs
 obtain ⟨p,xs,i,z,rfl,rfl,hq,he,q⟩:=h
 cases rx
 obtain ⟨t,rfl⟩:=ry
 obtain ⟨its,r,pl,hz⟩:=I.tuple hq
 obtain ⟨j,h1,h2,h3,h4,h5⟩:=atI_get he
 obtain ⟨w,ew,rw'⟩:=r.get h2
 have hl:=r.length
 have hn:=line63
 have fin : EP X pins σ Q w s:=⟨z,H,I,rw',q⟩
 exact subscriptTail_builtinR (x:=w) pl.typeIs slot_tuple_getitem.lookup
  (getItem_tuple (j:=j) (Q:=fun r s'=>r = w∧EP X pins σ Q r s') pl (by omega) (by omega) (by rw [List.size_toArray,← hl]; exact h1) (by simpa using ew) ⟨rfl,fin⟩) hs
theorem ix_str : IxR X rIxS:=by
 intro value slice pins s σ H x y v u Q I rx ry h hs
 obtain ⟨z,i,c,rfl,rfl,hz,he,q⟩:=h
 obtain ⟨t,rfl⟩:=rx
 obtain ⟨t',rfl⟩:=ry
 obtain ⟨j,h1,h2,h3,h4,h5⟩:=atI_get he
 have hl : z.cps.toList.length = z.length:=by simp [Str.length]
 rw [hl] at h1 h4 h5
 have hn:=line63
 exact tail_any (typeIs_str s z t) slot_str_getitem.lookup (getItem_str (c:=c) (by
  have e1 : decide (i < -(2 ^ 63 : Int)) = false:=decide_eq_false (by omega)
  have e2 : decide (i ≥ 2 ^ 63) = false:=decide_eq_false (by omega)
  rw [e1,e2,Bool.or_false]) (by rw [h1]; simpa using h2) ⟨.str ⟨#[c]⟩,H,I.tok _,⟨_,rfl⟩,q⟩) hs
noncomputable def rIx (K : PySem.W.Frag) : R2:=fun x y H Q=>rIxL K x y H Q ∨ rIxT K x y H Q ∨ rIxS x y H Q
theorem ix_seq : IxR X (rIx X.K):=ix_list.or (ix_tup.or ix_str)
theorem slice_bounds (lo hi : Option Int) (n : Nat) : (sliceBounds lo hi none n).1 = ((HT.sIx n 0 lo : Nat) : Int)∧(sliceBounds lo hi none n).2.1 = ((HT.sIx n n hi : Nat) : Int)∧(sliceBounds lo hi none n).2.2 = 1:=by
 refine ⟨?_,?_,rfl⟩
 ·cases lo with
  | none=>simp [sliceBounds,HT.sIx]
  | some i =>
   simp only [sliceBounds,HT.sIx,Option.getD_none,show (1 : Int) > 0 by decide,if_true]
   by_cases h : i < 0
   ·simp only [h,if_true] <;> omega
   ·simp only [h,if_false] <;> omega
 ·cases hi with
  | none=>simp [sliceBounds,HT.sIx]
  | some i =>
   simp only [sliceBounds,HT.sIx,Option.getD_none,show (1 : Int) > 0 by decide,if_true]
   by_cases h : i < 0
   ·simp only [h,if_true] <;> omega
   ·simp only [h,if_false] <;> omega
theorem slicePick_cut (its : List Value) (lo hi : Option Int) : slicePick its.toArray lo hi none = ((its.drop (HT.sIx its.length 0 lo)).take (HT.sIx its.length its.length hi - HT.sIx its.length 0 lo)).toArray:=by
 obtain ⟨h1,h2,h3⟩:=slice_bounds lo hi its.toArray.size
 unfold slicePick
 rw [h1,h2,h3]
 simp only [sliceRange_one,pick_run,List.size_toArray] <;> rfl
noncomputable def rSlL (K : PySem.W.Frag) : V→Option Int→Option Int→Hp→VK→Prop:=fun x lo hi H Q=>∃ a xs,x = .ref a∧SqL K H a xs∧∀ p,H p = none→Q (.ref p) (upd H p (.lst (cutV xs lo hi)))
theorem sl_list : SlR X (rSlL X.K):=by
 intro pins s σ H x v vl vu lo hi sl Q I rx hs pl pu h
 obtain ⟨a,xs,rfl,hx,q⟩:=h
 cases rx
 obtain ⟨its,r,ht,hz⟩:=I.list hx
 have hlen:=r.length
 refine ⟨"list",_,slot_list_getitem.lookup,ht.isList.typeIs,?_⟩
 refine wpAny_getItem_list_slice ht.isList hs pl pu .none (by simp) ?_ (by rw [List.size_toArray] <;> omega)
 rw [slicePick_cut,← hlen]
 refine ⟨.ref s.heap.objs.size,_,I.laid (t':=s.toks) (o:=.lst (cutV xs lo hi)) (fun b ob q=>Heap.get?_push_of_some _ q) (Nat.le_refl _) ?_,rfl,q _ (I.hok.fresh (Nat.le_refl _))⟩
 exact ⟨Nat.le_trans (cutV_length xs lo hi) hz,_,0,(r.drop (HT.sIx xs.length 0 lo)).take (HT.sIx xs.length xs.length hi - HT.sIx xs.length 0 lo),Heap.get?_push_size _ rfl⟩
noncomputable def flatV : V→Bool
 | .non=>true
 | .bl _=>true
 | .int _=>true
 | .str _=>true
 | _=>false
noncomputable def eqV : V→V→Bool
 | .non,.non=>true
 | .bl a,.bl b=>a == b
 | .bl a,.int b=>(if a then 1 else 0) == b
 | .int a,.bl b=>a == (if b then 1 else 0)
 | .int a,.int b=>a == b
 | .str a,.str b=>a == b
 | _,_=>false
theorem eqAt_V {A : Around} {s : Shared} {y x : V} {u v : Value} (ry : RelV y u) (rx : RelV x v) (fy : flatV y = true) (fx : flatV x = true) : SeqAt.EqAt A s u v (eqV y x):=by
 cases y with
 | non =>
  cases ry
  cases x with
  | non=>cases rx; exact SeqAt.EqAt.same _
  | bl b=>cases rx; exact SeqAt.EqAt.none_bool b
  | int b=>obtain ⟨t,rfl⟩:=rx; exact SeqAt.EqAt.none_int b t
  | str b=>obtain ⟨t,rfl⟩:=rx; exact SeqAt.EqAt.none_str b t
  | _=>exact absurd (show false = true from fx) Bool.false_ne_true
 | bl a =>
  cases ry
  cases x with
  | non=>cases rx; exact SeqAt.EqAt.bool_none a
  | bl b=>cases rx; exact SeqAt.EqAt.bool_bool a b
  | int b=>obtain ⟨t,rfl⟩:=rx; exact SeqAt.EqAt.bool_int a b t
  | str b=>obtain ⟨t,rfl⟩:=rx; exact SeqAt.EqAt.bool_str a b t
  | _=>exact absurd (show false = true from fx) Bool.false_ne_true
 | int a =>
  obtain ⟨t',rfl⟩:=ry
  cases x with
  | non=>cases rx; exact SeqAt.EqAt.int_none a t'
  | bl b=>cases rx; exact SeqAt.EqAt.int_bool a t' b
  | int b=>obtain ⟨t,rfl⟩:=rx; exact SeqAt.EqAt.int_int a t' b t
  | str b=>obtain ⟨t,rfl⟩:=rx; exact SeqAt.EqAt.int_str a t' b t
  | _=>exact absurd (show false = true from fx) Bool.false_ne_true
 | str a =>
  obtain ⟨t',rfl⟩:=ry
  cases x with
  | non=>cases rx; exact SeqAt.EqAt.str_none a t'
  | bl b=>cases rx; exact SeqAt.EqAt.str_bool a t' b
  | int b=>obtain ⟨t,rfl⟩:=rx; exact SeqAt.EqAt.str_int a t' b t
  | str b=>obtain ⟨t,rfl⟩:=rx; exact SeqAt.EqAt.str_str a t' b t
  | _=>exact absurd (show false = true from fx) Bool.false_ne_true
 | _=>exact absurd (show false = true from fy) Bool.false_ne_true
noncomputable def eqU (x : V) (u : Value) : Bool:=match u with
 | .none=>eqV .non x
 | .bool b=>eqV (.bl b) x
 | .int i _=>eqV (.int i) x
 | .str z _=>eqV (.str z) x
 | _=>false
theorem eqU_of {x y : V} {u : Value} (r : RelV y u) (f : flatV y = true) : eqU x u = eqV y x:=by
 cases y with
 | non=>cases r; rfl
 | bl b=>cases r; rfl
 | int i=>obtain ⟨t,rfl⟩:=r; rfl
 | str z=>obtain ⟨t,rfl⟩:=r; rfl
 | _=>exact absurd (show false = true from f) Bool.false_ne_true
theorem any_eqU {x : V} : ∀ {xs : List V} {us : List Value},Vals xs us→xs.all flatV = true→us.any (eqU x) = xs.any fun y=>eqV y x
 | _,_,.nil,_=>rfl
 | y :: xs,u :: us,.cons r t,f=>by
  rw [List.all_cons,Bool.and_eq_true] at f
  rw [List.any_cons,List.any_cons,eqU_of r f.1,any_eqU t f.2]
theorem mem_eqAt {A : Around} {s : Shared} {x : V} {v : Value} (rx : RelV x v) (fx : flatV x = true) : ∀ {xs : List V} {us : List Value},Vals xs us→xs.all flatV = true→∀ u ∈ us,SeqAt.EqAt A s u v (eqU x u)
 | _,_,.nil,_=>fun u hu=>by cases hu
 | y :: xs,u :: us,.cons r t,f=>fun u' hu=>by
  rw [List.all_cons,Bool.and_eq_true] at f
  rcases List.mem_cons.mp hu with rfl | hu
  ·rw [eqU_of r f.1]; exact eqAt_V r rx f.1 fx
  ·exact mem_eqAt rx fx t f.2 u' hu
noncomputable def inV (x : V) (xs : List V) : Bool:=xs.any fun y=>eqV y x
noncomputable def rIn (K : PySem.W.Frag) (neg : Bool) : R2:=fun x y H Q=>∃ p xs,y = .ref p∧(SqL K H p xs ∨ SqT K H p xs)∧flatV x = true∧xs.all flatV = true∧Q (.bl (if neg then !inV x xs else inV x xs)) H
theorem op_in_seq : OpR X (compareOp .In) (rIn X.K false):=by
 intro pins s σ H x y v u Q I rx ry h
 obtain ⟨p,xs,rfl,hq,fx,fs,q⟩:=h
 cases ry
 rcases hq with hq | hq
 ·obtain ⟨its,r,pl,hz⟩:=I.list hq
  refine SeqAt.in_listAt (eqU x) pl.isList (fun w hw=>mem_eqAt rx fx r fs w (by simpa using hw)) ⟨.bl _,H,I,rfl,?_⟩
  rw [show its.toArray.any (eqU x) = its.any (eqU x) by simp,any_eqU r fs]
  exact q
 ·obtain ⟨its,r,pl,hz⟩:=I.tuple hq
  refine SeqAt.in_tupleAt (eqU x) pl (fun w hw=>mem_eqAt rx fx r fs w (by simpa using hw)) ⟨.bl _,H,I,rfl,?_⟩
  rw [show its.toArray.any (eqU x) = its.any (eqU x) by simp,any_eqU r fs]
  exact q
theorem call_list_of : CallR X (.type "list") (fun xs H Q=>∃ p ys,xs = [.ref p]∧(SqL X.K H p ys ∨ SqT X.K H p ys)∧∀ l,H l = none→Q (.ref l) (upd H l (.lst ys))):=by
 intro pins s σ H xs us Q I r h
 obtain ⟨p,ys,rfl,hq,q⟩:=h
 obtain ⟨u,rfl,rx⟩:=vals1 r
 cases rx
 have fin : ∀ (its : List Value),Vals ys its→ys.length ≤ sizeLine→∀ (h' : Heap) (c' : Nat),(∀ b o',s.heap.get? b = some o'→h'.get? b = some o') →
   h'.get? s.heap.objs.size = some { cls:=.type "list",dict:=none,data:=.seq its.toArray c',slots:=#[] }→EP X pins σ Q (.ref s.heap.objs.size) { s with heap:=h' }:=fun its r' hz h' c' kp e =>
  ⟨.ref s.heap.objs.size,_,I.laid (t':=s.toks) kp (Nat.le_refl _) (show ObjOk X.prog X.w _ h' _ (.lst ys) from ⟨hz,its,c',r',e⟩),rfl,q _ (I.hok.fresh (Nat.le_refl _))⟩
 rcases hq with hq | hq
 ·obtain ⟨its,r',pl,hz⟩:=I.list hq
  have hlen:=r'.length
  obtain ⟨o,ho,hc,n,hd⟩:=pl.isList
  exact call_list_seq p (.inl rfl) ho hc hd (fun h' c' kp e=>fin its r' hz h' c' kp e) (by simp only [List.size_toArray] <;> omega)
 ·obtain ⟨its,r',pl,hz⟩:=I.tuple hq
  have hlen:=r'.length
  obtain ⟨o,ho,hc,n,hd⟩:=pl
  exact call_list_seq p (.inr rfl) ho hc hd (fun h' c' kp e=>fin its r' hz h' c' kp e) (by simp only [List.size_toArray] <;> omega)
noncomputable def tyV (K : PySem.W.Frag) (T : String) (x : V) (H : Hp) : Prop:=match x with
 | .str _=>T = "str"
 | .int _=>T = "int"
 | .ref p=>(T = "list"∧∃ xs,SqL K H p xs) ∨ (T = "tuple"∧∃ o,K.lookup p = some o∧o.cls = .type "tuple"∧o.dict = none) ∨
   (T = "dict"∧((∃ kvs,H p = some (.dK kvs)) ∨ ∃ kvs,H p = some (.dT kvs))) ∨ (T = "set"∧∃ S n,H p = some (.set S n))
 | _=>False
theorem tyV_is {pins : List (Addr × Obj)} {σ : St} {H : Hp} {s : Shared} {T : String} {x : V} {v : Value} (I : Inv X pins σ H s) (r : RelV x v) (ty : tyV X.K T x H) :
  s.TypeIs v T∧∀ a,v = .ref a→∃ ob,s.heap.get? a = some ob∧ob.dict = none:=by
 cases x with
 | str z =>
  obtain ⟨t,rfl⟩:=r
  cases (show T = "str" from ty)
  exact ⟨typeIs_str s z t,fun _ e=>nomatch e⟩
 | int i =>
  obtain ⟨t,rfl⟩:=r
  cases (show T = "int" from ty)
  exact ⟨typeIs_int s i t,fun _ e=>nomatch e⟩
 | ref p =>
  cases r
  rcases ty with ⟨rfl,xs,hq⟩ | ⟨rfl,o,hk,hc,hd⟩ | ⟨rfl,hk⟩ | ⟨rfl,S,n,hk⟩
  ·obtain ⟨its,_,pl,_⟩:=I.list hq
   refine ⟨pl.isList.typeIs,fun a e=>?_⟩
   cases e
   obtain ⟨o,n,e,c,hd,_⟩:=pl
   exact ⟨o,e,hd⟩
  ·refine ⟨⟨o,I.kIn p o hk,hc⟩,fun a e=>?_⟩
   cases e
   exact ⟨o,I.kIn _ o hk,hd⟩
  ·have z : ∃ o,s.heap.get? p = some o∧o.ExactDict:=by
    rcases hk with ⟨kvs,hk⟩ | ⟨kvs,hk⟩
    ·obtain ⟨_,_,_,_,o,_,_,e,ex,_⟩:=I.hok p _ hk
     exact ⟨o,e,ex⟩
    ·obtain ⟨_,_,_,_,o,_,_,e,ex,_⟩:=I.hok p _ hk
     exact ⟨o,e,ex⟩
   obtain ⟨o,e,ex⟩:=z
   refine ⟨⟨o,e,ex.1⟩,fun a e2=>?_⟩
   cases e2
   exact ⟨o,e,ex.2.1⟩
  ·obtain ⟨o,_,_,_,e,ex,_⟩:=I.hok p _ hk
   refine ⟨⟨o,e,ex.1⟩,fun a e2=>?_⟩
   cases e2
   exact ⟨o,e,ex.2.1⟩
 | _=>exact False.elim ty
noncomputable def tBM0 (K : PySem.W.Frag) (T : String) (r : V→List V→Hp→VK→Prop) (to : TE) : TE:=fun σ H Q=>to σ H fun x H1=>tyV K T x H1∧r x [] H1 Q
noncomputable def tBM (K : PySem.W.Frag) (T : String) (r : V→List V→Hp→VK→Prop) (to : TE) (t : TA) : TE:=fun σ H Q=>to σ H fun x H1=>tyV K T x H1∧t σ H1 fun xs H2=>r x xs H2 Q
variable {o e : Expr} {es : List Expr} {to : TE} {t : TA} {name : Str} {apos cpos : Pos} {T id : String} {r : V→List V→Hp→VK→Prop}
theorem pe_bm0 (pa : PlainAttrs T) (slot : Slot T name id) (hty : typeOf (.builtin id) = pure (.type "method_descriptor")) (hm : MtR X id r) (ho : PE X o to)
  (hbase : attributeBase o name X.env (eval o X.env) = eval o X.env:=by rfl) (hline : (apos.endLine == cpos.line) = true:=by rfl) : PE X (.Call (.Attribute o name apos) [] [] cpos) (tBM0 X.K T r to):=by
 intro pins s σ H Q I h
 refine wpAny_Call_method0_late hbase hline (thn (ho pins s σ H _ I h) fun v s1 ⟨x,H1,I1,r1,ty,q1⟩=>?_)
 obtain ⟨h1,h2⟩:=tyV_is I1 r1 ty
 exact ⟨T,id,pa,slot,hty,h1,h2,Calls.callWith_builtin rfl (PySem.evalArgs_none (hm pins s1 σ H1 x [] v [] Q I1 r1 .nil q1))⟩
theorem pe_bm (pa : PlainAttrs T) (slot : Slot T name id) (hty : typeOf (.builtin id) = pure (.type "method_descriptor")) (hm : MtR X id r) (ho : PE X o to) (ha : PA X (e :: es) t)
  (hbase : attributeBase o name X.env (eval o X.env) = eval o X.env:=by rfl)
  (hfew : ((backTo cpos (starEach (e :: es) X.env)).all (fun x=>!x.1) && (backToKw cpos (keywordEach [] X.env)).all (fun x=>x.1.isSome)
   && decide ((e :: es).length + ([] : List Keyword).length + (if ([] : List Keyword).isEmpty then 0 else 1) < 30)) = true:=by rfl)
  (hline : (apos.endLine == cpos.line) = true:=by rfl) (hs : starEach (e :: es) X.env = (false,eval e X.env) :: starEach es X.env:=by rfl) (hplain : (backTo cpos (starEach es X.env)).any (·.1) = false:=by rfl) :
  PE X (.Call (.Attribute o name apos) (e :: es) [] cpos) (tBM X.K T r to t):=by
 intro pins s σ H Q I h
 refine wpAny_Call_method_late hbase hfew hline rfl (thn (ho pins s σ H _ I h) fun v s1 ⟨x,H1,I1,r1,ty,q1⟩=>?_)
 obtain ⟨h1,h2⟩:=tyV_is I1 r1 ty
 refine ⟨T,id,pa,slot,hty,h1,h2,?_⟩
 have hA:=ha cpos pins s1 σ H1 _ I1 q1
 rw [hs] at hA ⊢
 refine Calls.callWith_builtin (by show (false || (backTo cpos (starEach es X.env)).any (·.1)) = false; rw [hplain] <;> rfl) (Calls.evalArgs_plain ?_)
 exact thn hA fun us s2 ⟨vs,H2,I2,r2,q2⟩=>hm pins s2 σ H2 x vs v us Q I2 r1 r2 q2
end
end L2
namespace L2
open PySem PySem.Spec PyProof.Rows
noncomputable def MtM (X : Cx) (id : String) (r : V→List V→Hp→VK→Prop) : Prop :=
 ∀ (pins : List (Addr × Obj)) (s : Shared) (σ : St) (H : Hp) (x : V) (xs : List V) (v : Value) (us : List Value) (Q : VK),Inv X pins σ H s→RelV x v→Vals xs us→r x xs H Q →
  wpAny (model X.prog X.w) X.A (call (.builtin id) (v :: us)) (EP X pins σ Q) X.xe s
theorem Vals.one : ∀ {x : V} {us : List Value},Vals [x] us→∃ u,us = [u]∧RelV x u
 | _,_,.cons r .nil=>⟨_,rfl,r⟩
theorem Vals.two : ∀ {x y : V} {us : List Value},Vals [x,y] us→∃ u v,us = [u,v]∧RelV x u∧RelV y v
 | _,_,_,.cons r (.cons q .nil)=>⟨_,_,rfl,r,q⟩
theorem Vals.zero : ∀ {us : List Value},Vals [] us→us = []
 | _,.nil=>rfl
theorem Vals.dropLast {xs : List V} {us : List Value} (h : Vals xs us) : Vals xs.dropLast us.dropLast:=by
 induction h with
 | nil=>exact .nil
 | cons r t ih =>
  cases t with
  | nil=>exact .nil
  | cons q t'=>exact .cons r ih
theorem Vals.rep {xs : List V} {us : List Value} (h : Vals xs us) : ∀ k : Nat,Vals (List.replicate k xs).flatten (List.replicate k us).flatten
 | 0=>.nil
 | k + 1=>by
  rw [List.replicate_succ,List.replicate_succ,List.flatten_cons,List.flatten_cons]
  exact Vals.append h (Vals.rep h k)
theorem erase_last {α : Type} (l : List α) : l.eraseIdx (l.length - 1) = l.dropLast:=by
 induction l with
 | nil=>rfl
 | cons a r ih =>
  cases r with
  | nil=>rfl
  | cons b r =>
   have e : (a :: b :: r).length - 1 = ((b :: r).length - 1) + 1:=by
    have h1 : (a :: b :: r).length = r.length + 2:=rfl
    have h2 : (b :: r).length = r.length + 1:=rfl
    omega
   rw [e,List.eraseIdx_cons_succ,ih]
   all_goals rfl
theorem foldl_rep (its : List Value) : ∀ (k : Nat) (acc : List Value),
  List.foldl (fun x1 x2=>x1 ++ x2) acc.toArray (List.replicate k its.toArray) = (acc ++ (List.replicate k its).flatten).toArray
 | 0,acc=>by simp
 | k + 1,acc=>by
  have e : acc.toArray ++ its.toArray = (acc ++ its).toArray:=by simp
  have e2 : (acc ++ its) ++ (List.replicate k its).flatten = acc ++ (List.replicate (k + 1) its).flatten:=by
   rw [List.replicate_succ,List.flatten_cons,List.append_assoc]
  rw [← e2,← foldl_rep its k (acc ++ its),← e,List.replicate_succ,List.foldl_cons]
section
variable {X : Cx} {pins : List (Addr × Obj)} {σ : St} {H : Hp} {s : Shared} {l b : Addr} {xs ys zs : List V}
theorem Inv.lset {its its' : List Value} {n : Nat} {f : Array Value→Array Value} {t' : Nat} (I : Inv X pins σ H s) (hH : H l = some (.lst xs))
  (e : s.heap.get? l = some { cls:=.type "list",data:=.seq its.toArray n }) (hf : f its.toArray = its'.toArray) (hv : Vals ys its') (hz : ys.length ≤ sizeLine) :
  Inv X pins σ (upd H l (.lst ys)) { s with heap:=s.heap.update l (Obj.mapSeq f),toks:=t' }:=by
 have q:=PySem.IsL.update e f
 rw [hf] at q
 refine I.write (x:=l) (e:=l) (by rw [hH]; exact trivial) (.inl rfl) (fun b' u hb hu=>(Heap.get?_update_other s.heap (Obj.mapSeq f) (Ne.symm hb)).trans hu) ⟨_,q⟩ ?_
 exact ⟨hz,its',_,hv,q⟩
theorem Inv.lnew {its : List Value} {t' : Nat} (I : Inv X pins σ H s) (hv : Vals ys its) (hz : ys.length ≤ sizeLine) :
  Inv X pins σ (upd H s.heap.objs.size (.lst ys)) { s with heap:=s.heap.push { cls:=.type "list",data:=.seq its.toArray },toks:=t' } :=
 I.laid (fun _ _ q=>Heap.get?_push_of_some _ q) (Nat.le_refl _) ⟨hz,its,0,hv,Heap.get?_push_size _ rfl⟩
theorem Inv.fresh (I : Inv X pins σ H s) : H s.heap.objs.size = none:=I.hok.fresh (Nat.le_refl _)
theorem Inv.lstM (I : Inv X pins σ H s) (hH : H l = some (.lst xs)) : xs.length ≤ sizeLine∧∃ (its : List Value) (n : Nat),Vals xs its∧xs.length = its.length∧s.heap.get? l = some { cls:=.type "list",data:=.seq its.toArray n }:=by
 obtain ⟨z,its,n,r,e⟩:=I.hok l _ hH
 exact ⟨z,its,n,r,r.length,e⟩
theorem notLongL {n : Nat} (h : n ≤ sizeLine) : Builtin.List.listTooLong n = false:=by
 unfold Builtin.List.listTooLong
 exact decide_eq_false (by omega)
end
section
variable {X : Cx}
noncomputable def rAppend : V→List V→Hp→VK→Prop:=fun x vs H Q=>∃ l xs y,x = .ref l∧vs = [y]∧H l = some (.lst xs)∧xs.length < sizeLine∧Q .non (upd H l (.lst (xs ++ [y])))
theorem mt_append : MtM X "list.append" rAppend:=by
 intro pins s σ H x vs v us Q I rx rv h
 obtain ⟨l,xs,y,rfl,rfl,hH,hz,q⟩:=h
 cases rx
 obtain ⟨u,rfl,ru⟩:=rv.one
 obtain ⟨z,its,n,r,hl,e⟩:=I.lstM hH
 refine call_meets F.slot_list_append ⟨_,e,rfl⟩ F.entry_list_append (F.args_list_append_2 _ _) (PySem.list_append l its.toArray n u (by rw [List.size_toArray]; omega)) ⟨e,?_⟩
 refine ⟨.non,_,I.lset (its':=its ++ [u]) hH e (by simp) (r.append (.cons ru .nil)) ?_,rfl,q⟩
 rw [List.length_append,List.length_singleton]
 omega
noncomputable def rExtend : V→List V→Hp→VK→Prop:=fun x vs H Q=>∃ l b xs zs,x = .ref l∧vs = [.ref b]∧H l = some (.lst xs)∧H b = some (.lst zs)∧xs.length + zs.length ≤ sizeLine∧Q .non (upd H l (.lst (xs ++ zs)))
theorem mt_extend : MtM X "list.extend" rExtend:=by
 intro pins s σ H x vs v us Q I rx rv h
 obtain ⟨l,b,xs,zs,rfl,rfl,hH,hB,hz,q⟩:=h
 cases rx
 obtain ⟨u,rfl,ru⟩:=rv.one
 cases ru
 obtain ⟨z,its,n,r,hl,e⟩:=I.lstM hH
 obtain ⟨z2,its2,n2,r2,hl2,e2⟩:=I.lstM hB
 have hsz : its.toArray.size + its2.toArray.size ≤ sizeLine:=by rw [List.size_toArray,List.size_toArray]; omega
 have hlong : ¬ (!its.toArray.isEmpty && Builtin.List.listTooLong (its.toArray.size + its2.toArray.size)) = true:=by
  rw [notLongL hsz,Bool.and_false]
  exact Bool.false_ne_true
 refine call_meets F.slot_list_extend ⟨_,e,rfl⟩ F.entry_list_extend (F.args_list_extend_2 _ _)
  (AutoSeq1.list_extend_list_list_0 l its.toArray n b its2.toArray n2 hlong (by rw [List.size_toArray]; omega) (by omega)) ⟨e,e2,?_⟩
 refine ⟨.non,_,I.lset (its':=its ++ its2) hH e (by simp) (r.append r2) ?_,rfl,q⟩
 rw [List.length_append]
 omega
noncomputable def rPop : V→List V→Hp→VK→Prop:=fun x vs H Q=>∃ l xs y,x = .ref l∧vs = []∧H l = some (.lst xs)∧xs[xs.length - 1]? = some y∧Q y (upd H l (.lst xs.dropLast))
theorem mt_pop : MtM X "list.pop" rPop:=by
 intro pins s σ H x vs v us Q I rx rv h
 obtain ⟨l,xs,y,rfl,rfl,hH,hy,q⟩:=h
 cases rx
 have hus:=rv.zero
 subst hus
 obtain ⟨z,its,n,r,hl,e⟩:=I.lstM hH
 obtain ⟨u,hu,ru⟩:=r.get hy
 have hy' : its.toArray[its.toArray.size - 1]? = some u:=by
  show its.toArray[its.length - 1]? = some u
  rw [← Array.getElem?_toList,← hl]
  exact hu
 refine call_meets F.slot_list_pop ⟨_,e,rfl⟩ F.entry_list_pop (F.args_list_pop_1 _) (MeetsSeq.list_pop_last l its.toArray n u hy' (by rw [List.size_toArray]; omega)) ⟨e,?_⟩
 refine ⟨y,_,I.lset (its':=its.dropLast) hH e ?_ r.dropLast ?_,ru,q⟩
 ·show its.toArray.eraseIdxIfInBounds (its.toArray.size - 1) = its.dropLast.toArray
  rw [List.size_toArray,List.eraseIdxIfInBounds_toArray,erase_last]
 ·rw [List.length_dropLast]
  omega
noncomputable def rCat : R2:=fun x y H Q=>∃ l b xs zs,x = .ref l∧y = .ref b∧H l = some (.lst xs)∧H b = some (.lst zs)∧xs.length + zs.length ≤ sizeLine∧∀ p,H p = none→Q (.ref p) (upd H p (.lst (xs ++ zs)))
theorem op_cat : OpR X (binaryOp .Add) rCat:=by
 intro pins s σ H x y v u Q I rx ry h
 obtain ⟨l,b,xs,zs,rfl,rfl,hH,hB,hz,q⟩:=h
 cases rx
 cases ry
 obtain ⟨z,its,n,r,hl,e⟩:=I.lstM hH
 obtain ⟨z2,its2,n2,r2,hl2,e2⟩:=I.lstM hB
 refine PySem.P.add_list e e2 ?_ (by rw [List.size_toArray,List.size_toArray]; omega)
 have ea : its.toArray ++ its2.toArray = (its ++ its2).toArray:=by simp
 rw [ea]
 exact ⟨.ref _,_,I.lnew (t':=s.toks) (r.append r2) (by rw [List.length_append]; omega),rfl,q _ I.fresh⟩
noncomputable def rRep : R2:=fun x y H Q=>∃ l k xs,x = .ref l∧y = .int k∧H l = some (.lst xs)∧-(2 ^ 63) ≤ k∧k < 2 ^ 63∧xs.length * k.toNat ≤ sizeLine ∧
 ∀ p,H p = none→Q (.ref p) (upd H p (.lst (List.replicate k.toNat xs).flatten))
theorem len_rep {α : Type} (xs : List α) (k : Nat) : (List.replicate k xs).flatten.length = k * xs.length:=by
 induction k with
 | zero=>simp
 | succ k ih=>rw [List.replicate_succ,List.flatten_cons,List.length_append,ih,Nat.succ_mul,Nat.add_comm]
theorem op_rep : OpR X (binaryOp .Mult) rRep:=by
 intro pins s σ H x y v u Q I rx ry h
 obtain ⟨l,k,xs,rfl,rfl,hH,h1,h2,hz,q⟩:=h
 cases rx
 obtain ⟨t,rfl⟩:=ry
 obtain ⟨z,its,n,r,hl,e⟩:=I.lstM hH
 have hlen : its.toArray.size * k.toNat ≤ sizeLine:=by rw [List.size_toArray,← hl]; exact hz
 have hcap : ¬ its.toArray.size * k.toNat > (2 ^ 63 - 1) / 8:=by
  have : (sizeLine : Nat) ≤ (2 ^ 63 - 1) / 8:=by decide
  omega
 have hfit : ¬ (!Builtin.List.listFitsIndex k) = true:=by
  rw [fitsIndex_both h1 h2]
  exact Bool.false_ne_true
 have hlong : ¬ Builtin.List.listTooLong (its.toArray.size * k.toNat) = true:=by
  rw [notLongL hlen]
  exact Bool.false_ne_true
 have hnew : List.foldl (fun x1 x2=>x1 ++ x2) #[] (List.replicate (if its.toArray.isEmpty = true then 0 else k.toNat) its.toArray) = (List.replicate k.toNat its).flatten.toArray:=by
  have f0 : ∀ m : Nat,List.foldl (fun x1 x2=>x1 ++ x2) #[] (List.replicate m its.toArray) = (List.replicate m its).flatten.toArray:=fun m=>by
   have:=foldl_rep its m []
   rw [List.nil_append] at this
   exact this
  rw [f0]
  cases its with
  | nil=>simp
  | cons a r'=>rw [if_neg (by simp)]
 refine wpAny_binaryOp_repeat_ref (T:="list") (U:="int") (by decide) ⟨_,e,rfl⟩ (fun s'=>typeIs_int s' k t) noFill_list_mul F.fills_int_mul F.slot_int_rmul repeat_list F.slot_int_index.lookup
  (call_meets F.slot_int_rmul (typeIs_int s k t) F.entry_int_rmul (F.args_int_rmul_2 _ _) (int___rmul___int_list k t l its.toArray n)
   ⟨e,rfl,⟨_,e,rfl⟩,call_meets F.slot_list_mul ⟨_,e,rfl⟩ F.entry_list_mul (F.args_list_mul_2 _ _) (AutoListH.list___mul___list_int_3 l its.toArray n k t hfit hcap hlong) ⟨e,?_⟩⟩)
 rw [hnew]
 exact ⟨.ref _,_,I.lnew (t':=s.toks) (r.rep k.toNat) (by rw [len_rep,Nat.mul_comm]; exact hz),rfl,q _ I.fresh⟩
end
section
variable {prog : Program} {w : World} {A : Around} {E : Value→Shared→Prop} {s : Shared}
end
section
variable {X : Cx}
end
end L2
namespace Att
open PySem PySem.W PySem.Calls PyProof.Rows
theorem ints_of_wellAll {P : Params} {h : Heap} : ∀ (ns : List Int) (vs : List Value),WellAll P h vs (ns.map WData.int)→IntsAre vs ns:=by
 intro ns
 induction ns with
 | nil =>
  intro vs w
  rw [List.map_nil] at w
  cases w
  exact .nil
 | cons n ns ih =>
  intro vs w
  rw [List.map_cons] at w
  cases w with
  | cons a b =>
   cases a
   exact .cons _ _ (ih _ b)
theorem script_of {l : OpenLaw} {n : Nat} (hn : l.most = some n) {P : Params} {h : Heap} {args : List WData} {vals : List Value}
  (hpre : l.row.toRowW.claim.pre args = true) (hwl : WellAll P h vals args) :
  ∃ a vs ns,vals = [Value.ref a]∧args = [WData.list (ns.map WData.int)]∧h.get? a = some { cls:=.type "list",data:=.seq vs.toArray }∧IntsAre vs ns∧ns.length ≤ n:=by
 have hsh : WShape.hasAll [] args [.list .int] = true:=(pre_splitW hpre).1
 have hc : l.pre.holds [] { args:=args } = true:=(pre_splitW hpre).2
 obtain ⟨d,r,rfl,h1,h2⟩:=hasAllW_cons hsh
 obtain rfl:=hasAllW_nil h2
 obtain ⟨xs,rfl,h3⟩:=hasW_list h1
 obtain ⟨ns,rfl⟩:=items_int h3
 have hlen : ns.length ≤ n:=by
  unfold OpenLaw.pre at hc
  have h4 : (WTm.not (.lt (.lit (.int (n : Int))) (.len (.arg 0)))).holds [] { args:=[.list (ns.map .int)] } = true:=by
   have h4:=(holds_andW hc).1
   rw [hn] at h4
   exact h4
  have h5:=condW_of h4 (w_not (w_lt w_lit (w_len_list (w_arg rfl))))
  rw [List.length_map] at h5
  refine Nat.le_of_not_lt fun q=>?_
  have q' : (n : Int) < ((ns.length : Nat) : Int):=by omega
  first
   | (rw [decide_eq_true q'] at h5; exact absurd h5 (by decide))
   | (simp at h5; omega)
 cases hwl with
 | cons w1 w2 =>
  cases w2
  cases w1 with
  | list ho hall=>exact ⟨_,_,ns,rfl,rfl,ho,ints_of_wellAll ns _ hall,hlen⟩
theorem post_true (l : OpenLaw) (args : List WData) : l.row.toRowW.claim.post args (.bool true) args = true :=
 postW_of (r:=l.row.toRowW) (X:=(true == true))
  (show WShape.has [] (.bool true) .bool = true by first | rfl | decide | simp [WShape.has,WShape.arms,WShape.armsAll])
  (show (WTm.eq .res (.lit (.bool true))).value [] { args:=args,res:=some (.bool true),after:=args } = some (.bool (true == true)) from w_eq_bool (w_res rfl) w_lit) rfl
theorem attach_call {l : OpenLaw} {n : Nat} {q : Program} {loose : List Str} {XP : (Str→Option Value)→Heap→Prop} {YP : World→Heap→Prop} {d : DefRec}
  (hn : l.most = some n) (hdf : d.params.defaults = [])
  (call : ∀ (w : World) (s₀ s₁ : Shared) (mg mb : Str→Option Value) (fa : Addr) (o : Obj) (pm cd doc : Value) (a : Addr) (vs : List Value) (ns : List Int),
   Ground q loose [] XP w s₀ mg mb s₁.heap→YP w s₁.heap →
   s₁.heap.get? fa = some o→o.data = .func (docDef d.name d.params d.body d.scope pm cd doc)→s₁.heap.CodeRec cd d.name→mg d.name = some (.ref fa) →
   s₁.heap.get? a = some { cls:=.type "list",data:=.seq vs.toArray }→IntsAre vs ns→ns.length ≤ n→s₁.gens = #[] →
   codeAny (model l.prog w) callerA (.call (.ref fa) ⟨[.ref a],[]⟩) (fun r s'=>r = .ok (.ret (.bool true))∧OldK s₁.heap s'.heap∧s'.os = s₁.os∧AllBare s'.gens) s₁) :
  WalkO q loose XP YP l.row.toRowW d [] (fun f vs=>PySem.call f vs):=by
 intro w s₀ s₁ mg mb G Y fa o pm cd doc dV kV ho hd hcd hD hmg hg args vals as hpre hlay hrd hwl hlo
 obtain rfl : dV = .none:=Dflts.none hD hdf
 obtain rfl : kV = .none:=Dflts.noKw hD
 obtain ⟨a,vs,ns,rfl,rfl,hobj,hints,hlen⟩:=script_of hn hpre hwl
 refine enter_call (codeAny_mono (call w s₀ s₁ mg mb fa o pm cd doc a vs ns G Y ho (fd_plain hd) hcd hmg hobj hints hlen hg) fun r s' hq=>?_)
 obtain ⟨rfl,h2,h3,h4⟩:=hq
 exact ⟨.inl ⟨.bool true,.bool true,[],rfl,fun _=>rfl,.bool true,post_true l _,fun _=>⟨List.Pairwise.nil,fun _ hm=>(nomatch hm)⟩⟩,h2,h3,h4⟩
section
variable {prog : Program} {w : World} {A : Around} {E : Value→Shared→Prop} {s : Shared} {K : Frag}
end
end Att
namespace L2
open PySem PySem.Spec PyProof.Rows
theorem vals_ints : ∀ {vs : List Value} {ns : List Int},IntsAre vs ns→Vals (ns.map V.int) vs
 | _,_,.nil=>.nil
 | _,_,.cons n t h=>.cons ⟨t,rfl⟩ (vals_ints h)
noncomputable def Only (H : Hp) : Prop:=∀ b,H b = none ∨ ∃ o xs,H b = some (.frz o (.lst xs))
theorem law_call {P : Program} {w : World} {K : PySem.W.Frag} {mg mb : Str→Option Value} {CX : CXT} {k : Nat} {fa a : Addr} {fd : FuncData} {x : Str} {sp : Sp} {s₁ : Shared} {vs : List Value} {ns : List Int}
  (KX : K.In s₁.heap) (hns : s₁.heap.Ns mainGlobals mg) (hb : s₁.heap.Ns builtinsNs mb) (hbb : ∀ x : Str,x ≠ "__name__"→mb x = bootBuiltins x) (hlim : s₁.heap.NoLimit) (hg : s₁.gens = #[])
  (ha : s₁.heap.get? a = some { cls:=.type "list",data:=.seq vs.toArray }) (hi : IntsAre vs ns) (hl : ns.length ≤ sizeLine) (hr : Room k callerA)
  (F : ∀ base : Heap,K.In base→base.Ns mainGlobals mg→FnOk P w K mg base CX k fa fd [x] sp) (hbind : ∀ (s : Shared) (u : Value),BindsTo s fd ⟨[u],[]⟩ [(x,u)])
  (hsp : ∀ H : Hp,Only H→SqL K H a (ns.map V.int)→sp [.ref a] H (fun v _=>v = .bl true) fun _ _ _=>False)
  (hCX : ∀ H e s',CX [] H s₁ (fun _ _ _=>False) e s'→False) :
  codeAny (model P w) callerA (.call (.ref fa) ⟨[.ref a],[]⟩) (fun r s'=>r = .ok (.ret (.bool true))∧OldK s₁.heap s'.heap∧s'.os = s₁.os∧AllBare s'.gens) s₁:=by
 have rv:=vals_ints hi
 have lenV:=hi.length
 have core : ∀ H : Hp,Only H→SqL K H a (ns.map V.int)→HOk P w H s₁.heap→(∀ b,H b ≠ none→b = a)→(H a ≠ none→K.lookup a = none) →
   codeAny (model P w) callerA (.call (.ref fa) ⟨[.ref a],[]⟩) (fun r s'=>r = .ok (.ret (.bool true))∧OldK s₁.heap s'.heap∧s'.os = s₁.os∧AllBare s'.gens) s₁:=by
  intro H hO hS hok hA hK
  have base_of : ∀ {b : Addr} {o : Obj},s₁.heap.get? b = some o→H b = none→(hidT s₁.heap H).get? b = some o:=fun e n=>hidT_get e n
  have noA : ∀ {b : Addr} {o : Obj} {es : Array DictEntry} {ep : Nat},s₁.heap.get? b = some o→o.data = .dict es ep→H b = none:=fun {b o es ep} e d=>by
   cases q : H b with
   | none=>rfl
   | some u =>
    have e' : b = a:=hA b (by rw [q]; simp)
    subst e'
    rw [ha] at e; cases e
    have d' : Data.seq vs.toArray _ = Data.dict es ep:=d
    cases d'
  have nsK : ∀ {b : Addr} {m : Str→Option Value},s₁.heap.Ns b m→(hidT s₁.heap H).Ns b m:=fun {b m} ⟨o,es,ep,e,d,r⟩=>⟨o,es,ep,base_of e (noA e d),d,r⟩
  have hKb : K.In (hidT s₁.heap H):=fun b o e=>base_of (KX b o e) (by
   cases q : H b with
   | none=>rfl
   | some u =>
    have e' : b = a:=hA b (by rw [q]; simp)
    subst e'
    rw [hK (by rw [q]; simp)] at e; cases e)
  have hM : Mod K mg (hidT s₁.heap H):=⟨hKb,nsK hns,⟨mb,nsK hb,hbb⟩,let ⟨mc,h1,h2⟩:=hlim; ⟨mc,nsK h1,h2⟩⟩
  have e0 : Env0 P w K mg (hidT s₁.heap H) callerA [] s₁ H:=⟨rfl,hM,fun b o e=>of_hidT e,Nat.le_of_eq (hidT_size _ _),trivial,fun b hb=>absurd (show b ∈ ([] : List Addr) from hb) (by simp),hok,.of_eq hg⟩
  refine codeAny_mono ((F _ hKb (nsK hns)).run callerA [] s₁ H ⟨[.ref a],[]⟩ [.ref a] [.ref a] _ _ hr e0 (hbind s₁ (.ref a)) (.cons rfl .nil) (hsp H hO hS)) fun r s' h=>?_
  cases r with
  | error e=>exact (hCX H e s' h).elim
  | ok fl =>
   cases fl with
   | next=>exact False.elim h
   | brk=>exact False.elim h
   | cont=>exact False.elim h
   | ret u =>
    obtain ⟨v,H',os,bare,un,hok',r',q⟩:=h
    have q' : v = .bl true:=q
    subst q'
    obtain rfl : u = Value.bool true:=r'
    refine ⟨rfl,OldK.of_keep fun b o e=>?_,os,bare⟩
    cases q : H b with
    | none=>exact un.keep b o e q (by intro z; exact absurd (show b ∈ ([] : List Addr) from z) (by simp)) (by simp)
    | some u =>
     rcases hO b with z | ⟨ob,xs,z⟩
     ·rw [q] at z; cases z
     ·have z2:=un.frzs b ob _ z
      obtain ⟨e1,_⟩:=hok b _ z
      obtain ⟨e2,_⟩:=hok' b _ z2
      rw [e] at e1; cases e1
      exact e2
 cases hk : K.lookup a with
 | some o =>
  have e:=KX a o hk
  rw [ha] at e
  cases e
  refine core (fun _=>none) (fun _=>.inl rfl) (.inr ⟨_,vs.toArray,_,hk,rfl,rfl,rfl,by rw [List.size_toArray,lenV]; exact hl,by simpa using rv⟩) (fun b u z=>by have z' : (none : Option HO) = some u:=z; cases z') (fun b z=>absurd rfl z) fun z=>absurd rfl z
 | none =>
  refine core (fun b=>if b = a then some (.frz { cls:=.type "list",data:=.seq vs.toArray } (.lst (ns.map V.int))) else none) (fun b=>?_) (.inl (.inr ⟨{ cls:=.type "list",data:=.seq vs.toArray },if_pos rfl⟩)) (fun b u z=>?_) (fun b z=>?_) fun _=>hk
  ·by_cases hb : b = a
   ·exact .inr ⟨_,_,if_pos hb⟩
   ·exact .inl (if_neg hb)
  ·by_cases hb : b = a
   ·have z':=(if_pos hb).symm.trans z
    cases z'
    subst hb
    exact ⟨ha,by rw [List.length_map]; exact hl,vs,_,rv,ha⟩
   ·have z':=(if_neg hb).symm.trans z
    cases z'
  ·by_cases hb : b = a
   ·exact hb
   ·exact absurd (if_neg hb) z
end L2
namespace L2
open PySem PySem.Spec PyProof.Rows
theorem walk_of {l : PySem.W.OpenLaw} {n k : Nat} {q : Program} {loose : List Str} {XP : (Str→Option Value)→Heap→Prop} {YP : World→Heap→Prop} {d : DefRec} {K : Params→PySem.W.Frag} {CX : World→CXT} {sp : World→Sp} {x : Str}
  (hn : l.most = some n) (hn2 : n ≤ sizeLine) (hdf : d.params.defaults = []) (hr : Room k callerA)
  (hY : ∀ (w : World) (h : Heap),YP w h→(K w.params).In h)
  (F : ∀ (w : World) (mg : Str→Option Value) (fa : Addr) (h : Heap),(K w.params).In h→h.Ns mainGlobals mg→mg d.name = some (.ref fa) →
   ∃ fd : FuncData,(∀ (s : Shared) (u : Value),BindsTo s fd ⟨[u],[]⟩ [(x,u)]) ∧
    ∀ base : Heap,(K w.params).In base→base.Ns mainGlobals mg→FnOk l.prog w (K w.params) mg base (CX w) k fa fd [x] (sp w))
  (hsp : ∀ (w : World) (H : Hp) (a : Addr) (ns : List Int),ns.length ≤ n→Only H→SqL (K w.params) H a (ns.map V.int)→sp w [.ref a] H (fun v _=>v = .bl true) fun _ _ _=>False)
  (hCX : ∀ (w : World) (H : Hp) (s : Shared) (e : Value) (s' : Shared),CX w [] H s (fun _ _ _=>False) e s'→False) :
  PySem.W.WalkO q loose XP YP l.row.toRowW d [] (fun f vs=>PySem.call f vs):=by
 refine Att.attach_call hn hdf fun w s₀ s₁ mg mb fa o pm cd doc a vs ns G Y ho hd hcd hmg hobj hints hlen hg=>?_
 have KX:=hY w _ Y
 obtain ⟨fd,hb,hF⟩:=F w mg fa _ KX G.T.g hmg
 exact law_call KX G.T.g G.T.b G.T.builtins G.T.nolimit hg hobj hints (Nat.le_trans hlen hn2) hr hF hb (fun H hO hS=>hsp w H a ns hlen hO hS) fun H e s'=>hCX w H s₁ e s'
end L2
namespace L2
open PySem PySem.Spec PyProof.Rows
noncomputable def defArgs (s : Stmt) : Arguments:=match s with
 | .FunctionDef _ a _ _ _ _ _ _ _ _=>a
 | _=>{ posonlyargs:=[],args:=[],vararg:=none,kwonlyargs:=[],kw_defaults:=[],kwarg:=none,defaults:=[] }
noncomputable def defBody (s : Stmt) : List Stmt:=match s with
 | .FunctionDef _ _ b _ _ _ _ _ _ _=>b
 | _=>[]
noncomputable def defScope (s : Stmt) : Scope:=match s with
 | .FunctionDef _ _ _ _ _ _ sc _ _ _=>sc
 | _=>{ kind:=.function,names:=[],isGenerator:=false,isCoroutine:=false }
noncomputable abbrev CX0 : CXT:=fun _ _ _ _ _ _=>False
noncomputable abbrev E0 : XK:=fun _ _ _=>False
theorem pass0 {X : Cx} : Passes CX0 X E0:=fun _ _ _ _ _ _ _ h=>h.elim
structure Fun (K : PySem.W.Frag) (x qual : Str) (st : Stmt) (f : Addr) (fd : FuncData) : Prop where
 ex : ∃ (oc : Value) (od : Option Addr) (kV doc pm : Value) (an : Option Addr) (cdv ct : Value) (osl : Array (Option Value)),
  fd = PySem.W.fnOf x qual (defArgs st) (defBody st) (defScope st) .none kV doc pm an cdv ct∧K.lookup f = some ⟨oc,od,.func fd,osl⟩∧PySem.W.codeIn K cdv qual = true
 kp : PySem.W.keepIn K (.ref f) = true
section
variable {P : Program} {w : World} {K : PySem.W.Frag} {mg : Str→Option Value} {base : Heap}
theorem Fun.ok {x qual : Str} {st : Stmt} {f : Addr} {fd : FuncData} {N ps : List Str} {k : Nat} {sp : Sp} (F : Fun K x qual st f fd) (S : FnScope N ps (defScope st)) (len : ∀ vs H Q E,sp vs H Q E→vs.length = ps.length)
  (hbody : ∀ (cdv : Value) (A : Around) (outer : List Env) (s : Shared) (H : Hp) (vs : List V) (Q : VK) (E : XK),Room k (A.deeper (envOfC qual (defScope st) s.heap.objs.size f cdv))→sp vs H Q E →
   ∃ t,PSs (cxOf CX0 P w K mg base N qual (defScope st) f cdv A outer s H E).nox (defBody st) t∧t { nx:=fun _ H'=>Q .non H',rt:=Q } (start N vs) H) : FnOk P w K mg base CX0 (k + 1) f fd ps sp:=by
 obtain ⟨oc,od,kV,doc,pm,an,cdv,ct,osl,rfl,lk,hcd⟩:=F.ex
 refine fn_of lk hcd S len fun A outer s H vs Q E hr hsp=>?_
 obtain ⟨t,h,q⟩:=hbody cdv A outer s H vs Q E hr hsp
 exact ⟨t,h.nox,q⟩
theorem Fun.binds {x qual : Str} {st : Stmt} {f : Addr} {fd : FuncData} {ps : List Str} (F : Fun K x qual st f fd)
  (h : ∀ (kV doc pm : Value) (an : Option Addr) (cdv ct : Value) (us : List Value),us.length = ps.length→bindArgs (PySem.W.fnOf x qual (defArgs st) (defBody st) (defScope st) .none kV doc pm an cdv ct) ⟨us,[]⟩ = pure (ps.zip us)) : Binds K fd ps []:=by
 obtain ⟨oc,od,kV,doc,pm,an,cdv,ct,osl,rfl,lk,hcd⟩:=F.ex
 exact .all (h kV doc pm an cdv ct)
theorem fun_mk {x qual : Str} {st : Stmt} {f : Addr} {oc : Value} {od an : Option Addr} {osl : Array (Option Value)} {kV doc pm cdv ct : Value} (l : K.lookup f = some ⟨oc,od,.func (PySem.W.fnOf x qual (defArgs st) (defBody st) (defScope st) .none kV doc pm an cdv ct),osl⟩)
  (c : PySem.W.codeIn K cdv qual = true) (k : PySem.W.keepIn K (.ref f) = true) : Fun K x qual st f (PySem.W.fnOf x qual (defArgs st) (defBody st) (defScope st) .none kV doc pm an cdv ct):=⟨⟨oc,od,kV,doc,pm,an,cdv,ct,osl,rfl,l,c⟩,k⟩
end
section
variable {X : Cx}
end
theorem iteF {A B : Prop} (h : B) : if false = true then A else B:=by
 rw [if_neg Bool.false_ne_true]
 exact h
theorem iteT {A B : Prop} (h : A) : if true = true then A else B:=by
 rw [if_pos rfl]
 exact h
theorem ite2 {c A B : Prop} [Decidable c] (h1 : c→A) (h2 : ¬ c→B) : if c then A else B:=by
 by_cases h : c
 ·rw [if_pos h]
  exact h1 h
 ·rw [if_neg h]
  exact h2 h
noncomputable def Same (H H' : Hp) : Prop:=∀ b o,H b = some o→H' b = some o
theorem Same.refl (H : Hp) : Same H H:=fun _ _ h=>h
theorem Same.trans {H H1 H2 : Hp} (a : Same H H1) (b : Same H1 H2) : Same H H2:=fun c o h=>b c o (a c o h)
theorem Same.free {H H' : Hp} (e : Same H H') {l : Addr} (h : H' l = Option.none) : H l = Option.none:=by
 cases q : H l with
 | none=>rfl
 | some o =>
  rw [e l o q] at h
  cases h
theorem Same.seq {K : PySem.W.Frag} {H H' : Hp} {a : Addr} {xs : List V} (e : Same H H') (h : SqL K H a xs) : SqL K H' a xs:=by
 rcases h with (h | ⟨o,h⟩) | h
 ·exact .inl (.inl (e _ _ h))
 ·exact .inl (.inr ⟨o,e _ _ h⟩)
 ·exact .inr h
end L2
set_option maxHeartbeats 8000000
namespace L2
open PySem PySem.Spec PyProof.Rows
noncomputable def closL (env : Env) : List (Str × NameKind)→List (Str × Addr)→List (Str × Addr)
 | [],acc=>acc
 | (n,k) :: r,acc=>closL env r (if k == .free then (match env.cells.lookup n with | some a=>(n,a) :: acc | none=>acc) else acc)
theorem closL_sub {env : Env} : ∀ {ns : List (Str × NameKind)} {acc : List (Str × Addr)} {x : Str} {c : Addr},(∀ x c,acc.lookup x = some c→env.cells.lookup x = some c)→(closL env ns acc).lookup x = some c→env.cells.lookup x = some c
 | [],acc,x,c,h,e=>h x c e
 | (n,k) :: r,acc,x,c,h,e=>by
  refine closL_sub (ns:=r) ?_ e
  intro y d
  split
  ·split
   ·rename_i a ha
    intro q
    rw [List.lookup_cons] at q
    split at q
    ·rename_i hy
     have hy' : y = n:=by simpa using hy
     subst hy'
     rw [ha]; exact q
    ·exact h y d q
   ·exact h y d
  ·exact h y d
theorem closL_acc {env : Env} : ∀ {ns : List (Str × NameKind)} {acc : List (Str × Addr)} {x : Str},(acc.lookup x).isSome = true→((closL env ns acc).lookup x).isSome = true
 | [],acc,x,h=>h
 | (n,k) :: r,acc,x,h=>by
  refine closL_acc (ns:=r) ?_
  split
  ·split
   ·rw [List.lookup_cons]
    split
    ·rfl
    ·exact h
   ·exact h
  ·exact h
theorem closL_has {env : Env} : ∀ {ns : List (Str × NameKind)} {acc : List (Str × Addr)} {x : Str},(x,NameKind.free) ∈ ns→(env.cells.lookup x).isSome = true→((closL env ns acc).lookup x).isSome = true
 | [],acc,x,h,_=>by cases h
 | (n,k) :: r,acc,x,h,hc=>by
  rcases List.mem_cons.mp h with e | e
  ·cases e
   refine closL_acc (ns:=r) ?_
   obtain ⟨a,ha⟩:=Option.isSome_iff_exists.mp hc
   rw [if_pos (by rfl),ha]
   show (List.lookup n ((n,a) :: acc)).isSome = true
   rw [List.lookup_cons]
   simp
  ·exact closL_has (ns:=r) e hc
theorem closureFor_eq {scope : Scope} {env : Env} (h : ∀ x ∈ scope.names,x.2 = .free→(env.cells.lookup x.1).isSome = true) : closureFor scope env = pure (closL env scope.names []):=by
 have all : ∀ (ns : List (Str × NameKind)) (acc : List (Str × Addr)),(∀ x ∈ ns,x.2 = .free→(env.cells.lookup x.1).isSome = true) →
   (forIn ns acc fun (x : Str × NameKind) (cs : List (Str × Addr))=>(if (x.2 == NameKind.free) = true then do let a ← cellOf env x.1; pure (ForInStep.yield ((x.1,a) :: cs)) else pure (ForInStep.yield cs) : Sem (ForInStep (List (Str × Addr))))) = pure (closL env ns acc):=by
  intro ns
  induction ns with
  | nil=>intro acc _; rfl
  | cons x r ih =>
   intro acc hx
   obtain ⟨n,k⟩:=x
   rw [List.forIn_cons]
   by_cases hk : (k == NameKind.free) = true
   ·obtain ⟨a,ha⟩:=Option.isSome_iff_exists.mp (hx (n,k) List.mem_cons_self (by simpa using hk))
    have ha : env.cells.lookup n = some a:=ha
    have hcell : cellOf env n = pure a:=by unfold cellOf; rw [ha]
    simp only [hk,if_true,hcell]
    refine Eq.trans (ih ((n,a) :: acc) fun y hy=>hx y (List.mem_cons_of_mem _ hy)) ?_
    conv=>rhs; unfold closL
    simp only [hk,if_true,ha]
   ·simp only [hk]
    refine Eq.trans (ih acc fun y hy=>hx y (List.mem_cons_of_mem _ hy)) ?_
    conv=>rhs; unfold closL
    simp only [hk]
    rfl
 unfold closureFor
 exact (by
  have:=all scope.names [] h
  first | exact this | (simp only [bind_pure] ; exact this) | simpa using this)
noncomputable def cmpCx (X : Cx) (scope : Scope) (C : Addr) (N : List Str) (s₀ : Shared) (H₀ : Hp) (ex : List Addr) : Cx where
 prog:=X.prog
 w:=X.w
 K:=X.K
 mg:=X.mg
 base:=X.base
 A:=X.A
 N:=N
 s₀:=s₀
 H₀:=H₀
 env:=compEnvC scope (closL X.env scope.names []) C X.env
 outer:=X.stack
 stack:=X.stack
 ex:=ex
 fn:=fun _=>false
 calm:=X.calm
 pn:=[]
 xe:=fun _ _=>False
structure CScope (sc : Scope) (env : Env) : Prop where
 kind : sc.kind = .function
 nocell : ∀ y ∈ sc.names,y.2 ≠ .cell
 loc : ∀ y ∈ sc.names,y.2 = .local→sc.names.lookup y.1 = some .local
 free : ∀ x ∈ sc.names,x.2 = .free→(env.cells.lookup x.1).isSome = true
theorem lookup_relabel {env : Env} : ∀ {names : List (Str × NameKind)} {x : Str} {k : NameKind},((names.map fun (n,k)=>if (k == NameKind.free && env.scope.kind == .function && env.kindOf n == some .cell) then (n,NameKind.cell) else (n,k)).lookup x = some k) →
  ∃ k',names.lookup x = some k'∧(k' = k ∨ (k' = .free∧k = .cell))
 | [],x,k,h=>by simp at h
 | (n,q) :: r,x,k,h=>by
  have ih:=@lookup_relabel env r x k
  have h : List.lookup x ((if (q == NameKind.free && env.scope.kind == .function && env.kindOf n == some .cell) = true then (n,NameKind.cell) else (n,q)) :: _) = some k:=h
  rw [List.lookup_cons]
  cases hx : x == n with
  | true =>
   by_cases hc : (q == NameKind.free && env.scope.kind == .function && env.kindOf n == some .cell) = true
   ·rw [if_pos hc] at h
    simp only [List.lookup_cons,hx] at h
    refine ⟨q,rfl,.inr ⟨?_,(Option.some.inj h).symm⟩⟩
    simp only [Bool.and_eq_true] at hc
    simpa using hc.1.1
   ·rw [if_neg hc] at h
    simp only [List.lookup_cons,hx] at h
    exact ⟨q,rfl,.inl (Option.some.inj h)⟩
  | false =>
   by_cases hc : (q == NameKind.free && env.scope.kind == .function && env.kindOf n == some .cell) = true
   ·rw [if_pos hc] at h
    simp only [List.lookup_cons,hx] at h
    exact ih h
   ·rw [if_neg hc] at h
    simp only [List.lookup_cons,hx] at h
    exact ih h
noncomputable def Takes (X : Cx) (scope : Scope) (N : List Str) (σ σ0 : St) : Prop :=
 σ0.length = N.length∧∀ (i : Nat) (x : Str) (v : V),N[i]? = some x→σ0[i]? = some (some v)→∃ j : Nat,X.N[j]? = some x∧σ[j]? = some (some v)∧scope.names.lookup x = some .free∧(X.env.kindOf x = some .cell ∨ X.env.kindOf x = some .free)
section
variable {X : Cx}
theorem cmp_start {scope : Scope} {N : List Str} {pins : List (Addr × Obj)} {σ σ0 : St} {H : Hp} {s : Shared} {h' : Heap} {tk : Nat} {fp : List Addr} (I : Inv X pins σ H s) (S : CScope scope X.env) (hf : ∀ b ∈ fp,FpOk X pins H b) (hlt : ∀ b ∈ fp,b < s.heap.objs.size)
  (T : Takes X scope N σ σ0) (hn : h'.Ns s.heap.objs.size (fun _=>none)) (hk : ∀ b o,s.heap.get? b = some o→h'.get? b = some o) :
  Inv (cmpCx X scope s.heap.objs.size N s H fp) [] σ0 H { s with heap:=h',toks:=tk }:=by
 have subC : ∀ x c,(closL X.env scope.names []).lookup x = some c→X.env.cells.lookup x = some c:=fun x c e=>closL_sub (ns:=scope.names) (acc:=[]) (fun y d z=>by simp at z) e
 have hasC : ∀ x,scope.names.lookup x = some .free→∃ c,(closL X.env scope.names []).lookup x = some c:=fun x e=>by
  have m:=PySem.mem_of_lookup e
  exact Option.isSome_iff_exists.mp (closL_has m (S.free _ m rfl))
 have fsN : ∀ b ∈ fp,b ∉ frs X.stack:=fun b hb z=>by
  obtain ⟨_,f1,f2,_⟩:=hf b hb
  rcases List.mem_cons.mp (I.stkSub b z) with e | e
  ·exact f1 e
  ·exact f2 e
 have kinds : ∀ x,((relabel scope X.env).names.lookup x = some .cell ∨ (relabel scope X.env).names.lookup x = some .free)→scope.names.lookup x = some .free:=fun x hx=>by
  rcases hx with hx | hx
  ·obtain ⟨k',e,q⟩:=lookup_relabel hx
   rcases q with q | ⟨q,_⟩
   ·subst q
    exact absurd rfl (S.nocell _ (PySem.mem_of_lookup e))
   ·rw [e,q]
  ·obtain ⟨k',e,q⟩:=lookup_relabel hx
   rcases q with q | ⟨_,q⟩
   ·rw [e,q]
   ·cases q
 have noex : ∀ b o,X.base.get? b = some o→b ∉ fp:=fun b o e hb=>by
  obtain ⟨_,_,_,f3,_⟩:=hf b hb
  rcases f3 with z | z
  ·exact I.ok.noex b o e z
  ·exact absurd (Nat.lt_of_lt_of_le (Heap.lt_size e) (Nat.le_trans I.ok.bsz z)) (Nat.lt_irrefl _)
 refine ⟨⟨I.ok.mod,S.kind,I.ok.glob,I.ok.blt,Nat.le_refl _,fun x y c e1 e2=>I.ok.inj x y c (subC x c e1) (subC y c e2),fun x hx=>hasC x (kinds x hx),fun x c z=>absurd (show false = true from z) Bool.false_ne_true,I.ok.hd,I.ok.frames,.inl rfl,
   fun b hb=>⟨Nat.ne_of_lt (hlt b hb),fun x c e=>(hf b hb).2.2.2.2.1 x c (subC x c e)⟩,I.bs,Nat.le_trans I.ok.bsz I.sz,noex,fsN,I.stack,I.stkFree⟩,
  rfl,I.bare,Un.kept hk,⟨_,hn,fun i x v e1 e2 e3=>?_⟩,fun x c e=>?_,I.hok.fresh (Nat.le_refl _),fun x c e=>I.freeC x c (subC x c e),fun p hp=>absurd (show p ∈ ([] : List (Addr × Obj)) from hp) (by simp),I.hok.kept hk,T.1⟩
 ·obtain ⟨j,hj,hs,hfr,hkd⟩:=T.2 i x v e1 e2
  obtain ⟨m,_,hl⟩:=I.loc
  obtain ⟨u,r,l⟩:=hl j x v hj hs (hkd.elim (fun z=>Or.inr (Or.inl z)) fun z=>Or.inr (Or.inr z))
  refine ⟨u,r,.inr ⟨?_,?_⟩⟩
  ·show (relabel scope X.env).names.lookup x = some .cell ∨ (relabel scope X.env).names.lookup x = some .free
   rcases e3 with z | z | z
   ·obtain ⟨k',e,q⟩:=lookup_relabel (show (relabel scope X.env).names.lookup x = some .local from z)
    rw [hfr] at e
    cases e
    rcases q with q | ⟨_,q⟩ <;> cases q
   ·exact .inl z
   ·exact .inr z
  ·obtain ⟨c,hc⟩:=hasC x hfr
   refine ⟨c,hc,?_⟩
   rcases l with ⟨k,_⟩ | ⟨_,c',e,z⟩
   ·rcases hkd with hkd | hkd <;> (rw [hkd] at k; cases k)
   ·have e':=subC x c hc
    rw [e] at e'
    cases e'
    obtain ⟨o,ho,hd⟩:=z
    exact ⟨o,hk _ o ho,hd⟩
 ·obtain ⟨v,o,ho,hd⟩:=I.cell x c (subC x c e)
  exact ⟨v,o,hk _ o ho,hd⟩
theorem cmp_end {scope : Scope} {N : List Str} {pins pins' : List (Addr × Obj)} {σ σ' : St} {H H' : Hp} {s s' : Shared} {h' : Heap} {fp : List Addr} (I : Inv X pins σ H s) (hf : ∀ b ∈ fp,FpOk X pins H b)
  (I' : Inv (cmpCx X scope s.heap.objs.size N s H fp) pins' σ' H' s') (hs : Heap.SameBut s.heap.objs.size s'.heap h') : Inv X pins σ H' { s' with heap:=h' }:=by
 have hC : H' s.heap.objs.size = none:=I'.free
 have ne : ∀ b o,s.heap.get? b = some o→b ≠ s.heap.objs.size:=fun b o e=>Nat.ne_of_lt (Heap.lt_size e)
 have B : Un (frs X.stack) fp H H' s.heap s'.heap:=I'.base
 refine I.call' (s':={ s' with heap:=h' }) (ch:=fp) I'.os ⟨fun b o e n hb hx=>?_,fun b o e n hb hx=>?_,B.free,fun b o e hx=>?_,B.tups,B.frzs,B.tbls⟩ (fun b o e=>?_) I'.bare (fun b hb=>?_)
 ·exact (hs.2 b (ne b o e)).trans (B.keep b o e n hb hx)
 ·obtain ⟨sl,q⟩:=B.slot b o e n hb hx
  exact ⟨sl,(hs.2 b (ne b o e)).trans q⟩
 ·obtain ⟨o',q⟩:=B.there b o e hx
  exact ⟨o',(hs.2 b (ne b o e)).trans q⟩
 ·refine (I'.hok b o e).stay (fun c w' hc q=>(hs.2 c ?_).trans q) (fun _ q=>q) fun _ _ q=>q
  rintro rfl
  rcases hc with rfl | hc
  ·rw [hC] at e; cases e
  ·rw [hC] at hc; cases hc
 ·obtain ⟨_,f1,_,f3,f4,f5⟩:=hf b hb
  exact ⟨f3,f1,f4,f5⟩
end
end L2
namespace L2
open PySem PySem.Spec PyProof.Rows
section
variable {prog : Program} {w : World} {A : Around} {R : Result→Shared→Prop} {s : Shared}
theorem compLoop_any {elt target iter : Expr} {ifs : List Expr} {scope : Scope} {pos : Pos} {it acc : Value} {env : Env} (I : Nat→Shared→Prop)
  (turn : ∀ n s,I n s→wpAny (model prog w) A (pyNext it) (fun r s₁=>match r with
   | none=>R (.ok .next) s₁
   | some v=>wpAny (model prog w) A (letOwnedTupleGo target it v) (fun _ s₁'=>wpAny (model prog w) A (assign target env v) (fun _ s₂ =>
     wpAny (model prog w) A (forIn ifs true fun c r=>if r = true then do let ok ← isTrue c env (eval c env); pure (ForInStep.yield ok) else pure (ForInStep.yield r)) (fun ok s₃ =>
      if ok = true then wpAny (model prog w) A (eval elt env) (fun x s₄ =>
       wpAny (model prog w) A (call (.builtin "list.append") [acc,x]) (fun _ s₅=>∃ m,m < n∧I m s₅) (fun _ _=>False) s₄) (fun _ _=>False) s₃
      else ∃ m,m < n∧I m s₃) (fun _ _=>False) s₂) (fun _ _=>False) s₁') (fun _ _=>False) s₁) (fun _ _=>False) s)
  (n : Nat) (h : I n s) : codeAny (model prog w) A (.compLoop (.ListComp elt [⟨target,iter,ifs,0⟩] scope pos) 0 it acc env) R s:=by
 refine codeAny_loop rfl I (fun n s hI=>?_) n h
 show wpAny _ A ((compTurn (.ListComp elt [⟨target,iter,ifs,0⟩] scope pos) 0 it acc env).onRaise (fun x=>do noteFrame x env; theTreesLotGoes x)) _ _ s
 refine wpAny_noted ?_
 rw [compTurn_list]
 have up : ∀ {α : Type} {t : Sem α} {Q : α→Shared→Prop} {s : Shared} {E : Value→Shared→Prop},wpAny (model prog w) A t Q (fun _ _=>False) s→wpAny (model prog w) A t Q E s:=fun h=>wpAny_noRaise h
 refine wpAny_bind (wpAny_standAt (wpAny_bind (up (thn (turn n s hI) fun r s₁ h₁=>?_))))
 cases r with
 | none=>exact wpAny_pure h₁
 | some v =>
  refine wpAny_bind (up (thn h₁ fun _ s₁' h₁'=>?_))
  refine wpAny_bind (up (thn h₁' fun _ s₂ h₂=>wpAny_bind (up (thn h₂ fun ok s₃ h₃=>?_))))
  cases ok with
  | false=>exact wpAny_pure ⟨rfl,h₃⟩
  | true =>
   exact wpAny_bind (wpAny_bind (up (thn h₃ fun x s₄ h₄=>wpAny_bind (up (thn h₄ fun _ s₅ h₅=>wpAny_pure (wpAny_pure ⟨rfl,h₅⟩))))))
end
noncomputable def CompW (J : It) (g : TG) (tt : TT) (te : TE) (σ0 : St) (H1 : Hp) (D : Addr) (Q : VK) : Prop :=
 ∃ W : Nat→Nat→St→Hp→Prop,(∃ m,W 0 m σ0 (upd H1 D (.lst [])))∧∀ i m σ' H',W i m σ' H' →
  (J.stop i H'∧Q (.ref D) H') ∨ (J.go i H'∧∃ N : St→Hp→Prop,(∀ σ2 H2,N σ2 H2→∃ m',m' < m∧W (i + 1) m' σ2 H2)∧∀ x H2,J.yld i H' x H2→g x σ' H2 fun σ2 H3=>tt σ2 H3 fun b H4 =>
   if b = true then te σ2 H4 fun y H5=>∃ ys,H5 D = some (.lst ys)∧ys.length < sizeLine∧N σ2 (upd H5 D (.lst (ys ++ [y]))) else N σ2 H4)
noncomputable def tComp (wi : TI) (σ0 : St→St) (g : TG) (tt : TT) (te : TE) : TE:=fun σ H Q=>wi σ H fun J H1=>∀ D,H1 D = none→CompW J g tt te (σ0 σ) H1 D Q
noncomputable def PTs (X : Cx) (ifs : List Expr) (t : TT) : Prop :=
 ∀ (pins : List (Addr × Obj)) (s : Shared) (σ : St) (H : Hp) (Q : Bool→Hp→Prop),Inv X pins σ H s→t σ H Q →
  wpAny (model X.prog X.w) X.A (forIn ifs true fun c r=>if r = true then do let ok ← isTrue c X.env (eval c X.env); pure (ForInStep.yield ok) else pure (ForInStep.yield r)) (TP X pins σ Q) X.xe s
noncomputable def tYes : TT:=fun _ H Q=>Q true H
theorem pts_nil {X : Cx} : PTs X [] tYes:=fun _ _ _ H _ I h=>wpAny_tests_nil ⟨H,I,h⟩
section
variable {X : Cx} {elt target iter : Expr} {ifs : List Expr} {scope : Scope} {pos : Pos} {N : List Str} {wi : TI} {σ0 : St→St} {g : TG} {tt : TT} {te : TE}
theorem comp_block {pins : List (Addr × Obj)} {σ : St} {H : Hp} {s : Shared} {it : Addr} {fp : List Addr} {tn : Nat→Heap→Prop} {J : It} {Q : Addr→Hp→Prop} {RR : Value→Addr→Result→Shared→Prop} {E : Value→Shared→Prop}
  (hc : X.calm = true) (S : CScope scope X.env) (T : Takes X scope N σ (σ0 σ)) (I : Inv X pins σ H s) (Tn : Turn X.prog X.w X.K target J fp it tn) (st : tn 0 s.heap) (hf : ∀ b ∈ fp,FpOk X pins H b)
  (hg : ∀ C s H fp,PG (cmpCx X scope C N s H fp) target g) (ht : ∀ C s H fp,PTs (cmpCx X scope C N s H fp) ifs tt) (he : ∀ C s H fp,PE (cmpCx X scope C N s H fp) elt te)
  (hw : ∀ D,H D = none→∃ W : Nat→Nat→St→Hp→Prop,(∃ m,W 0 m (σ0 σ) (upd H D (.lst [])))∧∀ i m σ' H',W i m σ' H' →
   (J.stop i H'∧Q D H') ∨ (J.go i H'∧∃ N : St→Hp→Prop,(∀ σ2 H2,N σ2 H2→∃ m',m' < m∧W (i + 1) m' σ2 H2)∧∀ x H2,J.yld i H' x H2→g x σ' H2 fun σ2 H3=>tt σ2 H3 fun b H4 =>
    if b = true then te σ2 H4 fun y H5=>∃ ys,H5 D = some (.lst ys)∧ys.length < sizeLine∧N σ2 (upd H5 D (.lst (ys ++ [y]))) else N σ2 H4))
  (hR : ∀ (D C : Addr) (H' : Hp) (s' : Shared) (m : Str→Option Value),s.heap.objs.size ≤ C→H' C = none→s'.heap.Ns C m→(∀ h',Heap.SameBut C s'.heap h'→Inv X pins σ H' { s' with heap:=h' })→Q D H'→RR (.ref D) C (.ok .next) s') :
  wpAny (model X.prog X.w) X.A (newList []) (fun acc s₃=>wpAny (model X.prog X.w) X.A (newFunctionEnv scope X.env.globals (closL X.env scope.names []) [] X.env.qual none .none (some X.env)) (fun cenv s₄ =>
   codeAny (model X.prog X.w) X.A (.compStart (.ListComp elt [⟨target,iter,ifs,0⟩] scope pos) 0 (.ref it) acc { cenv with scope:=relabel scope X.env }) (RR acc cenv.locals) s₄) E s₃) E s:=by
 refine wpAny_newObj_type (wpAny_newFunctionEnv S.nocell (by intro y hy; simp at hy) (fun h₁ hns₁ hsb₁=>?_) S.kind)
 have hD : H s.heap.objs.size = none:=I.hok.fresh (Nat.le_refl _)
 have I3 : Inv X pins σ (upd H s.heap.objs.size (.lst [])) { s with heap:=s.heap.push { cls:=.type "list",dict:=none,data:=.seq ([] : List Value).toArray } }:=I.lnew (ys:=[]) (its:=[]) (t':=s.toks) .nil (by simp)
 have hlt : ∀ b ∈ fp,b < s.heap.objs.size:=fun b hb=>by obtain ⟨o,e,_⟩:=Tn.obj _ _ st b hb; exact Heap.lt_size e
 have hf3 : ∀ b ∈ fp,FpOk X pins (upd H s.heap.objs.size (.lst [])) b:=fun b hb=>⟨by rw [upd_ne (Nat.ne_of_lt (hlt b hb))]; exact (hf b hb).1,(hf b hb).2⟩
 have hlt3 : ∀ b ∈ fp,b < ({ s with heap:=s.heap.push { cls:=.type "list",dict:=none,data:=.seq ([] : List Value).toArray } } : Shared).heap.objs.size:=fun b hb=>by
  show b < (s.heap.push _).objs.size
  rw [Heap.size_push]
  exact Nat.lt_succ_of_lt (hlt b hb)
 have hk1 : ∀ b o,({ s with heap:=s.heap.push { cls:=.type "list",dict:=none,data:=.seq ([] : List Value).toArray } } : Shared).heap.get? b = some o→h₁.get? b = some o:=fun b o e =>
  hsb₁.extBut b o (Nat.ne_of_lt (Heap.lt_size e)) (Heap.get?_push_of_some _ e)
 have I4:=cmp_start (N:=N) (tk:=s.toks + ([] : List (Str × Value)).length) I3 S hf3 hlt3 T hns₁ hk1
 have st4 : tn 0 h₁:=Tn.keep _ _ _ st fun b hb o e=>hk1 b o (Heap.get?_push_of_some _ e)
 obtain ⟨W,⟨m0,w0⟩,turn⟩:=hw _ hD
 generalize hX : cmpCx X scope ({ s with heap:=s.heap.push { cls:=.type "list",dict:=none,data:=.seq ([] : List Value).toArray } } : Shared).heap.objs.size N { s with heap:=s.heap.push { cls:=.type "list",dict:=none,data:=.seq ([] : List Value).toArray } } (upd H s.heap.objs.size (.lst [])) fp = X' at I4
 have eP : X'.prog = X.prog:=by rw [← hX]; rfl
 have eW : X'.w = X.w:=by rw [← hX]; rfl
 have eK : X'.K = X.K:=by rw [← hX]; rfl
 have eA : X'.A = X.A:=by rw [← hX]; rfl
 have eC : X'.calm = true:=by rw [← hX]; exact hc
 have eX : X'.xe = fun _ _=>False:=by rw [← hX]; rfl
 have eEx : X'.ex = fp:=by rw [← hX]; rfl
 have hg' : PG X' target g:=by rw [← hX]; exact hg _ _ _ _
 have ht' : PTs X' ifs tt:=by rw [← hX]; exact ht _ _ _ _
 have he' : PE X' elt te:=by rw [← hX]; exact he _ _ _ _
 have eE : X'.env = compEnvC scope (closL X.env scope.names []) ({ s with heap:=s.heap.push { cls:=.type "list",dict:=none,data:=.seq ([] : List Value).toArray } } : Shared).heap.objs.size X.env:=by rw [← hX]; rfl
 have fpIn : ∀ {H' : Hp},(∀ b ∈ fp,H' b = none)→∀ b ∈ fp,FpOk X' [] H' b:=fun {H'} hn b hb=>by
  obtain ⟨f0,f1,f2,f3,f4,f5⟩:=hf3 b hb
  rw [← hX]
  refine ⟨hn b hb,Nat.ne_of_lt (hlt3 b hb),fun z=>?_,.inl hb,fun x c e=>f4 x c (closL_sub (ns:=scope.names) (acc:=[]) (fun y d z=>by simp at z) e),fun p hp=>absurd (show p ∈ ([] : List (Addr × Obj)) from hp) (by simp)⟩
  rcases List.mem_cons.mp (I3.stkSub b z) with e | e
  ·exact f1 e
  ·exact f2 e
 have fr0 : ∀ b ∈ fp,upd H s.heap.objs.size (.lst []) b = none:=fun b hb=>(hf3 b hb).1
 have loop : codeAny (model X.prog X.w) X.A (.compLoop (.ListComp elt [⟨target,iter,ifs,0⟩] scope pos) 0 (.ref it) (.ref s.heap.objs.size) X'.env)
   (RR (.ref s.heap.objs.size) ({ s with heap:=s.heap.push { cls:=.type "list",dict:=none,data:=.seq ([] : List Value).toArray } } : Shared).heap.objs.size)
   { s with heap:=h₁,toks:=s.toks + ([] : List (Str × Value)).length }:=by
  refine compLoop_any (fun n s'=>∃ i σ' H',Inv X' [] σ' H' s'∧tn i s'.heap∧(∀ b ∈ fp,H' b = none)∧W i n σ' H') ?_ m0 ⟨0,σ0 σ,_,I4,st4,fr0,w0⟩
  rintro n s5 ⟨i,σ5,H5,I5,st5,fr5,w5⟩
  rcases turn i n σ5 H5 w5 with ⟨stop,qn⟩ | ⟨go,Nx,hN,step⟩
  ·have q:=Tn.done X' eP eW eK eC i [] s5 σ5 H5 (fun _ _=>False) I5 (fpIn fr5) st5 stop
   rw [eA] at q
   refine thn q fun r s6 ⟨hr,I6⟩=>?_
   subst hr
   obtain ⟨mm,hns6,_⟩:=I6.loc
   rw [eE] at hns6
   have fr6:=I6.free
   rw [eE] at fr6
   refine hR _ _ H5 s6 mm ?_ fr6 hns6 (fun h' hs=>?_) qn
   ·show s.heap.objs.size ≤ (s.heap.push _).objs.size
    rw [Heap.size_push]
    exact Nat.le_succ _
   ·rw [← hX] at I6
    exact cmp_end I3 hf3 I6 hs
  ·have q:=Tn.item X' eP eW eK eC i [] s5 σ5 H5 (fun _ _=>False) I5 (fpIn fr5) st5 go
   rw [eA] at q
   refine thn q fun r s6 ⟨u,hr,h6⟩=>?_
   subst hr
   refine thn h6 fun _ s7 ⟨x,H7,I7,r7,y7,st7,fr7⟩=>?_
   have I7':=I7.pinned (fpIn fr7) (Tn.obj _ _ st7)
   have q8:=hg' _ s7 σ5 H7 x u _ I7' r7 (step x H7 y7)
   rw [eP,eW,eA,eX] at q8
   refine thn q8 fun _ s8 ⟨σ8,H8,I8,q8⟩=>?_
   have q9:=ht' _ s8 σ8 H8 _ I8 q8
   rw [eP,eW,eA,eX] at q9
   refine thn q9 fun ok s9 ⟨H9,I9,q9⟩=>?_
   have again : ∀ {σ10 : St} {H10 : Hp} {s10 : Shared},Inv X' ([] ++ pinsAt fp s7.heap) σ10 H10 s10→Nx σ10 H10→∃ m,m < n∧∃ i σ' H',Inv X' [] σ' H' s10∧tn i s10.heap∧(∀ b ∈ fp,H' b = none)∧W i m σ' H':=fun {σ10 H10 s10} J10 n10=>by
    obtain ⟨m',hm,w10⟩:=hN σ10 H10 n10
    refine ⟨m',hm,i + 1,σ10,H10,J10.unpinned,Tn.keep _ _ _ st7 fun b hb o e=>(J10.pin (b,o) (List.mem_append_right _ (List.mem_append_right _ (mem_pinsAt hb e)))).1,fun b hb=>?_,w10⟩
    obtain ⟨o,e,d⟩:=Tn.obj _ _ st7 b hb
    exact (J10.pin (b,o) (List.mem_append_right _ (List.mem_append_right _ (mem_pinsAt hb e)))).2.1
   cases ok with
   | false =>
    have q9' : Nx σ8 H9:=q9
    exact again I9 q9'
   | true =>
    have q9' : te σ8 H9 _:=q9
    have q10:=he' _ s9 σ8 H9 _ I9 q9'
    rw [eP,eW,eA,eX] at q10
    refine thn q10 fun y s10 ⟨yv,H10,I10,r10,ys,hys,hz,n10⟩=>?_
    have q11:=(mt_append (X:=X')) _ s10 σ8 H10 (.ref s.heap.objs.size) [yv] (.ref s.heap.objs.size) [y] (fun _ H11=>Nx σ8 H11) I10 rfl (.cons r10 .nil) ⟨_,ys,yv,rfl,rfl,hys,hz,n10⟩
    rw [eP,eW,eA,eX] at q11
    exact thn q11 fun _ s11 ⟨_,H11,I11,_,n11⟩=>again I11 n11
 rw [eE] at loop
 exact codeAny_compStart_list loop (Tn.self _ 0 _ _ _ st4 loop)
theorem pe_comp (hc : X.calm = true) (S : CScope scope X.env) (hi : PI X target iter wi) (T : ∀ σ,σ.length = X.N.length→Takes X scope N σ (σ0 σ))
  (hg : ∀ C s H fp,PG (cmpCx X scope C N s H fp) target g) (ht : ∀ C s H fp,PTs (cmpCx X scope C N s H fp) ifs tt) (he : ∀ C s H fp,PE (cmpCx X scope C N s H fp) elt te)
  (hs : ∀ x,foldedSetIterable iter X.env x = pure x:=by intro _; rfl) : PE X (.ListComp elt [⟨target,iter,ifs,0⟩] scope pos) (tComp wi σ0 g tt te):=by
 intro pins s σ H Q I h
 rw [eval_ListComp]
 refine wpAny_comprehension_free (use:=none) rfl hs (closureFor_eq S.free) S.kind S.loc (thn (hi pins s σ H _ I h) fun xv s₁ h₁=>thn h₁ fun itv s₂ h₂=>?_)
 obtain ⟨it,fp,tn,J,H2,rfl,I2,Tn,st2,f2,hw⟩:=h₂
 refine comp_block (Q:=fun D H'=>Q (.ref D) H') (RR:=fun acc C=>compPost (model X.prog X.w) X.A X.xe none (EP X pins σ Q) acc C) hc S (T σ I.len) I2 Tn st2 f2 hg ht he hw ?_
 intro D C H' s' m hC _ hn hI hq
 exact ⟨m,hn,fun h' hs'=>⟨.ref D,H',hI h' hs',rfl,hq⟩⟩
theorem ps_setC {i : Nat} {y : Str} {py spos : Pos} (hc : X.calm = true) (S : CScope scope X.env) (hi : PI X target iter wi) (T : ∀ σ,σ.length = X.N.length→Takes X scope N σ (σ0 σ))
  (hg : ∀ C s H fp,PG (cmpCx X scope C N s H fp) target g) (ht : ∀ C s H fp,PTs (cmpCx X scope C N s H fp) ifs tt) (he : ∀ C s H fp,PE (cmpCx X scope C N s H fp) elt te)
  (hN : X.N.Nodup) (hy : X.N[i]? = some y) (hx : Loc X.env.scope y)
  (hsw : swapsWith (.ListComp elt [⟨target,iter,ifs,0⟩] scope pos) (some (.Name y py)) spos.line X.env = pure true:=by rfl)
  (hf : X.fn y = true ∨ X.env.scope.names.lookup y = some .local:=by first | exact .inl rfl | exact .inr rfl | assumption)
  (hs : ∀ x,foldedSetIterable iter X.env x = pure x:=by intro _; rfl) : PS X (.Assign [.Name y py] (.ListComp elt [⟨target,iter,ifs,0⟩] scope pos) spos) (tAsg (tComp wi σ0 g tt te) (gName i)):=by
 intro pins s σ H D I h
 rw [exec_Assign_Name_used _ _ _ _ hsw]
 refine wpAny_bind (wpAny_standAt (wpAny_bind ?_))
 show wpAny _ X.A (do let _ ← comprehension (.ListComp elt [⟨target,iter,ifs,0⟩] scope pos) scope X.env _ (newList []) false (eval iter X.env) (some (assign (.Name y py) X.env))) _ _ s
 refine wpAny_bind (thn (wpAny_comprehension_free (use:=some (assign (.Name y py) X.env)) (Q:=fun _ s'=>SP X pins D .next s') rfl hs (closureFor_eq S.free) S.kind S.loc
  (thn (hi pins s σ H _ I h) fun xv s₁ h₁=>thn h₁ fun itv s₂ h₂=>?_)) fun _ s' hq=>wpAny_pure (wpAny_pure hq))
 obtain ⟨it,fp,tn,J,H2,rfl,I2,Tn,st2,f2,hw⟩:=h₂
 refine comp_block (Q:=fun L H'=>D.nx (σ.set i (some (.ref L))) H') (RR:=fun acc C=>compPost (model X.prog X.w) X.A X.xe (some (assign (.Name y py) X.env)) (fun _ s'=>SP X pins D .next s') acc C) hc S (T σ I.len) I2 Tn st2 f2 hg ht he hw ?_
 intro L C H' s' m hC hfree hn hI hq
 have I3 : Inv X pins σ H' s':=hI s'.heap (.refl ..)
 refine wpAny_assign_Name (store_ok2 I3 hN hy hx (v:=.ref L) rfl (fun s4 I4 hch=>?_) hf)
 obtain ⟨a,hsb,ha⟩:=hch
 have haC : C ≠ a:=by
  rintro rfl
  rcases ha with e | e
  ·have:=I2.lt
   rw [← e] at this
   exact absurd (Nat.lt_of_lt_of_le this hC) (Nat.lt_irrefl _)
  ·obtain ⟨v,z⟩:=I2.cell y _ e
   exact absurd (Nat.lt_of_lt_of_le z.lt hC) (Nat.lt_irrefl _)
 refine ⟨m,hn.sameBut hsb haC,fun h' hs'=>⟨_,H',?_,hq⟩⟩
 have e4 : ({ s4 with heap:=h' } : Shared) = { s4 with heap:=h',toks:=s4.toks }:=rfl
 rw [e4]
 refine I4.turned (it:=C) (fun b o hb e=>(hs'.2 b hb).trans e) hfree ?_ (.inr (Nat.le_trans I2.sz hC)) ?_ ?_
 ·exact Nat.ne_of_gt (Nat.lt_of_lt_of_le I2.lt hC)
 ·rintro x c e rfl
  obtain ⟨v,z⟩:=I2.cell x _ e
  exact absurd (Nat.lt_of_lt_of_le z.lt hC) (Nat.lt_irrefl _)
 ·rintro p hp e
  exact absurd (Nat.lt_of_lt_of_le (Heap.lt_size (I2.pin p hp).1) (by rw [e]; exact hC)) (Nat.lt_irrefl _)
end
end L2
namespace L2
open PySem PySem.Spec PyProof.Rows
section
variable {X : Cx}
theorem kit_same {K : PySem.W.Frag} {T : String} : PySem.W.kitOne K (.type T) (.type T) = some true:=by
 unfold PySem.W.kitOne
 rw [if_pos (by simp)]
theorem kit_of {K : PySem.W.Frag} {T U : String} {b : Bool} {l : List Value} (hm : PySem.W.kitMeta U = true) (hn : ¬ T = U) (hl : fastBuiltinMro T = some l) (hb : l.contains (.type U) = b) : PySem.W.kitOne K (.type T) (.type U) = some b:=by
 unfold PySem.W.kitOne
 rw [if_neg (by simp [hn])]
 show (if PySem.W.kitMeta U = true then PySem.W.subIn K (.type T) (.type U) else none) = some b
 rw [if_pos hm]
 show (fastBuiltinMro T).map (·.contains (.type U)) = some b
 rw [hl,← hb]
 rfl
theorem op_le_str : OpR X (compareOp .LtE) (fun x y H Q=>∃ i j,x = .str i∧y = .str j∧Q (.bl (!(decide (j.cps.toList < i.cps.toList)))) H):=by
 intro pins s σ H x y v u Q I rx ry h
 obtain ⟨i,j,rfl,rfl,q⟩:=h
 obtain ⟨t,rfl⟩:=rx
 obtain ⟨t',rfl⟩:=ry
 exact PySem.P.le_str (fin_bl I q rfl)
theorem op_in_sign : OpR X (compareOp .In) (fun x y H Q=>∃ (c : Nat) (j : Str),x = .str ⟨#[c]⟩∧y = .str j∧Q (.bl (decide (c ∈ j.cps.toList))) H):=by
 intro pins s σ H x y v u Q I rx ry h
 obtain ⟨c,j,rfl,rfl,q⟩:=h
 exact op_in_str pins s σ H _ _ v u Q I rx ry ⟨_,_,rfl,rfl,by rw [StrLaws.found_one]; exact q⟩
noncomputable def rSlS : V→Option Int→Option Int→Hp→VK→Prop:=fun x lo hi H Q=>∃ z,x = .str z∧z.length ≤ sizeLine∧Q (.str (Txt.slice z lo hi)) H
theorem sl_str : SlR X rSlS:=by
 intro pins s σ H x v vl vu lo hi sl Q I rx hs pl pu h
 obtain ⟨z,rfl,hz,q⟩:=h
 obtain ⟨t,rfl⟩:=rx
 obtain ⟨o,ho,hc,hd⟩:=hs
 refine ⟨"str",_,slot_str_getitem.lookup,typeIs_str _ _ _,?_⟩
 cases pl with
 | none =>
  cases pu with
  | none=>exact wpAny_getItem_str_slice (l:=none) (u:=none) (st:=none) ⟨_,ho,hc,hd⟩ rfl (post_val_or_str ⟨Nat.le_trans (Txt.slice_le z _ _) hz,fun t' k=>⟨.str (Txt.slice z _ _),H,I.tok k,⟨t',rfl⟩,q⟩⟩)
  | int j u=>exact wpAny_getItem_str_slice (l:=none) (u:=some (j,u)) (st:=none) ⟨_,ho,hc,hd⟩ rfl (post_val_or_str ⟨Nat.le_trans (Txt.slice_le z _ _) hz,fun t' k=>⟨.str (Txt.slice z _ _),H,I.tok k,⟨t',rfl⟩,q⟩⟩)
 | int i ti =>
  cases pu with
  | none=>exact wpAny_getItem_str_slice (l:=some (i,ti)) (u:=none) (st:=none) ⟨_,ho,hc,hd⟩ rfl (post_val_or_str ⟨Nat.le_trans (Txt.slice_le z _ _) hz,fun t' k=>⟨.str (Txt.slice z _ _),H,I.tok k,⟨t',rfl⟩,q⟩⟩)
  | int j u=>exact wpAny_getItem_str_slice (l:=some (i,ti)) (u:=some (j,u)) (st:=none) ⟨_,ho,hc,hd⟩ rfl (post_val_or_str ⟨Nat.le_trans (Txt.slice_le z _ _) hz,fun t' k=>⟨.str (Txt.slice z _ _),H,I.tok k,⟨t',rfl⟩,q⟩⟩)
end
end L2
namespace L2
open PySem PySem.Spec PyProof.Rows
noncomputable def Its (z : Str) : It:=⟨fun i _=>i < z.cps.size,fun i H x H'=>H' = H∧∃ c,z.cps.toList[i]? = some c∧x = .str ⟨#[c]⟩,fun i _=>i = z.cps.size⟩
theorem strIter_ty (z : Str) : ["enumerate", "zip", "dict_itemiterator", "dict_reverseitemiterator", "odict_iterator", "itertools.zip_longest", "itertools.pairwise"].contains (strIterType z) = false:=by
 unfold strIterType
 cases z.cps.all (· < 128) <;> decide
theorem walks_str {P : Program} {w : World} {A : Around} (hh : A.handled = none) (it : Addr) (z : Str) (t : Tok) : Walks P w A it [it] [it] z.cps.size (SignAt z) (fun i h=>h.IsStrIter it (strIterType z) z t i):=by
 unfold strIterType
 cases z.cps.all (· < 128)
 ·exact Walks.strWide hh it z t
 ·exact Walks.strAscii hh it z t
theorem turn_str {P : Program} {w : World} {K : PySem.W.Frag} {tg : Expr} (it : Addr) (z : Str) (t : Tok) : Turn P w K tg (Its z) [it] it (fun i h=>h.IsStrIter it (strIterType z) z t i) where
 mem:=by simp
 obj:=fun i h st b hb=>by
  have e : b = it:=by simpa using hb
  subst e
  obtain ⟨o,e,c,d⟩:=st
  exact ⟨o,e,fun v z=>by rw [d] at z; cases z⟩
 keep:=fun i h h' st k=>let ⟨o,e,r⟩:=st; ⟨o,k it (by simp) o e,r⟩
 item:=by
  intro X hP hw hK hc i pins s σ H E I hf st hg
  subst hP hw hK
  obtain ⟨f0,f1,f2,f3,f4,f5⟩:=hf it (by simp)
  refine (walks_str (P:=X.prog) (w:=X.w) (I.ok.hd hc) it z t).item i s _ _ hg st fun v h' tk hv st' kk=>?_
  obtain ⟨c,u,hcu,rfl⟩:=hv
  have I1 : Inv X pins σ H { s with heap:=h',toks:=tk }:=I.turned (fun b o hb e=>kk b o (by simpa using hb) e) f0 f1 f3 f4 f5
  obtain ⟨o,e,cc,d⟩:=id st'
  exact ⟨_,rfl,go_of (s:={ s with heap:=h',toks:=tk }) e cc d (strIter_ty z) ⟨.str ⟨#[c]⟩,H,I1,⟨u,rfl⟩,⟨rfl,c,by simpa using hcu,rfl⟩,st',fun b hb=>(hf b hb).1⟩⟩
 done:=by
  intro X hP hw hK hc i pins s σ H E I hf st hg
  subst hP hw hK
  obtain ⟨f0,f1,f2,f3,f4,f5⟩:=hf it (by simp)
  have hg : i = z.cps.size:=hg
  subst hg
  exact (walks_str (P:=X.prog) (w:=X.w) (I.ok.hd hc) it z t).done s _ _ st fun h' tk kk=>⟨rfl,I.turned (fun b o hb e=>kk b o (by simpa using hb) e) f0 f1 f3 f4 f5⟩
 self:=fun A i s Q E st h=>by
  obtain ⟨o,e,c,d⟩:=st
  unfold strIterType at c
  cases ha : z.cps.all (· < 128)
  ·rw [ha] at c; exact wpAny_pyIter_striter_wide ⟨o,e,c,d⟩ h
  ·rw [ha] at c; exact wpAny_pyIter_striter_ascii ⟨o,e,c,d⟩ h
section
variable {X : Cx} {tg : Expr}
end
section
variable {g : TG} {tt : TT} {te : TE} {σ0 : St} {H1 : Hp} {D : Addr} {Q : VK}
noncomputable def CompT (g : TG) (tt : TT) (te : TE) (D : Addr) (Nx : List V→St→Hp→Prop) (x : V) (σ : St) (H : Hp) : Prop :=
 g x σ H fun σ2 H3=>tt σ2 H3 fun b H4=>if b = true then te σ2 H4 fun y H5=>∃ ys,H5 D = some (.lst ys)∧ys.length < sizeLine∧(∃ zs,upd H5 D (.lst (ys ++ [y])) D = some (.lst zs)∧Nx zs σ2 (upd H5 D (.lst (ys ++ [y])))) else ∃ zs,H4 D = some (.lst zs)∧Nx zs σ2 H4
theorem comp_list {K : PySem.W.Frag} {a : Addr} {xs : List V} (Pv : Nat→List V→St→Hp→Prop) (h0 : Pv 0 [] σ0 (upd H1 D (.lst []))) (hl : ∀ i ys σ H,i ≤ xs.length→Pv i ys σ H→SqL K H a xs)
  (hs : ∀ i x ys σ H,xs[i]? = some x→H D = some (.lst ys)→Pv i ys σ H→CompT g tt te D (Pv (i + 1)) x σ H)
  (hd : ∀ ys σ H,H D = some (.lst ys)→Pv xs.length ys σ H→Q (.ref D) H) : CompW (Itl K a) g tt te σ0 H1 D Q:=by
 refine ⟨fun i m σ H=>m = xs.length - i∧i ≤ xs.length∧∃ ys,H D = some (.lst ys)∧Pv i ys σ H,⟨xs.length,by simp,Nat.zero_le _,[],upd_same,h0⟩,?_⟩
 rintro i m σ H ⟨rfl,hi,ys,hD,p⟩
 have q:=hl i ys σ H hi p
 by_cases hlt : i < xs.length
 ·refine .inr ⟨⟨xs,xs[i],q,by simp [hlt]⟩,fun σ2 H2=>∃ zs,H2 D = some (.lst zs)∧Pv (i + 1) zs σ2 H2,fun σ' H' p'=>⟨xs.length - (i + 1),by omega,rfl,hlt,p'⟩,fun x H' y=>?_⟩
  obtain ⟨e,y⟩:=y
  subst e
  exact hs i x ys σ _ (y xs q) hD p
 ·have e : i = xs.length:=by omega
  subst e
  exact .inl ⟨⟨xs,q,Nat.le_refl _⟩,hd ys σ H hD p⟩
end
section
variable {X : Cx}
theorem vals_bl : ∀ {bs : List Bool} {us : List Value},Vals (bs.map V.bl) us→us = bs.map Value.bool
 | [],_,.nil=>rfl
 | b :: bs,_,.cons r t=>by
  cases r
  rw [vals_bl t]
  rfl
theorem range_all {bs : List Bool} : (List.range bs.length).all (fun i=>bs.getD i true) = bs.all id:=by
 induction bs with
 | nil=>rfl
 | cons b r ih =>
  rw [List.length_cons,List.range_succ_eq_map,List.all_cons,List.all_map,List.all_cons]
  have : ((fun i=>(b :: r).getD i true) ∘ Nat.succ) = fun i=>r.getD i true:=by
   funext i
   simp
  rw [this,ih]
  rfl
theorem call_all (hc : X.calm = true) : CallR X (.builtin "all") (fun xs H Q=>∃ (p : Addr) (bs : List Bool),xs = [.ref p]∧SqL X.K H p (bs.map V.bl)∧Q (.bl (bs.all id)) H):=by
 intro pins s σ H xs us Q I r h
 obtain ⟨p,bs,rfl,hq,q⟩:=h
 obtain ⟨u,rfl,ru⟩:=r.one
 cases ru
 obtain ⟨its,rv,pl,hz⟩:=I.list hq
 obtain rfl:=vals_bl rv
 refine call_all_walk (wpAny_pyIter_list pl.isList ?_)
 have hlt : p < s.heap.objs.size:=by obtain ⟨o,e,_⟩:=pl.isList; exact Heap.lt_size e
 have hl' : (s.heap.push { cls:=.type "list_iterator",data:=.fields #[.ref p,rawInt 0] }).IsList p (bs.map Value.bool).toArray:=pl.isList.at fun o e=>Heap.get?_push_of_some _ e
 refine ⟨s.heap.objs.size,_,_,_,_,_,fun i=>bs.getD i true,rfl,Walks.list (A:=X.A.in1) (show X.A.in1.handled = none from I.ok.hd hc) s.heap.objs.size p (Nat.ne_of_lt hlt) (bs.map Value.bool).toArray,⟨⟨_,Heap.get?_push_size _ rfl,rfl,rfl⟩,?_⟩,?_,?_⟩
 ·exact pl.isList.at fun o e=>Heap.get?_push_of_some _ e
 ·intro i v s' Q' E' hv hQ
  have hv' : (bs.map Value.bool)[i]? = some v:=by simpa using hv
  rw [List.getElem?_map] at hv'
  cases e : bs[i]? with
  | none=>rw [e] at hv'; cases hv'
  | some b =>
   rw [e] at hv'
   cases hv'
   have : bs.getD i true = b:=by simp [List.getD,e]
   have hQ : Q' (bs.getD i true) s':=hQ
   rw [this] at hQ
   exact wpAny_truthy_bool hQ
 ·intro h' tk hk
  have I1 : Inv X pins σ H { s with heap:=s.heap.push { cls:=.type "list_iterator",data:=.fields #[.ref p,rawInt 0] } }:=I.kept (t':=s.toks) fun b o e=>Heap.get?_push_of_some _ e
  have F:=I.fpOk (Nat.le_refl s.heap.objs.size) (I.hok.fresh (Nat.le_refl _))
  obtain ⟨f0,f1,f2,f3,f4,f5⟩:=F
  have I2 : Inv X pins σ H { s with heap:=h',toks:=tk }:=Inv.turned (s:={ s with heap:=s.heap.push { cls:=.type "list_iterator",data:=.fields #[.ref p,rawInt 0] } }) (h':=h') (t':=tk) (it:=s.heap.objs.size) I1 (fun b o hb e=>hk b o (by simpa using hb) e) f0 f1 f3 f4 f5
  refine ⟨.bl (bs.all id),H,I2,?_,q⟩
  show Value.bool _ = Value.bool _
  have : (bs.map Value.bool).toArray.size = bs.length:=by simp
  rw [this,range_all]
end
end L2
namespace L2
open PySem PySem.Spec PyProof.Rows
theorem Same.upd {H : Hp} {p : Addr} {o : HO} (h : H p = none) : Same H (upd H p o):=fun b u e=>by rw [upd_ne (ne_of_none e h)]; exact e
theorem Same.put {H0 H : Hp} {p : Addr} {o : HO} (s : Same H0 H) (h : H p = none) : Same H0 (L2.upd H p o):=s.trans (Same.upd h)
theorem Same.over {H0 H : Hp} {p : Addr} {o : HO} (s : Same H0 H) (h : H0 p = none) : Same H0 (L2.upd H p o):=fun b u e=>by rw [upd_ne (ne_of_none e h)]; exact s b u e
theorem Same.tup {K : PySem.W.Frag} {H H' : Hp} {a : Addr} {xs : List V} (e : Same H H') (h : SqT K H a xs) : SqT K H' a xs:=by
 rcases h with (h | ⟨o,h⟩) | h
 ·exact .inl (.inl (e _ _ h))
 ·exact .inl (.inr ⟨o,e _ _ h⟩)
 ·exact .inr h
theorem cscope_fn {sc out : Scope} {qual : Str} {n : Nat} {f : Addr} {cd : Value} (hk : sc.kind = .function) (hc : (sc.names.all fun y=>y.2 != .cell) = true)
  (hl : (sc.names.all fun y=>y.2 != .local || sc.names.lookup y.1 == some .local) = true) (hf : (sc.names.all fun y=>y.2 != .free || out.names.lookup y.1 == some .cell) = true) : CScope sc (envOfC qual out n f cd) where
 kind:=hk
 nocell:=fun y hy e=>by have:=List.all_eq_true.mp hc y hy; rw [e] at this; cases this
 loc:=fun y hy e=>by
  have:=List.all_eq_true.mp hl y hy
  rw [e] at this
  simpa using this
 free:=fun y hy e=>by
  have h:=List.all_eq_true.mp hf y hy
  rw [e] at h
  have h : out.names.lookup y.1 = some .cell:=by simpa using h
  obtain ⟨c,hc⟩:=cell_has (n:=n + 1) h
  show ((cellsFrom (n + 1) out.names []).lookup y.1).isSome = true
  rw [hc]
  rfl
noncomputable def capSt (k : Nat) (cap : List Nat) (σ : St) : St:=List.replicate k none ++ cap.map fun j=>(σ[j]?).join
theorem takes_of {X : Cx} {scope : Scope} {N : List Str} {k : Nat} {cap : List Nat} {σ : St} (hl : k + cap.length = N.length)
  (h : ∀ (i j : Nat) (x : Str),cap[i]? = some j→N[k + i]? = some x→X.N[j]? = some x∧scope.names.lookup x = some .free∧(X.env.kindOf x = some .cell ∨ X.env.kindOf x = some .free)) : Takes X scope N σ (capSt k cap σ):=by
 refine ⟨by unfold capSt; simp [hl],fun i x v hx hv=>?_⟩
 unfold capSt at hv
 by_cases hi : i < k
 ·rw [List.getElem?_append_left (by simpa using hi),List.getElem?_replicate,if_pos hi] at hv
  cases hv
 ·rw [List.getElem?_append_right (by simpa using hi),List.length_replicate,List.getElem?_map] at hv
  cases hj : cap[i - k]? with
  | none=>rw [hj] at hv; cases hv
  | some j =>
   rw [hj] at hv
   have hv : (σ[j]?).join = some v:=Option.some.inj hv
   obtain ⟨h1,h2,h3⟩:=h (i - k) j x hj (by rw [show k + (i - k) = i by omega]; exact hx)
   refine ⟨j,h1,?_,h2,h3⟩
   cases e : σ[j]? with
   | none=>rw [e] at hv; cases hv
   | some o=>rw [e] at hv; exact congrArg some hv
theorem takes_in {X : Cx} {scope : Scope} {N : List Str} {k : Nat} {cap : List Nat} (hl : k + cap.length = N.length)
  (h : ((cap.zip (N.drop k)).all fun p=>X.N[p.1]? == some p.2 && scope.names.lookup p.2 == some .free && (X.env.kindOf p.2 == some .cell || X.env.kindOf p.2 == some .free)) = true) : ∀ σ,σ.length = X.N.length→Takes X scope N σ (capSt k cap σ):=fun σ _ =>
 takes_of hl fun i j x hj hx=>by
  have m : (j,x) ∈ cap.zip (N.drop k):=by
   refine List.mem_of_getElem? (i:=i) ?_
   rw [List.getElem?_zip_eq_some]
   exact ⟨hj,by rw [List.getElem?_drop]; exact hx⟩
  have:=List.all_eq_true.mp h _ m
  simp only [Bool.and_eq_true,Bool.or_eq_true,beq_iff_eq] at this
  exact ⟨this.1.1,this.1.2,this.2⟩
theorem atI_in {α : Type} {xs : List α} {i : Int} (h0 : 0 ≤ i) (h1 : i < xs.length) : ∃ v,atI xs i = some v∧v ∈ xs:=by
 have hj : i.toNat < xs.length:=by omega
 refine ⟨xs[i.toNat],?_,List.getElem_mem hj⟩
 have:=atI_nat (xs:=xs) (j:=i.toNat) (v:=xs[i.toNat]) (by simp [hj])
 rwa [Int.toNat_of_nonneg h0] at this
noncomputable def constV : Expr→Option V
 | .Constant (.str x) _ _=>some (.str x)
 | .Constant (.int i) _ _=>some (.int i)
 | .Constant (.bool b) _ _=>some (.bl b)
 | .Constant .none _ _=>some .non
 | _=>none
noncomputable def constsV : List Expr→Option (List V)
 | []=>some []
 | e :: es=>match constV e,constsV es with
  | some v,some vs=>some (v :: vs)
  | _,_=>none
noncomputable def tVals (xs : List V) : TA:=fun _ H Q=>Q xs H
theorem constV_ok {X : Cx} {e : Expr} {v : V} (h : constV e = some v) : PE X e (tC v)∧∀ es,starEach (e :: es) X.env = (false,eval e X.env) :: starEach es X.env:=by
 unfold constV at h
 split at h
 ·cases h; exact ⟨pe_str,fun _=>rfl⟩
 ·cases h; exact ⟨pe_int,fun _=>rfl⟩
 ·cases h; exact ⟨pe_bl,fun _=>rfl⟩
 ·cases h; exact ⟨pe_non,fun _=>rfl⟩
 ·cases h
theorem pa_consts {X : Cx} : ∀ {es : List Expr} {xs : List V},constsV es = some xs→PA X es (tVals xs)
 | [],xs,h=>by
  have h : some [] = some xs:=h
  cases h
  exact pa_nil
 | e :: es,xs,h=>by
  unfold constsV at h
  split at h
  ·rename_i v vs h1 h2
   cases h
   obtain ⟨p,hs⟩:=constV_ok (X:=X) h1
   exact pa_cons p (pa_consts h2) (hs es)
  ·cases h
structure Callee (P : Program) (w : World) (K : PySem.W.Frag) (mg : Str→Option Value) (base : Heap) (k : Nat) (x : Str) (ps : List Str) (sp : Sp) : Prop where
 ex : ∃ (f : Addr) (fd : FuncData),FnOk P w K mg base CX0 k f fd ps sp∧mg x = some (.ref f)∧PySem.W.keepIn K (.ref f) = true∧Binds K fd ps []
section
variable {X : Cx} {k : Nat} {x : Str} {ps : List Str} {sp : Sp} {p pos : Pos} {e : Expr} {es : List Expr} {t : TA}
theorem pe_fn (C : Callee X.prog X.w X.K X.mg X.base k x ps sp) (hr : Room k X.A) (ha : PA X (e :: es) t) (hg : Gl X x:=by rfl) (hdb : (x == ("__debug__" : Str)) = false:=by decide)
  (he : starEach (e :: es) X.env = (false,eval e X.env) :: starEach es X.env:=by rfl) (hpl : (backTo pos (starEach es X.env)).any (·.1) = false:=by rfl) : PE X (.Call (.Name x p) (e :: es) [] pos) (tCall sp [] E0 t):=by
 obtain ⟨f,fd,F,hm,hk,hb⟩:=C.ex
 exact pe_call F hr hg hm hk hb .nil pass0 ha hdb he hpl
end
end L2
namespace L2
open PySem
theorem relV_abs {x : V} {u : Value} (h : absV u = some x) : RelV x u:=by
 cases u <;> simp only [absV] at h <;> first | (cases h; first | rfl | exact ⟨_,rfl⟩) | cases h
noncomputable def absAll : List Value→Option (List V)
 | []=>some []
 | u :: r=>match absV u,absAll r with
  | some x,some xs=>some (x :: xs)
  | _,_=>none
theorem vals_abs : ∀ {us : List Value} {xs : List V},absAll us = some xs→Vals xs us
 | [],xs,h=>by
  have h : some [] = some xs:=h
  cases h
  exact .nil
 | u :: r,xs,h=>by
  unfold absAll at h
  split at h
  ·rename_i x ys h1 h2
   cases h
   exact .cons (relV_abs h1) (vals_abs h2)
  ·cases h
theorem top_tuple {K : PySem.W.Frag} {a : Addr} {od : Option Addr} {its : Array Value} {n : Nat} {sl : Array (Option Value)} {xs : List V} (l : K.lookup a = some ⟨.type "tuple",od,.seq its n,sl⟩) (h : absAll its.toList = some xs) (hz : xs.length ≤ 1000) : ∀ H,SqT K H a xs:=fun H=>by
 have v:=vals_abs h
 refine .inr ⟨_,its,n,l,rfl,rfl,?_,v⟩
 have e:=v.length
 have b : 1000 ≤ sizeLine:=by decide
 have e2 : its.toList.length = its.size:=Array.length_toList
 omega
theorem callee_of {P : Program} {w : World} {K : PySem.W.Frag} {mg : Str→Option Value} {base : Heap} {k : Nat} {x : Str} {ps : List Str} {sp : Sp} {f : Addr} {fd : FuncData} (F : FnOk P w K mg base CX0 k f fd ps sp) (m : mg x = some (.ref f)) (kp : PySem.W.keepIn K (.ref f) = true) (b : Binds K fd ps []) : Callee P w K mg base k x ps sp:=⟨f,fd,F,m,kp,b⟩
section
variable {P : Program} {w : World} {K : PySem.W.Frag} {mg : Str→Option Value} {base : Heap}
end
end L2
set_option autoImplicit true
namespace L2
open PySem PySem.Spec PyProof.Rows
structure QE (X : Cx) (e : Expr) (t : TE) : Prop where
 run : PE X e t
structure QT (X : Cx) (e : Expr) (t : TT) : Prop where
 run : PT X e t
structure QW (X : Cx) (e : Expr) (t : TT) : Prop where
 run : PW X e t
structure QA (X : Cx) (es : List Expr) (t : TA) : Prop where
 run : PA X es t
structure QS (X : Cx) (st : Stmt) (t : TS) : Prop where
 run : PS X st t
structure QSs (X : Cx) (sts : List Stmt) (t : TS) : Prop where
 run : PSs X sts t
structure QG (X : Cx) (e : Expr) (g : TG) : Prop where
 run : PG X e g
structure QGs (X : Cx) (es : List Expr) (g : TGs) : Prop where
 run : PGs X es g
structure QI (X : Cx) (tg iter : Expr) (wi : TI) : Prop where
 run : PI X tg iter wi
structure QC (X : Cx) (op : CmpOp) (a b : Expr) (t : TE) : Prop where
 run : PC X op a b t
structure QO (X : Cx) (e : Option Expr) (t : TO) : Prop where
 run : PO X e t
structure QTs (X : Cx) (ifs : List Expr) (t : TT) : Prop where
 run : PTs X ifs t
theorem qe_int {i j pos} : QE X (.Constant (.int i) j pos) (tC (.int i)):=⟨pe_int⟩
theorem qe_bl {b j pos} : QE X (.Constant (.bool b) j pos) (tC (.bl b)):=⟨pe_bl⟩
theorem qe_non {j pos} : QE X (.Constant .none j pos) (tC .non):=⟨pe_non⟩
theorem qe_str {x j pos} : QE X (.Constant (.str x) j pos) (tC (.str x)):=⟨pe_str⟩
theorem qe_bltn {x : Str} {v : V} {u : Value} {pos : Pos} (hg : Gl X x) (hm : X.mg x = none) (hv : bootBuiltins x = some u) (r : RelV v u) (hn : x ≠ "__name__":=by decide) (hd : (x == ("__debug__" : Str)) = false:=by decide) : QE X (.Name x pos) (tC v):=⟨pe_bltn hg hm hv r hn hd⟩
theorem qe_op {op : Operator} {r : R2} (ho : OpR X (binaryOp op) r) (ha : QE X a ta) (hb : QE X b tb) : QE X (.BinOp a op b pos) (tOp r ta tb):=⟨pe_op ho ha.run hb.run⟩
theorem qe_un {op : UnaryOp} {r : V→Hp→VK→Prop} (ho : UnR X (unaryOp op) r) (ha : QE X a ta) : QE X (.UnaryOp op a pos) (tUn r ta):=⟨pe_un ho ha.run⟩
theorem qe_cmp {op : CmpOp} {t : TE} (h : QC X op a b t) (h1 : behindInMarks op b = false:=by first | exact nobehind _ (by decide) (by decide) | rfl) : QE X (.Compare a [op] [b] pos) t:=⟨pe_cmp h.run h1⟩
theorem qt_cmp {op : CmpOp} {t : TE} (h : QC X op a b t) (h1 : behindInMarks op b = false:=by first | exact nobehind _ (by decide) (by decide) | rfl) : QT X (.Compare a [op] [b] pos) (tB t):=⟨pt_cmp h.run h1⟩
theorem qe_cmpR {op : CmpOp} {r : R2} (ho : OpR X (compareOp op) r) (ha : QE X a ta) (hb : QE X b tb) (hm : behindInMarks op b = false) : QE X (.Compare a [op] [b] pos) (tOp r ta tb):=⟨pe_cmpR ho ha.run hb.run hm⟩
theorem qt_cmpR {op : CmpOp} {r : R2} (ho : OpR X (compareOp op) r) (ha : QE X a ta) (hb : QE X b tb) (hm : behindInMarks op b = false) : QT X (.Compare a [op] [b] pos) (tTest (tOp r ta tb)):=⟨pt_cmpR ho ha.run hb.run hm⟩
theorem qe_chain {op op' : CmpOp} {r r' : R2} (ho : OpR X (compareOp op) r) (ho' : OpR X (compareOp op') r') (ha : QE X a ta) (hb : QE X b tb) (hc : QE X c tc) (hm : lastMarks [op,op'] [b,c] = false:=by with_unfolding_all rfl) : QE X (.Compare a [op,op'] [b,c] pos) (tChain r r' ta tb tc):=⟨pe_chain ho ho' ha.run hb.run hc.run hm⟩
theorem qt_val {e : Expr} {t : TE} (h : QE X e t) (he : ∀ whole,isTrue e X.env whole = (do let v ← whole; standAt e.pos; holding [v] (truthy v)):=by intro _; rfl) : QT X e (tB t):=⟨pt_val h.run he⟩
theorem qw_and1 (ha : QT X a tA) : QW X (.BoolOp .And [a] pos) tA:=⟨pw_and1 ha.run⟩
theorem qw_or1 (ha : QT X a tA) : QW X (.BoolOp .Or [a] pos) tA:=⟨pw_or1 ha.run⟩
theorem qw_and {rest : List Expr} (ha : QT X a tA) (hb : QW X (.BoolOp .And (b :: rest) pos) tB') : QW X (.BoolOp .And (a :: b :: rest) pos) (tAnd tA tB'):=⟨pw_and ha.run hb.run⟩
theorem qw_or {rest : List Expr} (ha : QT X a tA) (hb : QW X (.BoolOp .Or (b :: rest) pos) tB') : QW X (.BoolOp .Or (a :: b :: rest) pos) (tOr tA tB'):=⟨pw_or ha.run hb.run⟩
theorem qt_not (ha : QT X a tA) : QT X (.UnaryOp .Not a pos) (tNot tA):=⟨pt_not ha.run⟩
theorem qe_one {op} {t : TE} (h : QE X a t) : QE X (.BoolOp op [a] pos) t:=⟨pe_one h.run⟩
theorem qe_and {rest : List Expr} (ha : QE X a ta) (hb : QE X (.BoolOp .And (b :: rest) pos) tb) : QE X (.BoolOp .And (a :: b :: rest) pos) (tAndV ta tb):=⟨pe_and ha.run hb.run⟩
theorem qe_or {rest : List Expr} (ha : QE X a ta) (hb : QE X (.BoolOp .Or (b :: rest) pos) tb) : QE X (.BoolOp .Or (a :: b :: rest) pos) (tOrV ta tb):=⟨pe_or ha.run hb.run⟩
theorem qe_not (ha : QE X a ta) : QE X (.UnaryOp .Not a pos) (tNotV ta):=⟨pe_not ha.run⟩
theorem qe_ifExp {c : Expr} (hc : QT X c tA) (ha : QE X a ta) (hb : QE X b tb) : QE X (.IfExp c a b pos) (tIf tA ta tb):=⟨pe_ifExp hc.run ha.run hb.run⟩
theorem qss_nil  : QSs X [] tNext:=⟨pss_nil⟩
theorem qss_cons {st : Stmt} {rest : List Stmt} {t u : TS} (h1 : QS X st t) (h2 : QSs X rest u) : QSs X (st :: rest) (tSeq t u):=⟨pss_cons h1.run h2.run⟩
theorem qss_one {st : Stmt} {t : TS} (h1 : QS X st t) : QSs X [st] t:=⟨pss_one h1.run⟩
theorem qs_expr {e : Expr} {te : TE} (he : QE X e te) (hs : swapsWith e none pos.line X.env = pure false:=by rfl) : QS X (.Expr e pos) (tDrop te):=⟨ps_expr he.run hs⟩
theorem qs_ret {e : Expr} {te : TE} (he : QE X e te) : QS X (.Return (some e) pos) (tRet te):=⟨ps_ret he.run⟩
theorem qs_if {t u : TS} {c : Expr} {a b : List Stmt} {tc : TT} (hc : QT X c tc) (ha : QSs X a t) (hb : QSs X b u) : QS X (.If c a b pos) (tIfS tc t u):=⟨ps_if hc.run ha.run hb.run⟩
theorem qgs_nil  : QGs X [] gNil:=⟨pgs_nil⟩
theorem qgs_cons {e : Expr} {es : List Expr} {t : TG} {u : TGs} (h1 : QG X e t) (h2 : QGs X es u) (hs : (assignEach (e :: es) X.env).map (·.2) = assign e X.env :: (assignEach es X.env).map (·.2):=by rfl) : QGs X (e :: es) (gCons t u):=⟨pgs_cons h1.run h2.run hs⟩
theorem qg_name {i : Nat} {x : Str} (hN : X.N.Nodup) (hi : X.N[i]? = some x) (hx : Loc X.env.scope x) (hf : X.fn x = true ∨ X.env.scope.names.lookup x = some .local:=by first | exact .inl rfl | exact .inr rfl | assumption) : QG X (.Name x pos) (gName i):=⟨pg_name hN hi hx hf⟩
theorem qg_tup {es : List Expr} {k : Nat} {t : TGs} {n : Nat} (hc : X.calm = true) (h : QGs X es t) (hn : (assignEach es X.env).length = n:=by rfl) (hst : (assignEach es X.env).findIdx? (·.1) = none:=by rfl) : QG X (.Tuple es k pos) (gTup X.K n t):=⟨pg_tup hc h.run hn hst⟩
theorem qs_asg {tg e : Expr} {te : TE} {g : TG} (he : QE X e te) (hg : QG X tg g) (hs : swapsWithSole [tg] e pos.line X.env = pure false:=by rfl) (hw : swappedStores [tg] e X.env = pure none:=by rfl) (h1 : (assignEach [tg] X.env).map (·.2) = [assign tg X.env]:=by rfl) : QS X (.Assign [tg] e pos) (tAsg te g):=⟨ps_asg he.run hg.run hs hw h1⟩
theorem qs_set {i : Nat} {x : Str} {e : Expr} {te : TE} {pos' : Pos} (hN : X.N.Nodup) (hi : X.N[i]? = some x) (hx : Loc X.env.scope x) (he : QE X e te) (hs : swapsWith e (some (.Name x pos')) pos.line X.env = pure false:=by rfl) (hf : X.fn x = true ∨ X.env.scope.names.lookup x = some .local:=by first | exact .inl rfl | exact .inr rfl | assumption) : QS X (.Assign [.Name x pos'] e pos) (tAsg te (gName i)):=⟨ps_set hN hi hx he.run hs hf⟩
theorem qs_while {c : Expr} {body : List Stmt} {tc : TT} {tb : TS} (hp : PassesOwn (model X.prog X.w) X.A X.env X.xe) (hc : QT X c tc) (hb : QSs X body tb) : QS X (.While c body [] pos) (tWhile tc tb):=⟨ps_while hp hc.run hb.run⟩
theorem qi_range1 {a : Expr} {ta : TA} {p pos : Pos} (hg : Gl X "range") (hm : X.mg "range" = none) (ha : QA X [a] ta) (hs : starEach [a] X.env = [(false,eval a X.env)]:=by rfl) : QI X tg (.Call (.Name "range" p) [a] [] pos) (iRng1 ta):=⟨pi_range1 hg hm ha.run hs⟩
theorem qs_for {iter : Expr} {body : List Stmt} {wi : TI} {g : TG} {tb : TS} {pos : Pos} (hp : PassesOwn (model X.prog X.w) X.A X.env X.xe) (hc : X.calm = true) (hi : QI X tg iter wi) (hg : QG X tg g) (hb : QSs X body tb) (hs : ∀ x,foldedSetIterable iter X.env x = pure x:=by intro _; rfl) : QS X (.For tg iter body [] pos) (tFor wi g tb):=⟨ps_for hp hc hi.run hg.run hb.run hs⟩
theorem qe_fld (he : QE X e ta) (hb : attributeBase e f X.env (eval e X.env) = eval e X.env) : QE X (.Attribute e f pos) (tFld X.K ta f):=⟨pe_fld he.run hb⟩
theorem qs_fld (ha : QE X o ta) (hv : QE X value tv) (hs : swapsWith value (some (.Attribute o f pos')) pos.line X.env = pure false) : QS X (.Assign [.Attribute o f pos'] value pos) (sFld X.K ta tv f):=⟨ps_fld ha.run hv.run hs⟩
theorem qa_nil  : QA X [] tNil:=⟨pa_nil⟩
theorem qa_cons (ha : QE X e te) (hr : QA X es t) (hs : starEach (e :: es) X.env = (false,eval e X.env) :: starEach es X.env:=by rfl) : QA X (e :: es) (tCons te t):=⟨pa_cons ha.run hr.run hs⟩
theorem qe_tup {x1} (h : QA X es t) : QE X (.Tuple es x1 pos) (tTup t):=⟨pe_tup h.run⟩
theorem qe_lst (h : QA X es t) : QE X (.List es pos) (tLst t):=⟨pe_lst h.run⟩
theorem qe_fn (C : Callee X.prog X.w X.K X.mg X.base k x ps sp) (hr : Room k X.A) (ha : QA X (e :: es) t) (hg : Gl X x:=by rfl) (hdb : (x == ("__debug__" : Str)) = false:=by decide) (he : starEach (e :: es) X.env = (false,eval e X.env) :: starEach es X.env:=by rfl) (hpl : (backTo pos (starEach es X.env)).any (·.1) = false:=by rfl) : QE X (.Call (.Name x p) (e :: es) [] pos) (tCall sp [] E0 t):=⟨pe_fn C hr ha.run hg hdb he hpl⟩
theorem qe_callB {id : String} (hc : CallR X (.builtin id) r) (hg : Gl X x) (hm : X.mg x = none) (hv : bootBuiltins x = some (.builtin id)) (ha : QA X (e :: es) t) (hn : x ≠ "__name__":=by decide) (hdb : (x == ("__debug__" : Str)) = false:=by decide) (he : starEach (e :: es) X.env = (false,eval e X.env) :: starEach es X.env:=by rfl) (hpl : (backTo pos (starEach es X.env)).any (·.1) = false:=by rfl) : QE X (.Call (.Name x p) (e :: es) [] pos) (tCB r t):=⟨pe_callB hc hg hm hv ha.run hn hdb he hpl⟩
theorem qe_callTy {T : String} (hc : CallR X (.type T) r) (hg : Gl X x) (hm : X.mg x = none) (hv : bootBuiltins x = some (.type T)) (ha : QA X (e :: es) t) (hn : x ≠ "__name__":=by decide) (hdb : (x == ("__debug__" : Str)) = false:=by decide) (he : starEach (e :: es) X.env = (false,eval e X.env) :: starEach es X.env:=by rfl) (hpl : (backTo pos (starEach es X.env)).any (·.1) = false:=by rfl) : QE X (.Call (.Name x p) (e :: es) [] pos) (tCB r t):=⟨pe_callTy hc hg hm hv ha.run hn hdb he hpl⟩
theorem qo_none  : QO X none tNoPart:=⟨po_none⟩
theorem qo_some (h : QE X e te) : QO X (some e) (tPart te):=⟨po_some h.run⟩
theorem qe_slice {lo hi : Option Expr} {r : V→Option Int→Option Int→Hp→VK→Prop} (hr : SlR X r) (he : QE X e te) (hl : QO X lo tl) (hu : QO X hi th) : QE X (.Subscript e (.Slice lo hi none p2) pos) (tSl r te tl th):=⟨pe_slice hr he.run hl.run hu.run⟩
theorem qe_ix {r : R2} (hr : IxR X r) (ha : QE X a ta) (hb : QE X b tb) (hs : PlainIx b) : QE X (.Subscript a b pos) (tOp r ta tb):=⟨pe_ix hr ha.run hb.run hs⟩
theorem qe_bm {T id : String} (pa : PlainAttrs T) (slot : Slot T name id) (hty : typeOf (.builtin id) = pure (.type "method_descriptor")) (hm : MtR X id r) (ho : QE X o to) (ha : QA X (e :: es) t) (hbase : attributeBase o name X.env (eval o X.env) = eval o X.env:=by rfl) (hfew : ((backTo cpos (starEach (e :: es) X.env)).all (fun x=>!x.1) && (backToKw cpos (keywordEach [] X.env)).all (fun x=>x.1.isSome)
   && decide ((e :: es).length + ([] : List Keyword).length + (if ([] : List Keyword).isEmpty then 0 else 1) < 30)) = true:=by rfl) (hline : (apos.endLine == cpos.line) = true:=by rfl) (hs : starEach (e :: es) X.env = (false,eval e X.env) :: starEach es X.env:=by rfl) (hplain : (backTo cpos (starEach es X.env)).any (·.1) = false:=by rfl) : QE X (.Call (.Attribute o name apos) (e :: es) [] cpos) (tBM X.K T r to t):=⟨pe_bm pa slot hty hm ho.run ha.run hbase hfew hline hs hplain⟩
theorem qe_bm0 {T id : String} (pa : PlainAttrs T) (slot : Slot T name id) (hty : typeOf (.builtin id) = pure (.type "method_descriptor")) (hm : MtR X id r) (ho : QE X o to) (hbase : attributeBase o name X.env (eval o X.env) = eval o X.env:=by rfl) (hline : (apos.endLine == cpos.line) = true:=by rfl) : QE X (.Call (.Attribute o name apos) [] [] cpos) (tBM0 X.K T r to):=⟨pe_bm0 pa slot hty hm ho.run hbase hline⟩
theorem qe_comp (hc : X.calm = true) (S : CScope scope X.env) (hi : QI X target iter wi) (T : ∀ σ,σ.length = X.N.length→Takes X scope N σ (σ0 σ)) (hg : ∀ C s H fp,QG (cmpCx X scope C N s H fp) target g) (ht : ∀ C s H fp,QTs (cmpCx X scope C N s H fp) ifs tt) (he : ∀ C s H fp,QE (cmpCx X scope C N s H fp) elt te) (hs : ∀ x,foldedSetIterable iter X.env x = pure x:=by intro _; rfl) : QE X (.ListComp elt [⟨target,iter,ifs,0⟩] scope pos) (tComp wi σ0 g tt te):=⟨pe_comp hc S hi.run T (fun C s H fp=>(hg C s H fp).run) (fun C s H fp=>(ht C s H fp).run) (fun C s H fp=>(he C s H fp).run) hs⟩
theorem qs_setC {i : Nat} {y : Str} {py spos : Pos} (hc : X.calm = true) (S : CScope scope X.env) (hi : QI X target iter wi) (T : ∀ σ,σ.length = X.N.length→Takes X scope N σ (σ0 σ)) (hg : ∀ C s H fp,QG (cmpCx X scope C N s H fp) target g) (ht : ∀ C s H fp,QTs (cmpCx X scope C N s H fp) ifs tt) (he : ∀ C s H fp,QE (cmpCx X scope C N s H fp) elt te) (hN : X.N.Nodup) (hy : X.N[i]? = some y) (hx : Loc X.env.scope y) (hsw : swapsWith (.ListComp elt [⟨target,iter,ifs,0⟩] scope pos) (some (.Name y py)) spos.line X.env = pure true:=by rfl) (hf : X.fn y = true ∨ X.env.scope.names.lookup y = some .local:=by first | exact .inl rfl | exact .inr rfl | assumption) (hs : ∀ x,foldedSetIterable iter X.env x = pure x:=by intro _; rfl) : QS X (.Assign [.Name y py] (.ListComp elt [⟨target,iter,ifs,0⟩] scope pos) spos) (tAsg (tComp wi σ0 g tt te) (gName i)):=⟨ps_setC hc S hi.run T (fun C s H fp=>(hg C s H fp).run) (fun C s H fp=>(ht C s H fp).run) (fun C s H fp=>(he C s H fp).run) hN hy hx hsw hf hs⟩
theorem qts_nil {X : Cx} : QTs X [] tYes:=⟨pts_nil⟩
theorem qc_isN {j pos'} (ha : QE X a ta) : QC X .Is a (.Constant .none j pos') (tIsN ta):=⟨pc_isN ha.run⟩
end L2
namespace L2
open PySem PySem.Spec PyProof.Rows
theorem qa_consts {X : Cx} {es : List Expr} {xs : List V} (h : constsV es = some xs) : QA X es (tVals xs):=⟨pa_consts h⟩
theorem qv {X : Cx} (i : Nat) {x : Str} {pos : Pos} (hN : X.N[i]? = some x:=by rfl) (hv : Vis X.env.scope x:=by first | exact Or.inl rfl | exact Or.inr (Or.inl rfl) | exact Or.inr (Or.inr rfl)) (hd : (x == ("__debug__" : Str)) = false:=by decide)
  (hcd : (x == ("__classdict__" : Str)) = false:=by decide) : QE X (.Name x pos) (tVar i):=⟨pe_var hN hv hd hcd⟩
theorem QW.qt {X : Cx} {e : Expr} {t : TT} (h : QW X e t) : QT X e t:=⟨h.run.pt⟩
section
variable {P : Program} {w : World} {K : PySem.W.Frag} {mg : Str→Option Value} {base : Heap}
theorem Fun.okq {x qual : Str} {st : Stmt} {f : Addr} {fd : FuncData} {N ps : List Str} {k : Nat} {sp : Sp} (F : Fun K x qual st f fd) (S : FnScope N ps (defScope st)) (len : ∀ vs H Q E,sp vs H Q E→vs.length = ps.length)
  (hbody : ∀ (cdv : Value) (A : Around) (outer : List Env) (s : Shared) (H : Hp) (vs : List V) (Q : VK) (E : XK),Room k (A.deeper (envOfC qual (defScope st) s.heap.objs.size f cdv))→sp vs H Q E →
   ∃ t,QSs (cxOf CX0 P w K mg base N qual (defScope st) f cdv A outer s H E).nox (defBody st) t∧t { nx:=fun _ H'=>Q .non H',rt:=Q } (start N vs) H) : FnOk P w K mg base CX0 (k + 1) f fd ps sp :=
 F.ok S len fun cdv A outer s H vs Q E hr h=>by
  obtain ⟨t,q,r⟩:=hbody cdv A outer s H vs Q E hr h
  exact ⟨t,q.run,r⟩
end
end L2
namespace L2
open PySem PySem.Spec PyProof.Rows
section
variable {X : Cx}
noncomputable def rAddS : R2:=fun x y H Q=>∃ i j,x = .str i∧y = .str j∧i.length + j.length ≤ sizeLine∧Q (.str (i ++ j)) H
noncomputable def rCatA (K : PySem.W.Frag) : R2:=fun x y H Q=>∃ a b xs ys,x = .ref a∧y = .ref b∧SqT K H a xs∧SqT K H b ys∧xs.length + ys.length ≤ sizeLine ∧
 ∀ r H',Same H H'→SqT K H' r (xs ++ ys)→Q (.ref r) H'
theorem op_catA : OpR X (binaryOp .Add) (rCatA X.K):=by
 intro pins s σ H x y v u Q I rx ry h
 obtain ⟨a,b,xs,ys,rfl,rfl,ha,hb,hz,q⟩:=h
 by_cases hx : xs = []
 ·subst hx
  cases rx
  cases ry
  obtain ⟨its,r1,p1,_⟩:=I.tuple ha
  obtain ⟨its2,r2,p2,_⟩:=I.tuple hb
  cases r1
  obtain ⟨⟨cls,dd,data,sl⟩,ho,hc,n,hd⟩:=id p1
  obtain ⟨⟨cls2,dd2,data2,sl2⟩,ho2,hc2,n2,hd2⟩:=id p2
  simp only at hc hd hc2 hd2
  subst hc hd hc2 hd2
  exact concat_meets ⟨_,ho,rfl⟩ ⟨_,ho2,rfl⟩ noFill_tuple_add seq_tuple_add PySem.F.slot_tuple_add PySem.F.entry_tuple_add (PySem.F.args_tuple_add_2 _ _)
   (tuple_addW0 a b _ _ n n2 dd dd2 sl sl2 (by simp)) ⟨ho,ho2,⟨.ref b,H,I,rfl,q b H (Same.refl H) hb⟩⟩
 ·refine op_catT pins s σ H _ _ v u Q I rx ry ⟨a,b,xs,ys,rfl,rfl,ha,hb,hx,hz,fun e=>?_,fun _ p hp=>q p _ (fun c o e=>by rw [upd_ne (ne_of_none e hp)]; exact e) (.inl (.inl upd_same))⟩
  subst e
  exact q a H (Same.refl H) (by rw [List.append_nil]; exact ha)
noncomputable def rAddA (K : PySem.W.Frag) : R2:=fun x y H Q=>rI0 (fun i j=>.int (i + j)) x y H Q ∨ rAddS x y H Q ∨ rCat x y H Q ∨ rCatA K x y H Q
theorem op_addA : OpR X (binaryOp .Add) (rAddA X.K):=op_add.or (op_add_str.or (op_cat.or op_catA))
theorem s_add_int {K : PySem.W.Frag} {i j : Int} {H : Hp} {Q : VK} (h : Q (.int (i + j)) H) : rAddA K (.int i) (.int j) H Q:=.inl ⟨i,j,rfl,rfl,h⟩
theorem s_add_str {K : PySem.W.Frag} {i j : Str} {H : Hp} {Q : VK} (hl : i.length + j.length ≤ sizeLine) (h : Q (.str (i ++ j)) H) : rAddA K (.str i) (.str j) H Q:=.inr (.inl ⟨i,j,rfl,rfl,hl,h⟩)
theorem s_add_lst {K : PySem.W.Frag} {a b : Addr} {xs ys : List V} {H : Hp} {Q : VK} (ha : H a = some (.lst xs)) (hb : H b = some (.lst ys)) (hz : xs.length + ys.length ≤ sizeLine) (h : ∀ p,H p = none→Q (.ref p) (upd H p (.lst (xs ++ ys)))) : rAddA K (.ref a) (.ref b) H Q:=.inr (.inr (.inl ⟨a,b,xs,ys,rfl,rfl,ha,hb,hz,h⟩))
theorem s_add_tup {K : PySem.W.Frag} {a b : Addr} {xs ys : List V} {H : Hp} {Q : VK} (ha : SqT K H a xs) (hb : SqT K H b ys) (hz : xs.length + ys.length ≤ sizeLine) (h : ∀ r H',Same H H'→SqT K H' r (xs ++ ys)→Q (.ref r) H') : rAddA K (.ref a) (.ref b) H Q:=.inr (.inr (.inr ⟨a,b,xs,ys,rfl,rfl,ha,hb,hz,h⟩))
noncomputable def rMulA : R2:=fun x y H Q=>rI CMul (fun i j=>.int (i * j)) x y H Q ∨ rRep x y H Q
theorem op_mulA : OpR X (binaryOp .Mult) rMulA:=op_mul.or op_rep
theorem s_mul_l {i j : Int} {H : Hp} {Q : VK} (h1 : -(2 ^ 64) < i) (h2 : i < 2 ^ 64) (h : Q (.int (i * j)) H) : rMulA (.int i) (.int j) H Q:=.inl ⟨i,j,rfl,rfl,.inl ⟨h1,h2⟩,h⟩
theorem s_mul_r {i j : Int} {H : Hp} {Q : VK} (h1 : -(2 ^ 64) < j) (h2 : j < 2 ^ 64) (h : Q (.int (i * j)) H) : rMulA (.int i) (.int j) H Q:=.inl ⟨i,j,rfl,rfl,.inr ⟨h1,h2⟩,h⟩
theorem s_rI {C : Int→Int→Prop} {g : Int→Int→V} {i j : Int} {H : Hp} {Q : VK} (hc : C i j) (h : Q (g i j) H) : rI C g (.int i) (.int j) H Q:=⟨i,j,rfl,rfl,hc,h⟩
theorem s_rI0 {g : Int→Int→V} {i j : Int} {H : Hp} {Q : VK} (h : Q (g i j) H) : rI0 g (.int i) (.int j) H Q:=⟨i,j,rfl,rfl,h⟩
theorem s_rU {g : Int→V} {i : Int} {H : Hp} {Q : VK} (h : Q (g i) H) : rU g (.int i) H Q:=⟨i,rfl,h⟩
noncomputable def rLtA : R2:=fun x y H Q=>rI0 (fun i j=>.bl (decide (i < j))) x y H Q ∨ ∃ i j,x = .str i∧y = .str j∧Q (.bl (decide (i.cps.toList < j.cps.toList))) H
theorem op_ltA : OpR X (compareOp .Lt) rLtA:=op_lt.or op_lt_str
noncomputable def rLeA : R2:=fun x y H Q=>rI0 (fun i j=>.bl (decide (i ≤ j))) x y H Q ∨ ∃ i j,x = .str i∧y = .str j∧Q (.bl (!(decide (j.cps.toList < i.cps.toList)))) H
theorem op_leA : OpR X (compareOp .LtE) rLeA:=op_le.or op_le_str
theorem s_lt {i j : Int} {H : Hp} {Q : VK} (h : Q (.bl (decide (i < j))) H) : rLtA (.int i) (.int j) H Q:=.inl ⟨i,j,rfl,rfl,h⟩
theorem s_le {i j : Int} {H : Hp} {Q : VK} (h : Q (.bl (decide (i ≤ j))) H) : rLeA (.int i) (.int j) H Q:=.inl ⟨i,j,rfl,rfl,h⟩
noncomputable def rInS (neg : Bool) : R2:=fun x y H Q=>∃ (c : Nat) (j : Str),x = .str ⟨#[c]⟩∧y = .str j∧Q (.bl (if neg then !decide (c ∈ j.cps.toList) else decide (c ∈ j.cps.toList))) H
theorem op_inS : OpR X (compareOp .In) (rInS false):=op_in_sign
noncomputable def rInA (K : PySem.W.Frag) (neg : Bool) : R2:=fun x y H Q=>rIn K neg x y H Q ∨ rInS neg x y H Q
theorem op_inA : OpR X (compareOp .In) (rInA X.K false):=op_in_seq.or op_inS
theorem s_in_seq {K : PySem.W.Frag} {neg : Bool} {x : V} {p : Addr} {xs : List V} {H : Hp} {Q : VK} (hq : SqL K H p xs ∨ SqT K H p xs) (hx : flatV x = true) (hxs : xs.all flatV = true) (h : Q (.bl (if neg then !inV x xs else inV x xs)) H) : rInA K neg x (.ref p) H Q:=.inl ⟨p,xs,rfl,hq,hx,hxs,h⟩
noncomputable def rSlA (K : PySem.W.Frag) : V→Option Int→Option Int→Hp→VK→Prop:=fun x lo hi H Q=>rSlL K x lo hi H Q ∨ rSlS x lo hi H Q ∨ rSlT K x lo hi H Q
theorem sl_any : SlR X (rSlA X.K):=sl_list.or (sl_str.or sl_tup)
theorem s_sl_lst {K : PySem.W.Frag} {a : Addr} {xs : List V} {lo hi : Option Int} {H : Hp} {Q : VK} (ha : SqL K H a xs) (h : ∀ p,H p = none→Q (.ref p) (upd H p (.lst (cutV xs lo hi)))) : rSlA K (.ref a) lo hi H Q:=.inl ⟨a,xs,rfl,ha,h⟩
theorem s_ix_lst {K : PySem.W.Frag} {a : Addr} {xs : List V} {i : Int} {v : V} {H : Hp} {Q : VK} (ha : SqL K H a xs) (hv : atI xs i = some v) (h : Q v H) : rIx K (.ref a) (.int i) H Q:=.inl ⟨a,xs,i,v,rfl,rfl,ha,hv,h⟩
theorem s_ix_tup {K : PySem.W.Frag} {a : Addr} {xs : List V} {i : Int} {v : V} {H : Hp} {Q : VK} (ha : SqT K H a xs) (hv : atI xs i = some v) (h : Q v H) : rIx K (.ref a) (.int i) H Q:=.inr (.inl ⟨a,xs,i,v,rfl,rfl,ha,hv,h⟩)
theorem s_ix_str {K : PySem.W.Frag} {z : Str} {i : Int} {c : Nat} {H : Hp} {Q : VK} (hl : z.length ≤ sizeLine) (hv : atI z.cps.toList i = some c) (h : Q (.str ⟨#[c]⟩) H) : rIx K (.str z) (.int i) H Q:=.inr (.inr ⟨z,i,c,rfl,rfl,hl,hv,h⟩)
noncomputable def rLen (K : PySem.W.Frag) : List V→Hp→VK→Prop:=fun xs H Q=>∃ x n,xs = [x]∧LenV K x H n∧Q (.int n) H
theorem call_lenA : CallR X (.builtin "len") (rLen X.K):=call_len
theorem s_len_lst {K : PySem.W.Frag} {a : Addr} {xs : List V} {H : Hp} {Q : VK} (ha : SqL K H a xs) (h : Q (.int xs.length) H) : rLen K [.ref a] H Q:=⟨_,_,rfl,.inl ⟨xs,ha,rfl⟩,h⟩
theorem s_len_tup {K : PySem.W.Frag} {a : Addr} {xs : List V} {H : Hp} {Q : VK} (ha : SqT K H a xs) (h : Q (.int xs.length) H) : rLen K [.ref a] H Q:=⟨_,_,rfl,.inr ⟨xs,ha,rfl⟩,h⟩
theorem s_len_str {K : PySem.W.Frag} {z : Str} {H : Hp} {Q : VK} (hl : z.length ≤ sizeLine) (h : Q (.int z.length) H) : rLen K [.str z] H Q:=⟨_,_,rfl,⟨hl,rfl⟩,h⟩
structure Glob (mg : Str→Option Value) (x : Str) (v : V) : Prop where
 ex : ∃ u,mg x = some u∧RelV v u
theorem qe_gl {x : Str} {v : V} {pos : Pos} (G : Glob X.mg x v) (hg : Gl X x:=by rfl) (hd : (x == ("__debug__" : Str)) = false:=by decide) : QE X (.Name x pos) (tC v):=by
 obtain ⟨u,h,r⟩:=G.ex
 exact ⟨pe_glob hg h r hd⟩
noncomputable def iAny (K : PySem.W.Frag) (tl : TE) : TI:=fun σ H R=>tl σ H fun x H1=>(∃ a,x = .ref a∧(∃ xs,SqL K H1 a xs)∧R (Itl K a) H1) ∨ (∃ a,x = .ref a∧(∃ xs,SqT K H1 a xs)∧R (Itt K a) H1) ∨ ∃ z,x = .str z∧R (Its z) H1
theorem qi_any {tg l : Expr} {tl : TE} (hl : QE X l tl) : QI X tg l (iAny X.K tl):=by
 refine ⟨fun pins s σ H R I h=>?_⟩
 refine thn (hl.run pins s σ H _ I h) fun v s1 ⟨x,H1,I1,r1,q1⟩=>?_
 have one : ∀ (l : Expr) (t : TE),PE X l t→True:=fun _ _ _=>trivial
 rcases q1 with ⟨a,e,⟨xs,hq⟩,q⟩ | ⟨a,e,⟨xs,hq⟩,q⟩ | ⟨z,e,q⟩
 ·subst e
  cases r1
  obtain ⟨its,rv,p,hz⟩:=I1.list hq
  refine wpAny_pyIter_list p.isList ?_
  refine ⟨s1.heap.objs.size,[s1.heap.objs.size],_,_,H1,rfl,I1.kept (t':=s1.toks) fun b o e=>Heap.get?_push_of_some _ e,turn_list a _,⟨_,Heap.get?_push_size _ rfl,rfl,rfl⟩,fun b hb=>?_,q⟩
  have e : b = s1.heap.objs.size:=by simpa using hb
  subst e
  exact I1.fpOk (Nat.le_refl _) (I1.hok.fresh (Nat.le_refl _))
 ·subst e
  cases r1
  obtain ⟨its,rv,p,hz⟩:=I1.tuple hq
  refine wpAny_pyIter_tuple (show s1.heap.IsTuple a its.toArray from p) ?_
  refine ⟨s1.heap.objs.size,[s1.heap.objs.size],_,_,H1,rfl,I1.kept (t':=s1.toks) fun b o e=>Heap.get?_push_of_some _ e,turn_tuple a _,⟨_,Heap.get?_push_size _ rfl,rfl,rfl⟩,fun b hb=>?_,q⟩
  have e : b = s1.heap.objs.size:=by simpa using hb
  subst e
  exact I1.fpOk (Nat.le_refl _) (I1.hok.fresh (Nat.le_refl _))
 ·subst e
  obtain ⟨t,rfl⟩:=r1
  refine wpAny_pyIter_strU ?_
  refine ⟨s1.heap.objs.size,[s1.heap.objs.size],_,_,H1,rfl,I1.kept (t':=s1.toks) fun b o e=>Heap.get?_push_of_some _ e,turn_str _ z t,⟨_,Heap.get?_push_size _ rfl,rfl,rfl⟩,fun b hb=>?_,q⟩
  have e : b = s1.heap.objs.size:=by simpa using hb
  subst e
  exact I1.fpOk (Nat.le_refl _) (I1.hok.fresh (Nat.le_refl _))
end
end L2
namespace L2
open PySem PySem.Spec PyProof.Rows
section
variable {X : Cx} {tg : Expr}
end
noncomputable def Itv (K : PySem.W.Frag) (a : Addr) (n : Nat) : It :=
 ⟨fun i H=>∃ xs,SqL K H a xs∧xs.length = n∧i < n,fun i H x H'=>H' = H∧∀ xs,SqL K H a xs→xs[n - 1 - i]? = some x,fun i _=>i = n⟩
theorem turn_rev {P : Program} {w : World} {K : PySem.W.Frag} {tg : Expr} (a it : Addr) (n : Nat) : Turn P w K tg (Itv K a n) [it] it (fun i h=>i ≤ n∧h.IsRevIter it a ((n : Int) - 1 - (i : Int))) where
 mem:=by simp
 obj:=fun i h st b hb=>by
  have e : b = it:=by simpa using hb
  subst e
  obtain ⟨o,e,c,d⟩:=st.2
  exact ⟨o,e,fun v z=>by rw [d] at z; cases z⟩
 keep:=fun i h h' st k=>⟨st.1,st.2.at fun o e=>k it (by simp) o e⟩
 item:=by
  intro X hP hw hK hc i pins s σ H E I hf st hg
  subst hP hw hK
  obtain ⟨xs,hq,hl,hi⟩:=hg
  obtain ⟨its,rv,p,hz⟩:=I.list hq
  have hx : xs[n - 1 - i]? = some (xs[n - 1 - i]'(by omega)):=List.getElem?_eq_getElem (by omega)
  obtain ⟨u,hu,ru⟩:=rv.get hx
  obtain ⟨f0,f1,f2,f3,f4,f5⟩:=hf it (by simp)
  have e : (n : Int) - 1 - (i : Int) = ((n - 1 - i : Nat) : Int):=by omega
  have hit:=st.2
  rw [e] at hit
  refine wpAny_pyNext_rev_item hit p.isList (x:=u) (by simpa using hu) fun h' st' sb=>?_
  have I1 : Inv X pins σ H { s with heap:=h' }:=I.turned (t':=s.toks) (fun b o hb e=>(sb.2 b hb).trans e) f0 f1 f3 f4 f5
  have e2 : ((n - 1 - i : Nat) : Int) - 1 = (n : Int) - 1 - ((i + 1 : Nat) : Int):=by omega
  rw [e2] at st'
  obtain ⟨o,eo,c,d⟩:=id st'
  exact ⟨u,rfl,go_of (s:={ s with heap:=h' }) eo c d (by decide) ⟨_,H,I1,ru,⟨rfl,fun ys hy=>by rw [I.list_inj hy hq]; exact hx⟩,⟨hi,st'⟩,fun b hb=>(hf b hb).1⟩⟩
 done:=by
  intro X hP hw hK hc i pins s σ H E I hf st hg
  subst hP hw hK
  have hg : i = n:=hg
  subst hg
  obtain ⟨f0,f1,f2,f3,f4,f5⟩:=hf it (by simp)
  have e : (i : Int) - 1 - (i : Int) = -1:=by omega
  have hit:=st.2
  rw [e] at hit
  exact wpAny_pyNext_rev_end (I.ok.hd hc) hit fun h' eb=>⟨rfl,I.turned (t':=s.toks) (fun b o hb e=>eb b o hb e) f0 f1 f3 f4 f5⟩
 self:=fun _ _ _ _ _ st h=>wpAny_pyIter_revIter st.2 h
theorem boot_rev : bootBuiltins "reversed" = some (.type "reversed"):=by decide +kernel
section
variable {X : Cx} {tg : Expr}
noncomputable def iRev (K : PySem.W.Frag) (ta : TA) : TI:=fun σ H R=>ta σ H fun vs H1=>∃ a xs,vs = [.ref a]∧SqL K H1 a xs∧R (Itv K a xs.length) H1
theorem qi_rev {a : Expr} {ta : TA} {p pos : Pos} (hg : Gl X "reversed") (hm : X.mg "reversed" = none) (ha : QA X [a] ta) (hs : starEach [a] X.env = [(false,eval a X.env)]:=by rfl) : QI X tg (.Call (.Name "reversed" p) [a] [] pos) (iRev X.K ta):=by
 refine ⟨fun pins s σ H R I h=>?_⟩
 refine Call_ (ld_blt I hg hm boot_rev (PyProof.Rows.callWith_type1 (thn (ha.run pos pins s σ H _ I h) fun us s1 ⟨vs,H1,I1,r1,q1⟩=>?_) hs rfl))
 obtain ⟨l,xs,e,hq,q⟩:=q1
 subst e
 cases r1 with
 | cons r rr =>
  cases rr
  cases r
  obtain ⟨its,rv,pl,hz⟩:=I1.list hq
  refine call_reversed_list pl.isList ?_
  have hl:=rv.length
  have st0 : (s1.heap.push (PySem.revObj l (((its.toArray).size : Int) - 1))).IsRevIter s1.heap.objs.size l ((xs.length : Int) - 1 - ((0 : Nat) : Int)):=by
   refine ⟨_,Heap.get?_push_size _ rfl,rfl,?_⟩
   have e : ((its.toArray).size : Int) - 1 = (xs.length : Int) - 1 - ((0 : Nat) : Int):=by simp [hl]
   rw [← e]
   rfl
  refine wpAny_pyIter_revIter (it:=s1.heap.objs.size) (l:=l) (i:=(xs.length : Int) - 1 - ((0 : Nat) : Int)) st0 ?_
  refine ⟨s1.heap.objs.size,[s1.heap.objs.size],_,_,H1,rfl,I1.kept (t':=s1.toks) fun b o e=>Heap.get?_push_of_some _ e,turn_rev l _ xs.length,⟨Nat.zero_le _,st0⟩,fun b hb=>?_,q⟩
  have e : b = s1.heap.objs.size:=by simpa using hb
  subst e
  exact I1.fpOk (Nat.le_refl _) (I1.hok.fresh (Nat.le_refl _))
theorem for_rev {K : PySem.W.Frag} {a : Addr} {xs : List V} {g : TG} {tb : TS} {D : Ends} {σ : St} {H : Hp} (Pv : Nat→St→Hp→Prop) (h0 : Pv 0 σ H) (hl : ∀ i σ H,i ≤ xs.length→Pv i σ H→SqL K H a xs)
  (hs : ∀ i x σ H,i < xs.length→xs[xs.length - 1 - i]? = some x→Pv i σ H→g x σ H fun σ2 H2=>tb { D with nx:=Pv (i + 1),ct:=Pv (i + 1),bk:=D.nx } σ2 H2) (hd : ∀ σ H,Pv xs.length σ H→D.nx σ H) :
  ∃ W : Nat→Nat→St→Hp→Prop,(∃ m,W 0 m σ H)∧∀ i m σ H,W i m σ H →
   ((Itv K a xs.length).stop i H∧D.nx σ H) ∨ ((Itv K a xs.length).go i H∧∃ N : St→Hp→Prop,(∀ σ' H',N σ' H'→∃ m',m' < m∧W (i + 1) m' σ' H')∧∀ x H',(Itv K a xs.length).yld i H x H'→g x σ H' fun σ2 H2=>tb { D with nx:=N,ct:=N,bk:=D.nx } σ2 H2):=by
 refine ⟨fun i m σ H=>m = xs.length - i∧i ≤ xs.length∧Pv i σ H,⟨xs.length,by simp,Nat.zero_le _,h0⟩,?_⟩
 rintro i m σ H ⟨rfl,hi,p⟩
 have q:=hl i σ H hi p
 by_cases hlt : i < xs.length
 ·refine .inr ⟨⟨xs,q,rfl,hlt⟩,Pv (i + 1),fun σ' H' p'=>⟨xs.length - (i + 1),by omega,rfl,hlt,p'⟩,fun x H' y=>?_⟩
  obtain ⟨e,y⟩:=y
  subst e
  exact hs i x σ _ hlt (y xs q) p
 ·have e : i = xs.length:=by omega
  subst e
  exact .inl ⟨rfl,hd σ H p⟩
end
end L2
namespace L2
open PySem PySem.Spec PyProof.Rows
section
variable {prog : Program} {w : World} {A : Around} {E : Value→Shared→Prop} {s : Shared}
theorem nextOf_tup_item {it t : Addr} {i : Nat} {items : Array Value} {x : Value} {Q : Value→Shared→Prop} (hit : s.heap.IsTupleIter it t i) (ht : s.heap.IsTuple t items) (hx : items[i]? = some x)
  (hQ : ∀ h',h'.IsTupleIter it t (i + 1)→Heap.SameBut it s.heap h'→Q x { s with heap:=h' }) : wpAny (model prog w) A (Builtin.SmallTypes.nextOf (.ref it)) Q E s:=by
 obtain ⟨o,ho,hc,hd⟩:=id hit
 obtain ⟨ol,hol,_,nl,hdl⟩:=ht
 unfold Builtin.SmallTypes.nextOf
 refine wpAny_bind (wpAny_callSpecial?_slot (name:=Str.ofString "__next__") hit.typeIs PySem.F.slot_tuple_iterator_next
  (wpAny_call_entry PySem.F.slot_tuple_iterator_next hit.typeIs PySem.F.entry_tuple_iterator_next ?_ (PySem.F.args_tuple_iterator_next_1 _)))
 show wpAny _ _ (field (.ref it) 0 >>= _) _ _ s
 refine wpAny_bind (wpAny_field ho hd (x:=.ref t) rfl ?_)
 show wpAny _ _ (if (Value.ref t == Value.none) = true then _ else _) _ _ s
 rw [if_neg (show ¬ ((Value.ref t == Value.none) = true) from Bool.false_ne_true)]
 show wpAny _ _ (field (.ref it) 1 >>= _) _ _ s
 refine wpAny_bind (wpAny_field ho hd (x:=.int i 0) rfl ?_)
 show wpAny _ _ (seqItems? (.ref t) >>= _) _ _ s
 refine wpAny_bind (wpAny_seqItems hol hdl ?_)
 simp only [Int.toNat_natCast,hx]
 refine wpAny_bind (wpAny_setField ho hd (by simp) (wpAny_pure ⟨x,rfl,wpAny_pure (hQ _ ?_ (Heap.SameBut.update ..))⟩))
 exact ⟨_,Heap.get?_update_self _ ho (Obj.isFreed_of_fields (Obj.data_mapFields hd _)),(Obj.cls_mapFields ..).trans hc,by
  rw [Obj.data_mapFields hd]; simp [rawInt]⟩
theorem nextOf_tup_end {it t : Addr} {i : Nat} {items : Array Value} {Q : Value→Shared→Prop} (hh : A.handled = none) (hit : s.heap.IsTupleIter it t i) (ht : s.heap.IsTuple t items) (hx : items[i]? = none)
  (hE : ∀ h' e,Heap.ExtBut it s.heap h'→(∃ o,h'.get? e = some o∧o.cls = .type "StopIteration")→E (.ref e) { s with heap:=h' }) : wpAny (model prog w) A (Builtin.SmallTypes.nextOf (.ref it)) Q E s:=by
 obtain ⟨o,ho,hc,hd⟩:=id hit
 obtain ⟨ol,hol,_,nl,hdl⟩:=ht
 unfold Builtin.SmallTypes.nextOf
 refine wpAny_bind (wpAny_callSpecial?_slot (name:=Str.ofString "__next__") hit.typeIs PySem.F.slot_tuple_iterator_next
  (wpAny_call_entry PySem.F.slot_tuple_iterator_next hit.typeIs PySem.F.entry_tuple_iterator_next ?_ (PySem.F.args_tuple_iterator_next_1 _)))
 show wpAny _ _ (field (.ref it) 0 >>= _) _ _ s
 refine wpAny_bind (wpAny_field ho hd (x:=.ref t) rfl ?_)
 show wpAny _ _ (if (Value.ref t == Value.none) = true then _ else _) _ _ s
 rw [if_neg (show ¬ ((Value.ref t == Value.none) = true) from Bool.false_ne_true)]
 show wpAny _ _ (field (.ref it) 1 >>= _) _ _ s
 refine wpAny_bind (wpAny_field ho hd (x:=.int i 0) rfl ?_)
 show wpAny _ _ (seqItems? (.ref t) >>= _) _ _ s
 refine wpAny_bind (wpAny_seqItems hol hdl ?_)
 simp only [Int.toNat_natCast,hx]
 refine wpAny_bind (wpAny_rule (wpAny_bind (wpAny_setField ho hd (by simp) ?_)))
 show wpAny _ _ (newExc (.type "StopIteration") [] >>= _) _ _ _
 refine wpAny_bind ?_
 simp only [newExc,newTuple]
 refine wpAny_bind (wpAny_newObj_type ?_ (by size_fits))
 refine wpAny_bind (m:=firstArgMember _ _) (wpAny_of_eq (a:=Value.none) (by first | rfl | (simp only [firstArgMember]; rfl)) ?_)
 refine wpAny_newObj_type ?_ (by size_fits)
 simp only [raiseNew]
 refine wpAny_bind (wpAny_handled ?_)
 first | rw [show A.in1.handled = none from hh] | rw [hh]
 refine wpAny_bind (wpAny_pure (wpAny_throw ?_))
 exact hE _ _ (((Heap.SameBut.update ..).extBut.push _).push _) ⟨_,Heap.get?_push_size _ rfl,rfl⟩
end
theorem draws_tup {prog : Program} {w : World} {A : Around} (hh : A.handled = none) (it l : Addr) (hne : l ≠ it) (items : Array Value) :
  Draws prog w A it [it,l] items.size (fun i v=>items[i]? = some v) (fun i h=>h.IsTupleIter it l i∧h.IsTuple l items) where
 live:=fun _ _ st=>let ⟨o,ho,_⟩:=st.1; ⟨o,ho⟩
 frame:=fun _ _ _ st hk=>⟨st.1.at fun o e=>hk it (by simp) o e,let ⟨o,e,r⟩:=st.2; ⟨o,hk l (by simp) o e,r⟩⟩
 item:=fun i s Q E hi st hQ=>by
  refine nextOf_tup_item st.1 st.2 (x:=items[i]) (by simp [hi]) fun h' hit' hs'=>?_
  exact hQ _ h' s.toks (by simp [hi]) ⟨hit',st.2.extBut hs'.extBut hne⟩ hs'
 done:=fun s Q E st hE=>nextOf_tup_end hh st.1 st.2 (by simp) hE
theorem meets_enum_newT (l : Addr) (items : Array Value) (n : Nat) (dct : Option Addr) (sl : Array (Option Value)) :
  Meets (Builtin.«enumerate.__new__» ⟨[.type "enumerate",.ref l],[]⟩) (fun _ R s=>s.heap.get? l = some { cls:=.type "tuple",dict:=dct,data:=.seq items n,slots:=sl } ∧
   R (.ok (.ret (.ref (s.heap.push { cls:=.type "tuple_iterator",data:=.fields #[.ref l,.int 0 0] }).objs.size)))
    { s with heap:=(s.heap.push { cls:=.type "tuple_iterator",data:=.fields #[.ref l,.int 0 0] }).push { cls:=.type "enumerate",data:=.fields #[.none,.bool false,.ref s.heap.objs.size,rawInt 0,.none,.none] } }) :=
 .of_wp fun prog w A R s h=>by
  obtain ⟨hp,g,d,tk,os⟩:=s; obtain ⟨hl,h⟩:=h
  have hsub:=sub_enumerate
  have hL : Heap.IsTuple (Shared.heap ⟨hp,g,d,tk,os⟩) l items:=⟨_,hl,rfl,n,rfl⟩
  wp_walk using PySem.AutoSeq1.wpAny_loadPart' hl
  refine wpAny_stack_any fun st=>wpAny_pure ?_
  split
  ·rename_i c _ _ _ _ _
   cases (c == Value.type "enumerate")
   ·wp_walk using PySem.AutoSeq1.wpAny_loadPart' hl,wpAny_pyIter_tuple hL
    exact ⟨_,rfl,h⟩
   ·wp_walk using PySem.AutoSeq1.wpAny_loadPart' hl,wpAny_pyIter_tuple hL
    exact ⟨_,rfl,h⟩
  ·wp_walk using PySem.AutoSeq1.wpAny_loadPart' hl,wpAny_pyIter_tuple hL
   exact ⟨_,rfl,h⟩
section
variable {prog : Program} {w : World} {A : Around} {E : Value→Shared→Prop} {s : Shared}
theorem call_enum_tup {l : Addr} {items : Array Value} {Q : Value→Shared→Prop} (hL : s.heap.IsTuple l items)
  (h : ∀ h',IsEnum h' (s.heap.objs.size + 1) s.heap.objs.size 0 .none→h'.IsTupleIter s.heap.objs.size l 0→h'.objs.size = s.heap.objs.size + 2 →
   (∀ b o,s.heap.get? b = some o→h'.get? b = some o)→Q (.ref (s.heap.objs.size + 1)) { s with heap:=h' }) :
  wpAny (model prog w) A (call (.type "enumerate") [.ref l]) Q E s:=by
 obtain ⟨⟨c,dct,dt,sl⟩,hl,hc,n,hd⟩:=hL
 replace hc : c = .type "tuple":=hc
 replace hd : dt = .seq items n:=hd
 subst hc hd
 refine callType_new PySem.F.called_enumerate (by decide) (PySem.F.typeCall_enumerate_1 _) (PySem.F.newCall_enumerate_1 _) (fun obj=>PySem.F.args_object_init_2 obj _) PySem.F.entry_enumerate_new
  (meets_enum_newT l items n dct sl) ⟨hl,?_⟩
 have hz : (s.heap.push { cls:=.type "tuple_iterator",data:=.fields #[.ref l,.int 0 0] }).objs.size = s.heap.objs.size + 1:=Heap.size_push ..
 show _∧_
 rw [hz]
 have he : IsEnum ((s.heap.push { cls:=.type "tuple_iterator",data:=.fields #[.ref l,.int 0 0] }).push
   { cls:=.type "enumerate",data:=.fields #[.none,.bool false,.ref s.heap.objs.size,rawInt 0,.none,.none] }) (s.heap.objs.size + 1) s.heap.objs.size 0 .none:=by
  unfold IsEnum
  rw [← hz]
  exact Heap.get?_push_size _ rfl
 refine ⟨⟨_,he,rfl⟩,h _ he ⟨_,Heap.get?_push_of_some _ (Heap.get?_push_size _ rfl),rfl,rfl⟩ (by rw [Heap.size_push,hz]) fun b o e=>Heap.get?_push_of_some _ (Heap.get?_push_of_some _ e)⟩
noncomputable def EnLate (h : Heap) (e it : Addr) (i : Int) : Prop:=∃ (a : Addr) (oa : Obj) (f1 old : Value),h.get? e = some { cls:=.type "enumerate",dict:=none,data:=.fields #[rawInt a,f1,.ref it,rawInt i,.none,old],slots:=#[] }∧h.get? a = some oa∧a ≠ e∧a ≠ it
theorem wpAny_loadAlive {a : Addr} {Q : Option Obj→Shared→Prop} (h : Q (s.heap.get? a) s) : wpAny (model prog w) A (loadIfAlive a) Q E s:=by
 intro Γ p hΓ
 show Sem.wp _ Γ (.loadIfAlive a .pure) _ _ p s
 rw [Sem.wp_loadIfAlive]
 exact h
end
end L2
namespace L2
open PySem PySem.Spec PyProof.Rows
section
variable {prog : Program} {w : World} {A : Around} {E : Value→Shared→Prop} {s : Shared}
theorem en_late_next {e it : Addr} {fp : List Addr} {n i : Nat} {P : Nat→Value→Prop} {St : Nat→Heap→Prop} {Q : Value→Shared→Prop}
  (D : Draws prog w A it fp n P St) (he0 : EnLate s.heap e it i) (hst : St i s.heap) (hlt : i < n) (hne : e ≠ it) (hef : e ∉ fp)
  (hQ : ∀ x h' tk,P i x→EnLate h' e it ((i : Int) + 1)→St (i + 1) h' →
   h'.get? s.heap.objs.size = some { cls:=.type "tuple",data:=.seq #[.int i tk,x] }→h'.objs.size = s.heap.objs.size + 1 →
   (∀ b o,b ≠ e→b ≠ it→s.heap.get? b = some o→h'.get? b = some o)→Q (.ref s.heap.objs.size) { s with heap:=h',toks:=tk + 1 }) :
  wpAny (model prog w) A (Builtin.«enumerate.__next__» ⟨[.ref e],[]⟩) (fun fin s'=>∃ v,fin = .done (.ret v)∧Q v s') E s:=by
 obtain ⟨a,oa,f1,old,he,hoa,hae,hai⟩:=he0
 obtain ⟨hp,g,d,tk₀,os⟩:=s
 show wpAny _ _ (field (.ref e) 2 >>= _) _ _ _
 refine wpAny_bind (wpAny_field he rfl (x:=.ref it) rfl ?_)
 refine wpAny_bind (D.item i _ _ _ hlt hst fun x h₁ tk hPx hit₁ hs₁=>?_)
 replace hs₁ : Heap.SameBut it hp h₁:=hs₁
 have he₁:=(hs₁.2 e hne).trans he
 have ha₁:=hs₁.extBut a oa hai hoa
 show wpAny _ _ (field (.ref e) 3 >>= _) _ _ ⟨h₁,g,d,tk,os⟩
 refine wpAny_bind (wpAny_field he₁ rfl (x:=rawInt i) rfl ?_)
 show wpAny _ _ (field (.ref e) 4 >>= _) _ _ ⟨h₁,g,d,tk,os⟩
 refine wpAny_bind (wpAny_field he₁ rfl (x:=.none) rfl ?_)
 show wpAny _ _ (mkInt i >>= _) _ _ ⟨h₁,g,d,tk,os⟩
 refine wpAny_bind (wpAny_mkInt ?_)
 show wpAny _ _ (setField (.ref e) 3 (rawInt ((i : Int) + 1)) >>= _) _ _ ⟨h₁,g,d,tk + 1,os⟩
 refine wpAny_bind (wpAny_setField_rec he₁ (by simp) fun h₂ he₂ hs₂=>?_)
 replace hs₂ : Heap.SameBut e h₁ h₂:=hs₂
 have ha₂:=hs₂.extBut a oa hae ha₁
 replace he₂ : h₂.get? e = some { cls:=.type "enumerate",dict:=none,data:=.fields #[rawInt a,f1,.ref it,rawInt ((i : Int) + 1),.none,old],slots:=#[] }:=he₂
 show wpAny _ _ (setField (.ref e) 4 .none >>= _) _ _ ⟨h₂,g,d,tk + 1,os⟩
 refine wpAny_bind (wpAny_setField_rec he₂ (by simp) fun h₃ he₃ hs₃=>?_)
 replace hs₃ : Heap.SameBut e h₂ h₃:=hs₃
 have ha₃:=hs₃.extBut a oa hae ha₂
 replace he₃ : h₃.get? e = some { cls:=.type "enumerate",dict:=none,data:=.fields #[rawInt a,f1,.ref it,rawInt ((i : Int) + 1),.none,old],slots:=#[] }:=he₃
 show wpAny _ _ (newTuple [.int i tk,x] >>= _) _ _ ⟨h₃,g,d,tk + 1,os⟩
 refine wpAny_bind (wpAny_newTuple ?_)
 have he₄ : (h₃.push { cls:=.type "tuple",data:=.seq #[.int i tk,x] }).get? e = some { cls:=.type "enumerate",dict:=none,data:=.fields #[rawInt a,f1,.ref it,rawInt ((i : Int) + 1),.none,old],slots:=#[] }:=Heap.get?_push_of_some _ he₃
 have ha₄ : (h₃.push { cls:=.type "tuple",data:=.seq #[.int i tk,x] }).get? a = some oa:=Heap.get?_push_of_some _ ha₃
 generalize hh₄ : h₃.push { cls:=.type "tuple",data:=.seq #[.int i tk,x] } = h₄ at he₄ ha₄
 have hsz : h₃.objs.size = hp.objs.size:=by rw [hs₃.1,hs₂.1,hs₁.1]
 have hel : e < hp.objs.size:=Heap.lt_size he
 have ht₄ : h₄.get? hp.objs.size = some { cls:=.type "tuple",data:=.seq #[.int i tk,x] }:=by rw [← hh₄,← hsz]; exact Heap.get?_push_size _ rfl
 have hz₄ : h₄.objs.size = hp.objs.size + 1:=by rw [← hh₄,Heap.size_push,hsz]
 have hk₄ : ∀ b o,b ≠ e→b ≠ it→hp.get? b = some o→h₄.get? b = some o:=fun b o hbe hbi hb=>by
  rw [← hh₄]; exact Heap.get?_push_of_some _ (hs₃.extBut b o hbe (hs₂.extBut b o hbe (hs₁.extBut b o hbi hb)))
 have hit₄ : St (i + 1) h₄:=D.frame _ _ _ hit₁ fun b hb o y=>by
  have hbe : b ≠ e:=fun q=>hef (q ▸ hb)
  rw [← hh₄]; exact Heap.get?_push_of_some _ (hs₃.extBut b o hbe (hs₂.extBut b o hbe y))
 show wpAny _ _ (Builtin.SmallTypes.ownedTupleIsFree (.ref e) >>= _) _ _ ⟨h₄,g,d,tk + 1,os⟩
 rw [hsz]
 clear hh₄ ha₃ ha₂ ha₁ he₃ hs₃ he₂ hs₂ he₁ hs₁ hit₁ hsz h₃ h₂ h₁
 refine wpAny_bind ?_
 unfold Builtin.SmallTypes.ownedTupleIsFree
 refine wpAny_bind (wpAny_field he₄ rfl (x:=rawInt a) rfl ?_)
 show wpAny _ _ (loadIfAlive ((a : Int).toNat) >>= _) _ _ ⟨h₄,g,d,tk + 1,os⟩
 refine wpAny_bind (wpAny_loadAlive ?_)
 rw [Int.toNat_natCast]
 show wpAny _ _ (if (h₄.get? a).isNone = true then _ else _) _ _ ⟨h₄,g,d,tk + 1,os⟩
 rw [ha₄]
 rw [if_neg (by simp)]
 refine wpAny_bind (wpAny_field he₄ rfl (x:=f1) rfl ?_)
 have fin : ∀ h₅,EnLate h₅ e it ((i : Int) + 1)→Heap.SameBut e h₄ h₅→Q (.ref hp.objs.size) ⟨h₅,g,d,tk + 1,os⟩:=fun h₅ hl hs₅ =>
  hQ x h₅ tk hPx hl (D.frame _ _ _ hit₄ fun b hb o y=>hs₅.extBut b o (fun q=>hef (q ▸ hb)) y) (hs₅.extBut _ _ (Nat.ne_of_gt hel) ht₄) (by rw [hs₅.1,hz₄]) fun b o hbe hbi hb=>hs₅.extBut b o hbe (hk₄ b o hbe hbi hb)
 by_cases hf : (f1 != Value.bool true) = true
 ·simp only [hf,if_true]
  refine wpAny_bind (wpAny_setField_rec he₄ (by simp) fun h₅ he₅ hs₅=>?_)
  replace hs₅ : Heap.SameBut e h₄ h₅:=hs₅
  refine wpAny_pure ?_
  simp only [Bool.false_eq_true,if_false]
  refine wpAny_pure ⟨_,rfl,fin h₅ ⟨a,oa,.bool true,old,he₅,hs₅.extBut a oa hae ha₄,hae,hai⟩ hs₅⟩
 ·simp only [hf]
  refine wpAny_pure ?_
  simp only [Bool.false_eq_true,if_false]
  exact wpAny_pure ⟨_,rfl,fin h₄ ⟨a,oa,f1,old,he₄,ha₄,hae,hai⟩ (Heap.SameBut.refl ..)⟩
noncomputable def EnSt (h : Heap) (e it : Addr) (i : Nat) : Prop:=(i = 0∧∃ old,IsEnum h e it 0 old) ∨ (0 < i∧EnLate h e it i)
theorem EnSt.obj {h : Heap} {e it : Addr} {i : Nat} (x : EnSt h e it i) : ∃ vs,h.get? e = some { cls:=.type "enumerate",dict:=none,data:=.fields vs,slots:=#[] }:=by
 rcases x with ⟨_,old,x⟩ | ⟨_,_,_,_,_,x,_⟩
 ·exact ⟨_,x⟩
 ·exact ⟨_,x⟩
theorem en_next {e it : Addr} {fp : List Addr} {n i : Nat} {P : Nat→Value→Prop} {St : Nat→Heap→Prop} {Q : Option Value→Shared→Prop}
  (D : Draws prog w A.in1 it fp n P St) (he : EnSt s.heap e it i) (hst : St i s.heap) (hlt : i < n) (hne : e ≠ it) (hef : e ∉ fp)
  (hQ : ∀ x h' tk,P i x→EnSt h' e it (i + 1)→St (i + 1) h' →
   h'.get? s.heap.objs.size = some { cls:=.type "tuple",data:=.seq #[.int i tk,x] }→h'.objs.size = s.heap.objs.size + 1 →
   (∀ b o,b ≠ e→b ≠ it→s.heap.get? b = some o→h'.get? b = some o)→Q (some (.ref s.heap.objs.size)) { s with heap:=h',toks:=tk + 1 }) :
  wpAny (model prog w) A (pyNext (.ref e)) Q E s:=by
 obtain ⟨vs,ho⟩:=he.obj
 have hT : s.TypeIs (.ref e) "enumerate":=⟨_,ho,rfl⟩
 have hel : e < s.heap.objs.size:=Heap.lt_size ho
 have hil : it < s.heap.objs.size:=by obtain ⟨_,y⟩:=D.live _ _ hst; exact Heap.lt_size y
 rcases he with ⟨rfl,old,he⟩ | ⟨_,he⟩
 ·refine wpAny_pyNext_enum_itemD D he hst hlt hne hef fun x h' tk a b c z k q=>?_
  exact hQ x h' tk a (.inr ⟨Nat.succ_pos _,_,_,_,_,b,z,Nat.ne_of_gt hel,Nat.ne_of_gt hil⟩) c z k q
 ·unfold pyNext
  exact wpAny_bind (wpAny_attempt (wpAny_callSpecial?_slot (name:=Str.ofString "__next__") hT PySem.F.slot_enumerate_next
   (wpAny_call_entry PySem.F.slot_enumerate_next hT PySem.F.entry_enumerate_next
    (en_late_next D he hst hlt hne hef fun x h' tk a b c z k q=>wpAny_pure (hQ x h' tk a (.inr ⟨Nat.succ_pos _,b⟩) c z k q)) (PySem.F.args_enumerate_next_1 _))))
theorem en_end {e it : Addr} {fp : List Addr} {n : Nat} {P : Nat→Value→Prop} {St : Nat→Heap→Prop} {Q : Option Value→Shared→Prop}
  (D : Draws prog w A.in1 it fp n P St) (he : EnSt s.heap e it n) (hst : St n s.heap)
  (hQ : ∀ h',Heap.ExtBut it s.heap h'→Q none { s with heap:=h' }) : wpAny (model prog w) A (pyNext (.ref e)) Q E s:=by
 obtain ⟨vs,ho⟩:=he.obj
 have hT : s.TypeIs (.ref e) "enumerate":=⟨_,ho,rfl⟩
 have h2 : vs[2]? = some (.ref it):=by
  rcases he with ⟨rfl,old,he⟩ | ⟨_,a,oa,f1,old,he,_⟩
  ·unfold IsEnum at he
   rw [ho] at he
   injection he with he
   injection he with _ _ he _
   injection he with he
   rw [he]; rfl
  ·rw [ho] at he
   injection he with he
   injection he with _ _ he _
   injection he with he
   rw [he]; rfl
 unfold pyNext
 refine wpAny_bind (wpAny_attempt (wpAny_callSpecial?_slot (name:=Str.ofString "__next__") hT PySem.F.slot_enumerate_next
  (wpAny_call_entry PySem.F.slot_enumerate_next hT PySem.F.entry_enumerate_next ?_ (PySem.F.args_enumerate_next_1 _))))
 show wpAny _ _ (field (.ref e) 2 >>= _) _ _ _
 refine wpAny_bind (wpAny_field ho rfl (x:=.ref it) h2 ?_)
 refine wpAny_bind (D.done _ _ _ hst fun h' x he' hx'=>?_)
 obtain ⟨o,ho',hc⟩:=hx'
 refine wpAny_bind (wpAny_isInstance (T:="StopIteration") (b:=true) ⟨o,ho',hc⟩ isSubtype_stop ?_)
 exact wpAny_pure (hQ _ he')
end
end L2
namespace L2
open PySem PySem.Spec PyProof.Rows
structure Src (X : Cx) (pins : List (Addr × Obj)) (σ : St) (it : Addr) (T : String) (n : Nat) (H0 : Hp) (J : Nat→List V→Hp→Heap→Prop) : Prop where
 ty : ∀ i ys H h,J i ys H h→∃ o,h.get? it = some o∧o.cls = .type T
 nl : (Value.type T == Value.type "list") = false∧(Value.type T == Value.type "tuple") = false
 nolen : typeLookup (.type T) "__len__" = pure none
 nohint : typeLookup (.type T) "__length_hint__" = pure none
 self : ∀ (A : Around) (s : Shared) (ys : List V) (H : Hp) (Q : Value→Shared→Prop) (E : Value→Shared→Prop),J 0 ys H s.heap→Q (.ref it) s→wpAny (model X.prog X.w) A (pyIter (.ref it)) Q E s
 keep : ∀ i ys H h h' S zs zs',H0 S = none→H S = some (.lst zs)→J i ys H h→(∀ b o,b ≠ S→h.get? b = some o→h'.get? b = some o)→(∃ o,h'.get? S = some o)→J i ys (upd H S (.lst zs')) h'
 fresh : ∀ i ys H h,J i ys H h→H it = none
 item : ∀ (A : Around) (i : Nat) (s : Shared) (H : Hp) (ys : List V) (E : Value→Shared→Prop),A.handled = none→i < n→Inv X pins σ H s→J i ys H s.heap →
  wpAny (model X.prog X.w) A (pyNext (.ref it)) (fun r s'=>∃ u x H',r = some u∧RelV x u∧Inv X pins σ H' s'∧J (i + 1) (ys ++ [x]) H' s'.heap∧∀ S zs,H S = some (.lst zs)→H' S = some (.lst zs)) E s
 done : ∀ (A : Around) (s : Shared) (H : Hp) (ys : List V) (E : Value→Shared→Prop),A.handled = none→Inv X pins σ H s→J n ys H s.heap →
  wpAny (model X.prog X.w) A (pyNext (.ref it)) (fun r s'=>r = none∧Inv X pins σ H s') E s
section
variable {X : Cx} {pins : List (Addr × Obj)} {σ : St} {it : Addr} {T : String} {n : Nat} {H0 : Hp} {J : Nat→List V→Hp→Heap→Prop}
theorem src_loop (C : Src X pins σ it T n H0 J) (hn : n ≤ sizeLine) {A : Around} (hh : A.handled = none) {R : Result→Shared→Prop} (S : Addr) (hS0 : H0 S = none) (res : Value)
  (fin : ∀ s' H' ys',Inv X pins σ H' s'→H' S = some (.lst ys')→ys'.length = n→(∃ h,J n ys' H' h)→R (.ok (.ret res)) s') :
  ∀ (k i : Nat) (s : Shared) (H : Hp) (ys : List V),n - i = k→i ≤ n→Inv X pins σ H s→J i ys H s.heap→H S = some (.lst ys)→ys.length = i →
  codeAny (model X.prog X.w) A (.builtin "list.extend.loop" ⟨[.ref S,.ref it,res],[]⟩) R s:=by
 intro k
 induction k with
 | zero =>
  intro i s H ys hk hi I j hS hl
  have hin : i = n:=by omega
  subst hin
  refine codeAny_builtin PySem.F.entry_extend_loop ?_
  rw [Around.under_plainId PySem.F.plain_extend_loop _]
  show wpAny _ A.in1 (pyNext (.ref it) >>= _) _ _ s
  refine wpAny_bind (thn (C.done A.in1 s H ys _ hh I j) fun r s' ⟨hr,I'⟩=>?_)
  subst hr
  exact wpAny_pure (fin s' H ys I' hS hl ⟨_,j⟩)
 | succ k ih =>
  intro i s H ys hk hi I j hS hl
  have hlt : i < n:=by omega
  refine codeAny_builtin PySem.F.entry_extend_loop ?_
  rw [Around.under_plainId PySem.F.plain_extend_loop _]
  show wpAny _ A.in1 (pyNext (.ref it) >>= _) _ _ s
  refine wpAny_bind (thn (C.item A.in1 i s H ys _ hh hlt I j) fun r s' ⟨u,x,H',hr,rx,I',j',kS⟩=>?_)
  subst hr
  have hS':=kS S ys hS
  obtain ⟨z,its,m,rv,hl',e⟩:=I'.lstM hS'
  show wpAny _ A.in1 (updateSeq S (·.push u) >>= _) _ _ _
  refine wpAny_bind ?_
  have hu : (its.toArray.push u) = (its ++ [u]).toArray:=by simp
  have I2:=I'.lset (f:=(·.push u)) (its':=its ++ [u]) (ys:=ys ++ [x]) (t':=s'.toks) hS' e hu (rv.append (.cons rx .nil)) (by rw [List.length_append,List.length_singleton]; omega)
  refine wpAny_updateSeq e rfl (wpAny_pure ⟨plainId_quiet PySem.F.plain_extend_loop _,ih (i + 1) _ _ (ys ++ [x]) (by omega) hlt I2 ?_ upd_same (by simp [hl])⟩)
   (by rw [List.size_toArray]; omega) (by show (its.toArray.push u).size ≤ sizeLine + 1; rw [Array.size_push,List.size_toArray]; omega)
  exact C.keep _ _ _ _ _ S ys (ys ++ [x]) hS0 hS' j' (fun b o hb eb=>(Heap.get?_update_other _ _ (Ne.symm hb)).trans eb) ⟨_,Heap.get?_update_self _ e rfl⟩
theorem call_list_src {H : Hp} (C : Src X pins σ it T n H J) (hn : n ≤ sizeLine) {A : Around} (hh : A.handled = none) {s : Shared} {Q : VK} {E : Value→Shared→Prop} (I : Inv X pins σ H s) (j : J 0 [] H s.heap)
  (jn : ∀ S,s.heap.objs.size ≤ S→H S = none→∀ h',(∀ b o,s.heap.get? b = some o→h'.get? b = some o)→J 0 [] (upd H S (.lst [])) h')
  (q : ∀ S H' ys,H S = none→H' S = some (.lst ys)→ys.length = n→(∃ h,J n ys H' h)→Q (.ref S) H') :
  wpAny (model X.prog X.w) A (call (.type "list") [.ref it]) (EP X pins σ Q) E s:=by
 have hf : H s.heap.objs.size = none:=I.hok.fresh (Nat.le_refl _)
 have hne : s.heap.objs.size ≠ it:=by
  obtain ⟨o,e,_⟩:=C.ty _ _ _ _ j
  exact Nat.ne_of_gt (Heap.lt_size e)
 refine callType_codes (Q₁:=fun obj s₁=>obj = .ref s.heap.objs.size∧s₁ = { s with heap:=s.heap.push { cls:=.type "list",data:=.seq #[] } }) PySem.F.called_list (PySem.F.typeCall_list_1 _) PySem.F.entry_list_init
  (code_list_new _ ⟨rfl,rfl⟩) fun obj s₁ h₁=>?_
 obtain ⟨rfl,rfl⟩:=h₁
 have hS : (s.heap.push { cls:=.type "list",data:=.seq #[] }).get? s.heap.objs.size = some { cls:=.type "list",data:=.seq #[] }:=Heap.get?_push_size _ rfl
 have I1 : Inv X pins σ (upd H s.heap.objs.size (.lst [])) { s with heap:=s.heap.push { cls:=.type "list",data:=.seq ([] : List Value).toArray } }:=I.lnew (ys:=[]) (its:=[]) (t':=s.toks) .nil (by simp)
 have j1 : J 0 [] (upd H s.heap.objs.size (.lst [])) (s.heap.push { cls:=.type "list",data:=.seq ([] : List Value).toArray })  :=jn _ (Nat.le_refl _) hf _ fun b o e=>Heap.get?_push_of_some _ e
 refine ⟨⟨_,hS,rfl⟩,PySem.F.args_list_init_2 _ _,?_⟩
 generalize hs1 : ({ s with heap:=s.heap.push { cls:=.type "list",data:=.seq ([] : List Value).toArray } } : Shared) = s1 at I1
 have hS1 : s1.heap.get? s.heap.objs.size = some { cls:=.type "list",data:=.seq ([] : List Value).toArray }:=by rw [← hs1]; exact hS
 replace j1 : J 0 [] (upd H s.heap.objs.size (.lst [])) s1.heap:=by rw [← hs1]; exact j1
 have hs1' : ({ s with heap:=s.heap.push { cls:=.type "list",data:=.seq #[] } } : Shared) = s1:=hs1
 first | rw [hs1'] | skip
 show wpAny _ A.in1.in1 (do let old ← Builtin.List.listItems (.ref s.heap.objs.size); Builtin.List.listUpdate (.ref s.heap.objs.size) (fun _=>#[]); letGo old.toList.reverse; Builtin.List.listExtendWith (.ref s.heap.objs.size) (.ref it) .none) _ _ s1
 generalize s.heap.objs.size = S at *
 refine wpAny_bind ?_
 unfold Builtin.List.listItems
 refine wpAny_bind (wpAny_seqItems hS1 rfl (wpAny_pure ?_))
 show wpAny _ A.in1.in1 (updateSeq S (fun _=>#[]) >>= fun _=>letGo (#[] : Array Value).toList.reverse >>= fun _=>Builtin.List.listExtendWith (.ref S) (.ref it) .none) _ _ s1
 refine wpAny_bind (wpAny_updateSeq hS1 rfl ?_)
 have I2:=I1.lset (f:=fun _=>#[]) (its':=[]) (ys:=[]) (t':=s1.toks) upd_same hS1 rfl .nil (by simp)
 have hS2:=Heap.get?_update_self (Obj.mapSeq (fun _=>(#[] : Array Value))) hS1 rfl
 have j2:=C.keep _ _ _ _ (s1.heap.update S (Obj.mapSeq fun _=>#[])) S [] [] hf upd_same j1 (fun b o hb eb=>(Heap.get?_update_other _ _ (Ne.symm hb)).trans eb) ⟨_,hS2⟩
 rw [upd_upd] at I2 j2
 generalize hs2 : ({ s1 with heap:=s1.heap.update S (Obj.mapSeq fun _=>#[]),toks:=s1.toks } : Shared) = s2 at I2
 replace j2 : J 0 [] (upd H S (.lst [])) s2.heap:=by rw [← hs2]; exact j2
 have hs2' : ({ s1 with heap:=s1.heap.update S (Obj.mapSeq fun _=>#[]) } : Shared) = s2:=hs2
 first | rw [hs2'] | skip
 refine wpAny_bind (wpAny_letGo ?_)
 obtain ⟨oi,ei,ci⟩:=C.ty _ _ _ _ j2
 have hT : s2.TypeIs (.ref it) T:=⟨oi,ei,ci⟩
 unfold Builtin.List.listExtendWith
 refine wpAny_bind (wpAny_typeOf hT ?_)
 have h1 : Builtin.List.listSameRef (.ref S) (.ref it) = false:=by simp [Builtin.List.listSameRef,hne]
 have h2:=C.nl.1
 have h3:=C.nl.2
 simp only [h1,h2,h3,Bool.or_false,Bool.false_eq_true,if_false]
 refine wpAny_bind (C.self _ s2 _ _ _ _ j2 ?_)
 refine wpAny_bind (wpAny_holding ?_)
 unfold Builtin.List.listLengthHint
 refine wpAny_bind (wpAny_specialOf hT C.nolen ?_)
 show wpAny _ A.in1.in1 (specialOf (Value.ref it) (Str.ofString "__length_hint__") >>= _) _ _ _
 refine wpAny_bind (wpAny_specialOf hT C.nohint ?_)
 refine wpAny_pure ?_
 show wpAny _ A.in1.in1 (rule "list.extend.makes-room" >>= fun _=>Builtin.List.listTouch (.ref S) >>= fun _ =>
  again (.builtin "list.extend.loop" ⟨[.ref S,.ref it,.none],[]⟩)) _ _ _
 refine wpAny_bind (wpAny_rule ?_)
 refine wpAny_bind ?_
 show wpAny _ A.in1.in1 (updateSeq S (·.push .none) >>= fun _=>updateSeq S (·.pop)) _ _ _
 obtain ⟨_,its2,m2,rv2,_,e2⟩:=I2.lstM upd_same
 cases rv2
 refine wpAny_bind (wpAny_updateSeq e2 rfl ?_)
 have I3:=I2.lset (f:=(·.push Value.none)) (its':=[.none]) (ys:=[.non]) (t':=s2.toks) upd_same e2 (by simp) (.cons rfl .nil) (by show 1 ≤ sizeLine; decide)
 have hS3:=Heap.get?_update_self (Obj.mapSeq (·.push Value.none)) e2 rfl
 have j3:=C.keep _ _ _ _ (s2.heap.update S (Obj.mapSeq (·.push Value.none))) S [] [.non] hf upd_same j2 (fun b o hb eb=>(Heap.get?_update_other _ _ (Ne.symm hb)).trans eb) ⟨_,hS3⟩
 rw [upd_upd] at I3 j3
 generalize hs3 : ({ s2 with heap:=s2.heap.update S (Obj.mapSeq (·.push Value.none)),toks:=s2.toks } : Shared) = s3 at I3
 replace j3 : J 0 [] (upd H S (.lst [.non])) s3.heap:=by rw [← hs3]; exact j3
 have hs3' : ({ s2 with heap:=s2.heap.update S (Obj.mapSeq (·.push Value.none)) } : Shared) = s3:=hs3
 first | rw [hs3'] | skip
 obtain ⟨_,its3,m3,rv3,hl3,e3⟩:=I3.lstM upd_same
 have hl3' : its3.length = 1:=hl3.symm
 refine wpAny_updateSeq e3 rfl ?_ (by rw [List.size_toArray,hl3']; decide) (by show its3.toArray.pop.size ≤ sizeLine + 1; rw [Array.size_pop,List.size_toArray,hl3']; decide)
 have I4:=I3.lset (f:=(·.pop)) (its':=[]) (ys:=[]) (t':=s3.toks) upd_same e3 (by
  cases its3 with
  | nil=>simp at hl3'
  | cons a r=>cases r with
   | nil=>simp
   | cons b r'=>simp at hl3') .nil (by simp)
 have hS4:=Heap.get?_update_self (Obj.mapSeq (·.pop)) e3 rfl
 have j4:=C.keep _ _ _ _ (s3.heap.update S (Obj.mapSeq (·.pop))) S [.non] [] hf upd_same j3 (fun b o hb eb=>(Heap.get?_update_other _ _ (Ne.symm hb)).trans eb) ⟨_,hS4⟩
 rw [upd_upd] at I4 j4
 refine wpAny_pure ⟨plainId_quiet PySem.F.plain_extend_loop _,src_loop C hn (A:=A.in1) hh S hf .none ?_ n 0 _ _ [] rfl (Nat.zero_le _) I4 j4 upd_same rfl⟩
 intro s' H' ys' I' hS' hl' hj'
 exact ⟨rfl,.ref S,H',I',rfl,q S H' ys' hf hS' hl' hj'⟩
end
end L2
namespace L2
open PySem PySem.Spec PyProof.Rows
section
variable {X : Cx} {pins : List (Addr × Obj)} {σ : St} {H : Hp} {s : Shared} {h' : Heap}
theorem Inv.turned2 {t' : Nat} {i1 i2 : Addr} (I : Inv X pins σ H s) (k : ∀ b o,b ≠ i1→b ≠ i2→s.heap.get? b = some o→h'.get? b = some o) (f1 : FpOk X pins H i1) (f2 : FpOk X pins H i2) : Inv X pins σ H { s with heap:=h',toks:=t' }:=by
 obtain ⟨n1,l1,_,e1,c1,p1⟩:=f1
 obtain ⟨n2,l2,_,e2,c2,p2⟩:=f2
 have nit : ∀ b u,H b = some u→b ≠ i1∧b ≠ i2:=fun b u e=>⟨(fun z=>by rw [z,n1] at e; exact nomatch e),(fun z=>by rw [z,n2] at e; exact nomatch e)⟩
 refine I.step (g':=s.gens) (d':=s.drawn) (ch:=[i1,i2]) (fun b hb=>?_) (fun b o _ _ hc e _=>k b o (fun z=>hc (by simp [z])) (fun z=>hc (by simp [z])) e) (fun b o _ _ hc e _=>⟨o.slots,k b o (fun z=>hc (by simp [z])) (fun z=>hc (by simp [z])) e⟩) (fun _ _ _ _ n=>n)
  (fun b o hc e=>⟨o,k b o (fun z=>hc (by simp [z])) (fun z=>hc (by simp [z])) e⟩) (fun _ _ e=>e) (fun _ _ _ e=>e) (fun b ps e=>⟨#[],by rw [e]; simp⟩) (fun m hm=>?_) (fun b u e=>?_) I.bare
 ·rcases List.mem_cons.mp hb with rfl | hb
  ·exact ⟨e1,l1,c1,p1⟩
  ·rw [List.mem_singleton.mp hb]
   exact ⟨e2,l2,c2,p2⟩
 ·obtain ⟨o,es,ep,ho,r⟩:=hm
  exact ⟨o,es,ep,k _ o (Ne.symm l1) (Ne.symm l2) ho,r⟩
 ·refine (I.hok b u e).stay (fun c v hc q=>k c v ?_ ?_ q) (fun _ q=>q) fun _ _ q=>q
  ·rcases hc with z | z
   ·rw [z]; exact (nit b u e).1
   ·exact (nit c _ z).1
  ·rcases hc with z | z
   ·rw [z]; exact (nit b u e).2
   ·exact (nit c _ z).2
end
theorem FpOk.of {X : Cx} {pins : List (Addr × Obj)} {H H' : Hp} {b : Addr} (f : FpOk X pins H b) (h : H' b = none) : FpOk X pins H' b:=⟨h,f.2⟩
theorem SqT.kept {K : PySem.W.Frag} {H : Hp} {S a : Addr} {zs zs' xs : List V} (hS : H S = some (.lst zs)) (h : SqT K H a xs) : SqT K (upd H S (.lst zs')) a xs:=by
 rcases h with (h | ⟨o,h⟩) | h
 ·exact .inl (.inl (by rw [upd_ne (ne_of h hS (by intro z; cases z))]; exact h))
 ·exact .inl (.inr ⟨o,by rw [upd_ne (ne_of h hS (by intro z; cases z))]; exact h⟩)
 ·exact .inr h
theorem SqT.same {K : PySem.W.Frag} {H H' : Hp} {a : Addr} {xs : List V} (h : SqT K H a xs) (e : Same H H') : SqT K H' a xs:=e.tup h
noncomputable def Pairs (H : Hp) (xs : List V) (ys : List V) : Prop:=∀ (j : Nat) (y : V),ys[j]? = some y→∃ (t : Addr) (x : V),y = V.ref t∧xs[j]? = some x∧H t = some (.tup [.int j,x])
noncomputable def JEn (K : PySem.W.Frag) (H0 : Hp) (en it a : Addr) (xs : List V) : Nat→List V→Hp→Heap→Prop:=fun i ys H h =>
 EnSt h en it i∧h.IsTupleIter it a i∧(H en = none∧H it = none)∧SqT K H a xs∧ys.length = i∧Pairs H xs ys∧Same H0 H
theorem en_nolen : typeLookup (.type "enumerate") "__len__" = pure none:=by rw [typeLookup_type,builtinLookup_eq_fast]; kernel_rfl
theorem en_nohint : typeLookup (.type "enumerate") "__length_hint__" = pure none:=by rw [typeLookup_type,builtinLookup_eq_fast]; kernel_rfl
theorem src_enum {X : Cx} {pins : List (Addr × Obj)} {σ : St} {H0 : Hp} {en it a : Addr} {xs : List V} (fe : FpOk X pins H0 en) (fi : FpOk X pins H0 it) (hne : en ≠ it) (hae : a ≠ en) (hai : a ≠ it) : Src X pins σ en "enumerate" xs.length H0 (JEn X.K H0 en it a xs) where
 ty:=fun i ys H h j=>by
  obtain ⟨vs,e⟩:=j.1.obj
  exact ⟨_,e,rfl⟩
 nl:=by decide
 nolen:=en_nolen
 nohint:=en_nohint
 self:=fun A s ys H Q E j q=>by
  rcases j.1 with ⟨_,old,e⟩ | ⟨z,_⟩
  ·exact wpAny_pyIter_enum e q
  ·exact absurd z (Nat.lt_irrefl _)
 keep:=fun i ys H h h' S zs zs' h0 hS j k al=>by
  obtain ⟨j1,j2,⟨j3,j4⟩,j5,j6,j7,j8⟩:=j
  have ne1 : en ≠ S:=fun z=>by rw [z,hS] at j3; cases j3
  have ne2 : it ≠ S:=fun z=>by rw [z,hS] at j4; cases j4
  refine ⟨?_,?_,⟨by rw [upd_ne ne1]; exact j3,by rw [upd_ne ne2]; exact j4⟩,j5.kept hS,j6,fun m y hy=>?_,fun b o e=>?_⟩
  ·rcases j1 with ⟨z,old,e⟩ | ⟨z,a0,oa,f1,old,e,ea,x1,x2⟩
   ·exact .inl ⟨z,old,k _ _ ne1 e⟩
   ·by_cases hs : a0 = S
    ·subst hs
     obtain ⟨o,eo⟩:=al
     exact .inr ⟨z,a0,o,f1,old,k _ _ ne1 e,eo,x1,x2⟩
    ·exact .inr ⟨z,a0,oa,f1,old,k _ _ ne1 e,k _ _ hs ea,x1,x2⟩
  ·exact j2.at fun o e=>k _ _ ne2 e
  ·obtain ⟨t,x,e1,e2,e3⟩:=j7 m y hy
   exact ⟨t,x,e1,e2,by rw [upd_ne (ne_of e3 hS (by intro z; cases z))]; exact e3⟩
  ·have : b ≠ S:=fun z=>by rw [z,h0] at e; cases e
   rw [upd_ne this]
   exact j8 b o e
 fresh:=fun i ys H h j=>j.2.2.1.1
 item:=fun A i s H ys E hh hi I j=>by
  obtain ⟨j1,j2,⟨j3,j4⟩,j5,j6,j7,j8⟩:=j
  obtain ⟨its,rv,p,hz⟩:=I.tuple j5
  have hl:=rv.length
  have D:=draws_tup (prog:=X.prog) (w:=X.w) (A:=A.in1) hh it a hai its.toArray
  refine en_next D j1 ⟨j2,p⟩ (by rw [List.size_toArray]; omega) hne (by simp [hne,Ne.symm hae]) fun x h' tk hx st' it' ht hsz kk=>?_
  have I1 : Inv X pins σ H { s with heap:=h',toks:=tk + 1 }:=I.turned2 (fun b o h1 h2 e=>kk b o h1 h2 e) (fe.of j3) (fi.of j4)
  have hx' : its[i]? = some x:=by simpa using hx
  have hxs : i < xs.length:=hi
  obtain ⟨u,hu,ru⟩:=rv.get (List.getElem?_eq_getElem hxs)
  rw [hx'] at hu
  cases hu
  have hf : H s.heap.objs.size = none:=I.hok.fresh (Nat.le_refl _)
  have I2 : Inv X pins σ (upd H s.heap.objs.size (.tup [.int i,xs[i]])) { s with heap:=h',toks:=tk + 1 }:=by
   have hokN : HOk X.prog X.w (upd H s.heap.objs.size (.tup [.int i,xs[i]])) h':=fun b o e=>by
    by_cases hb : b = s.heap.objs.size
    ·subst hb
     rw [upd_same] at e
     cases e
     exact ⟨by show 2 ≤ sizeLine; decide,[.int i tk,x],.cons ⟨tk,rfl⟩ (.cons ru .nil),⟨_,ht,rfl,_,rfl⟩⟩
    ·rw [upd_ne hb] at e
     refine (I1.hok b o e).stay (fun c v _ q=>q) (fun c q=>?_) fun c zs q=>?_
     ·rw [upd_ne (ne_of_none q hf)]; exact q
     ·rw [upd_ne (ne_of_none q hf)]; exact q
   have u : Un (frs X.stack) [en,it] H (upd H s.heap.objs.size (.tup [.int i,xs[i]])) s.heap h':={
    keep:=fun b o e n _ hx=>kk b o (fun z=>hx (by simp [z])) (fun z=>hx (by simp [z])) e
    slot:=fun b o e n _ hx=>⟨o.slots,kk b o (fun z=>hx (by simp [z])) (fun z=>hx (by simp [z])) e⟩
    free:=fun b o e n _=>by rw [upd_ne (Nat.ne_of_lt (Heap.lt_size e))]; exact n
    there:=fun b o e hx=>⟨o,kk b o (fun z=>hx (by simp [z])) (fun z=>hx (by simp [z])) e⟩
    tups:=fun b zs e=>by rw [upd_ne (ne_of_none e hf)]; exact e
    frzs:=fun b o u e=>by rw [upd_ne (ne_of_none e hf)]; exact e
    tbls:=fun b ps e=>⟨#[],by rw [upd_ne (ne_of_none e hf),e]; simp⟩ }
   refine I.call (g':=s.gens) (d':=s.drawn) (t':=tk + 1) u hokN I.bare fun b hb=>?_
   rcases List.mem_cons.mp hb with rfl | hb
   ·exact ⟨fe.2.2.2.1,fe.2.1,fe.2.2.2.2.1,fe.2.2.2.2.2⟩
   ·rw [List.mem_singleton.mp hb]
    exact ⟨fi.2.2.2.1,fi.2.1,fi.2.2.2.2.1,fi.2.2.2.2.2⟩
  have sm : Same H (upd H s.heap.objs.size (.tup [.int i,xs[i]])):=Same.upd hf
  have ne1 : en ≠ s.heap.objs.size:=by obtain ⟨_,e⟩:=j1.obj; exact Nat.ne_of_lt (Heap.lt_size e)
  have ne2 : it ≠ s.heap.objs.size:=by obtain ⟨_,e,_⟩:=j2; exact Nat.ne_of_lt (Heap.lt_size e)
  refine ⟨_,.ref s.heap.objs.size,_,rfl,rfl,I2,⟨st',it'.1,⟨by rw [upd_ne ne1]; exact j3,by rw [upd_ne ne2]; exact j4⟩,j5.same sm,by simp [j6],fun m y hy=>?_,j8.trans sm⟩,fun S zs e=>sm S _ e⟩
  by_cases hm : m < i
  ·rw [List.getElem?_append_left (by omega)] at hy
   obtain ⟨t,z,e1,e2,e3⟩:=j7 m y hy
   exact ⟨t,z,e1,e2,sm _ _ e3⟩
  ·have hlen:=(List.getElem?_eq_some_iff.mp hy).1
   rw [List.length_append,List.length_singleton] at hlen
   have : m = i:=by omega
   subst this
   rw [List.getElem?_append_right (by omega),j6,Nat.sub_self] at hy
   have hy : V.ref s.heap.objs.size = y:=by simpa using hy
   exact ⟨_,xs[m],hy.symm,List.getElem?_eq_getElem hxs,upd_same⟩
 done:=fun A s H ys E hh I j=>by
  obtain ⟨j1,j2,⟨j3,j4⟩,j5,j6,j7,j8⟩:=j
  obtain ⟨its,rv,p,hz⟩:=I.tuple j5
  have hl:=rv.length
  have D:=draws_tup (prog:=X.prog) (w:=X.w) (A:=A.in1) hh it a hai its.toArray
  have e : xs.length = its.toArray.size:=by rw [List.size_toArray]; omega
  rw [e] at j1 j2
  refine en_end D j1 ⟨j2,p⟩ fun h' eb=>⟨rfl,?_⟩
  obtain ⟨g0,g1,g2,g3,g4,g5⟩:=fi.of j4
  exact I.turned (t':=s.toks) (fun b o hb e=>eb b o hb e) g0 g1 g3 g4 g5
section
variable {X : Cx}
theorem boot_list' : bootBuiltins "list" = some (.type "list"):=by decide +kernel
noncomputable def tListEn (K : PySem.W.Frag) (ta : TA) : TE:=fun σ H Q=>ta σ H fun vs H1=>∃ a xs,vs = [.ref a]∧SqT K H1 a xs ∧
 ∀ (S : Addr) (ys : List V) (H2 : Hp),H1 S = none→Same H1 H2→ys.length = xs.length→Pairs H2 xs ys→H2 S = some (.lst ys)→Q (.ref S) H2
theorem qe_list_enumerate {e : Expr} {ta : TA} {p p2 pos pos2 : Pos} (hg : Gl X "list") (hm : X.mg "list" = none) (hg2 : Gl X "enumerate") (hm2 : X.mg "enumerate" = none) (ha : QA X [e] ta) (hc : X.calm = true:=by rfl)
  (hs : starEach [.Call (.Name "enumerate" p2) [e] [] pos2] X.env = [(false,eval (.Call (.Name "enumerate" p2) [e] [] pos2) X.env)]:=by rfl) (hs2 : starEach [e] X.env = [(false,eval e X.env)]:=by rfl) :
  QE X (.Call (.Name "list" p) [.Call (.Name "enumerate" p2) [e] [] pos2] [] pos) (tListEn X.K ta):=by
 refine ⟨fun pins s σ H Q I h=>?_⟩
 refine Call_ (ld_blt I hg hm boot_list' (PyProof.Rows.callWith_type1 ?_ hs rfl))
 rw [hs]
 show wpAny _ _ (spliced ((false,eval (.Call (.Name "enumerate" p2) [e] [] pos2) X.env) :: [])) _ _ s
 refine Calls.spliced_cons ?_
 refine Call_ (ld_blt I hg2 hm2 PyProof.Rows.boot_enumerate (PyProof.Rows.callWith_type1 (thn (ha.run pos2 pins s σ H _ I h) fun us s1 ⟨vs,H1,I1,r1,q1⟩=>?_) hs2 rfl))
 obtain ⟨a,xs,e1,hq,q⟩:=q1
 subst e1
 cases r1 with
 | cons r rr =>
  cases rr
  cases r
  obtain ⟨its,rv,pt,hz⟩:=I1.tuple hq
  have hlt : a < s1.heap.objs.size:=by obtain ⟨o,e,_⟩:=id pt; exact Heap.lt_size e
  refine call_enum_tup (show s1.heap.IsTuple a its.toArray from pt) fun h' hen hit hsz hk=>?_
  refine Calls.spliced_nil ?_
  have I2 : Inv X pins σ H1 { s1 with heap:=h' }:=I1.kept (t':=s1.toks) hk
  have fe:=I1.fpOk (b:=s1.heap.objs.size + 1) (Nat.le_succ _) (I1.hok.fresh (Nat.le_succ _))
  have fi:=I1.fpOk (b:=s1.heap.objs.size) (Nat.le_refl _) (I1.hok.fresh (Nat.le_refl _))
  have C:=src_enum (X:=X) (pins:=pins) (σ:=σ) (H0:=H1) (en:=s1.heap.objs.size + 1) (it:=s1.heap.objs.size) (a:=a) (xs:=xs) fe fi (Nat.succ_ne_self _) (Nat.ne_of_lt (Nat.lt_succ_of_lt hlt)) (Nat.ne_of_lt hlt)
  refine call_list_src C (by omega) (I1.ok.hd hc) I2 ⟨.inl ⟨rfl,_,hen⟩,hit,⟨fe.1,fi.1⟩,hq,rfl,fun j y hy=>by simp at hy,Same.refl _⟩ (fun S hge hS h2 k2=>?_) fun S H' ys hS hS' hl' hj=>?_
  ·have sm : Same H1 (upd H1 S (.lst [])):=Same.upd hS
   refine ⟨.inl ⟨rfl,_,k2 _ _ hen⟩,hit.at fun o e=>k2 _ _ e,⟨?_,?_⟩,hq.same sm,rfl,fun j y hy=>by simp at hy,sm⟩
   ·rw [upd_ne (show s1.heap.objs.size + 1 ≠ S from fun z=>?_)]
    ·exact fe.1
    ·have hge : h'.objs.size ≤ S:=hge
     omega
   ·rw [upd_ne (show s1.heap.objs.size ≠ S from fun z=>?_)]
    ·exact fi.1
    ·have hge : h'.objs.size ≤ S:=hge
     omega
  ·obtain ⟨h,j⟩:=hj
   exact q S ys H' hS j.2.2.2.2.2.2 hl' j.2.2.2.2.2.1 hS'
end
end L2
namespace L2
open PySem PySem.Spec PyProof.Rows
section
variable {X : Cx}
end
end L2
namespace L2
open PySem PySem.SeqAt
open PySem.AutoSeq1 (wpAny_loadPart')
open PySem.MeetsSeq PySem.MeetsSeq2 PySem.MeetsSeq3 PySem.SeqRoads2
theorem ne_loopAt (l b : Addr) (items items2 : Array Value) (n n2 : Nat) (dd dd2 : Option Addr) (sl sl2 : Array (Option Value)) (hsz : items.size = items2.size) (e : Nat→Bool) (k : Nat) :
  ∀ i : Nat,items.size - i = k→Meets (Builtin.«list.__eq__.loop» ⟨[.ref l,.ref b,rawInt i,rawInt 3],[]⟩)
   (fun A R s=>s.heap.get? l = some { cls:=.type "list",dict:=dd,data:=.seq items n,slots:=sl }∧s.heap.get? b = some { cls:=.type "list",dict:=dd2,data:=.seq items2 n2,slots:=sl2 } ∧
    (∀ j (h1 : j < items.size) (h2 : j < items2.size),EqAt A.in1 s items[j] items2[j] (e j)) ∧
    R (.ok (.ret (.bool (!((List.range items.size).drop i).all e)))) s):=by
 induction k with
 | zero =>
  intro i hk prog w A R s h
  obtain ⟨hp,g,d,tk,os⟩:=s; obtain ⟨hl,hb,he,h⟩:=h
  wp_walk using wpAny_loadPart' hl,wpAny_loadPart' hb
  have hi1 : items[((i : Nat) : Int).toNat]? = none:=by simp; omega
  have hi2 : items2[((i : Nat) : Int).toNat]? = none:=by simp; omega
  have hd : (List.range items.size).drop i = []:=by simp; omega
  rw [hd] at h
  rw [hi1,hi2]
  wp_walk using wpAny_loadPart' hl,wpAny_loadPart' hb
  show R (.ok (.ret (.bool (items.size != items2.size)))) _
  rw [hsz]
  simpa using h
 | succ k ih =>
  intro i hk prog w A R s h
  obtain ⟨hp,g,d,tk,os⟩:=s; obtain ⟨hl,hb,he,h⟩:=h
  wp_walk using wpAny_loadPart' hl,wpAny_loadPart' hb
  have hlt : i < items.size:=by omega
  have hlt2 : i < items2.size:=by omega
  have hi1 : items[((i : Nat) : Int).toNat]? = some items[i]:=by simp [hlt]
  have hi2 : items2[((i : Nat) : Int).toNat]? = some items2[i]:=by simp [hlt2]
  have hd : (List.range items.size).drop i = i :: (List.range items.size).drop (i + 1):=by simp [List.drop_eq_getElem_cons,hlt]
  have hc : ((i : Int) + 1) = ((i + 1 : Nat) : Int):=by push_cast; rfl
  rw [hd,List.all_cons] at h
  rw [hi1,hi2]
  refine wpAny_bind (he i hlt hlt2 prog w _ _ ?_)
  cases hb' : e i with
  | true =>
   rw [hb'] at h
   wp_walk
   rw [hc]
   exact ⟨plainId_quiet plain_eq_loop _,codeAny_builtin entry_eq_loop (by
    rw [Around.under_plainId plain_eq_loop _]
    exact ih (i + 1) (by omega) prog w A R _ ⟨hl,hb,he,by simpa using h⟩)⟩
  | false =>
   rw [hb'] at h
   wp_walk using wpAny_loadPart' hl,wpAny_loadPart' hb
   rw [hi1,hi2]
   wp_walk
   simpa using h
theorem list_neAt (l b : Addr) (items items2 : Array Value) (n n2 : Nat) (dd dd2 : Option Addr) (sl sl2 : Array (Option Value)) (hsz : items.size = items2.size) (e : Nat→Bool) :
  Meets (Builtin.«list.__ne__» ⟨[.ref l,.ref b],[]⟩)
   (fun A R s=>s.heap.get? l = some { cls:=.type "list",dict:=dd,data:=.seq items n,slots:=sl }∧s.heap.get? b = some { cls:=.type "list",dict:=dd2,data:=.seq items2 n2,slots:=sl2 } ∧
    (∀ j (h1 : j < items.size) (h2 : j < items2.size),EqAt A.in1 s items[j] items2[j] (e j)) ∧
    R (.ok (.ret (.bool (!(List.range items.size).all e)))) s):=by
 intro prog w A R s h
 obtain ⟨hp,g,d,tk,os⟩:=s; obtain ⟨hl,hb,he,h⟩:=h
 have f3:=PySem.AutoSeq1.sub_list_list
 have hne : ¬ (items.size != items2.size) = true:=by simp [hsz]
 wp_walk using wpAny_loadPart' hl,wpAny_loadPart' hb
 exact ⟨plainId_quiet plain_eq_loop _,codeAny_builtin entry_eq_loop (by
  rw [Around.under_plainId plain_eq_loop _]
  exact ne_loopAt l b items items2 n n2 dd dd2 sl sl2 hsz e _ 0 rfl prog w A R _ ⟨hl,hb,he,by simpa using h⟩)⟩
theorem tuple_neAt (l b : Addr) (items items2 : Array Value) (n n2 : Nat) (dd dd2 : Option Addr) (sl sl2 : Array (Option Value)) (e : Nat→Bool) :
  Meets (Builtin.«tuple.__ne__» ⟨[.ref l,.ref b],[]⟩)
   (fun A R s=>s.heap.get? l = some { cls:=.type "tuple",dict:=dd,data:=.seq items n,slots:=sl }∧s.heap.get? b = some { cls:=.type "tuple",dict:=dd2,data:=.seq items2 n2,slots:=sl2 } ∧
    (∀ j (h1 : j < items.size) (h2 : j < items2.size),EqAt A.in1 s items[j] items2[j] (e j)) ∧
    R (.ok (.ret (.bool (!((List.range (min items.size items2.size)).all e && items.size == items2.size))))) s) :=
 .of_wp fun prog w A R s h=>by
  obtain ⟨hp,g,d,tk,os⟩:=s; obtain ⟨hl,hb,he,h⟩:=h
  have f2:=PySem.AutoSeq1.sub_tuple_tuple
  have hZ : (items.toList.zip items2.toList).length = min items.size items2.size:=by simp
  wp_walk using wpAny_loadPart' hl,wpAny_loadPart' hb,wpAny_forIn_list _ (fun rest b s'=>b.1 = none∧s' = ⟨hp,g,d,tk,os⟩∧∃ i,rest = (items.toList.zip items2.toList).drop i ∧
   R (.ok (.ret (.bool (!(((List.range (min items.size items2.size)).drop i).all e && items.size == items2.size))))) ⟨hp,g,d,tk,os⟩) _
  case turn =>
   rintro ⟨y,x⟩ rest b s' ⟨hb',rfl,i,hz,hR⟩
   have hlt : i < (items.toList.zip items2.toList).length:=by
    rcases Nat.lt_or_ge i (items.toList.zip items2.toList).length with h' | h'
    ·exact h'
    ·rw [List.drop_of_length_le h'] at hz; cases hz
   have hm : i < min items.size items2.size:=hZ ▸ hlt
   have h1 : i < items.size:=Nat.lt_of_lt_of_le hm (Nat.min_le_left _ _)
   have h2 : i < items2.size:=Nat.lt_of_lt_of_le hm (Nat.min_le_right _ _)
   rw [List.drop_eq_getElem_cons hlt] at hz
   injection hz with hyx hrest
   have hy : y = items[i]:=by have:=congrArg Prod.fst hyx; simpa using this
   have hx : x = items2[i]:=by have:=congrArg Prod.snd hyx; simpa using this
   subst hy hx
   have hd : (List.range (min items.size items2.size)).drop i = i :: (List.range (min items.size items2.size)).drop (i + 1):=by simp [List.drop_eq_getElem_cons,hm]
   rw [hd,List.all_cons] at hR
   refine wpAny_bind (he i h1 h2 prog w _ _ ?_)
   cases hy : e i with
   | true =>
    rw [hy] at hR
    wp_walk
    exact ⟨rfl,rfl,i + 1,hrest,by simpa using hR⟩
   | false =>
    rw [hy] at hR
    wp_walk
    exact ⟨_,rfl,by simpa using hR⟩
  case fin =>
   rintro ⟨b1,b2⟩ s' ⟨hb',rfl,i,hz,hR⟩
   simp only at hb'
   subst hb'
   have hge : min items.size items2.size ≤ i:=by
    rcases Nat.lt_or_ge i (items.toList.zip items2.toList).length with h' | h'
    ·rw [List.drop_eq_getElem_cons h'] at hz; cases hz
    ·exact hZ ▸ h'
   rw [List.drop_of_length_le (by simpa using hge)] at hR
   wp_walk
   exact ⟨_,rfl,by simpa [Builtin.Tuple.tupleCompareSizes,bne] using hR⟩
  case h =>
   exact ⟨rfl,rfl,0,rfl,by simpa using h⟩
section
variable {prog : Program} {w : World} {A : Around} {E : Value→Shared→Prop} {s : Shared}
theorem ne_listsAt {l b : Addr} {items items2 : Array Value} {e : Nat→Bool} {Q : Value→Shared→Prop} (hl : s.heap.IsList l items) (hb : s.heap.IsList b items2) (hsz : items.size = items2.size) (hu : A.units < cLine)
  (he : ∀ j (h1 : j < items.size) (h2 : j < items2.size),EqAt A.in1 s items[j] items2[j] (e j)) (h : Q (.bool (!(List.range items.size).all e)) s) : wpAny (model prog w) A (compareOp .NotEq (.ref l) (.ref b)) Q E s:=by
 obtain ⟨⟨cls,dd,data,sl⟩,ho,hc,n,hd⟩:=id hl
 obtain ⟨⟨cls2,dd2,data2,sl2⟩,ho2,hc2,n2,hd2⟩:=id hb
 simp only at hc hd hc2 hd2
 subst hc hd hc2 hd2
 exact richCompare_meets_room (op:=.NotEq) ⟨_,ho,rfl⟩ ⟨_,ho2,rfl⟩ F.slot_list_ne F.entry_list_ne (F.args_list_ne_2 _ _) (list_neAt l b items items2 n n2 dd dd2 sl sl2 hsz e)
  ⟨ho,ho2,he,show Value.bool (!(List.range items.size).all e) ≠ Value.notImplemented∧Q (.bool (!(List.range items.size).all e)) s from ⟨(fun x=>nomatch x),h⟩⟩ hu
theorem ne_tuplesAt {l b : Addr} {items items2 : Array Value} {e : Nat→Bool} {Q : Value→Shared→Prop} (hl : s.heap.IsTuple l items) (hb : s.heap.IsTuple b items2) (hu : A.units < cLine)
  (he : ∀ j (h1 : j < items.size) (h2 : j < items2.size),EqAt A.in1 s items[j] items2[j] (e j)) (h : Q (.bool (!((List.range (min items.size items2.size)).all e && items.size == items2.size))) s) : wpAny (model prog w) A (compareOp .NotEq (.ref l) (.ref b)) Q E s:=by
 obtain ⟨⟨cls,dd,data,sl⟩,ho,hc,n,hd⟩:=id hl
 obtain ⟨⟨cls2,dd2,data2,sl2⟩,ho2,hc2,n2,hd2⟩:=id hb
 simp only at hc hd hc2 hd2
 subst hc hd hc2 hd2
 exact richCompare_meets_room (op:=.NotEq) ⟨_,ho,rfl⟩ ⟨_,ho2,rfl⟩ F.slot_tuple_ne F.entry_tuple_ne (F.args_tuple_ne_2 _ _) (tuple_neAt l b items items2 n n2 dd dd2 sl sl2 e)
  ⟨ho,ho2,he,show Value.bool (!((List.range (min items.size items2.size)).all e && items.size == items2.size)) ≠ Value.notImplemented∧Q (.bool (!((List.range (min items.size items2.size)).all e && items.size == items2.size))) s from ⟨(fun x=>nomatch x),h⟩⟩ hu
end
end L2
namespace L2
open PySem PySem.Spec PyProof.Rows
inductive Dt where
 | flat (v : V)
 | tup (ds : List Dt)
 | lst (ds : List Dt)
inductive IsD (K : PySem.W.Frag) (H : Hp) : Nat→V→Dt→Prop where
 | flat {n : Nat} {v : V} (h : flatV v = true) : IsD K H n v (.flat v)
 | tup {n : Nat} {a : Addr} {vs : List V} {ds : List Dt} (q : SqT K H a vs) (l : vs.length = ds.length) (h : ∀ (j : Nat) (v : V) (d : Dt),vs[j]? = some v→ds[j]? = some d→IsD K H n v d) : IsD K H (n + 1) (.ref a) (.tup ds)
 | lst {n : Nat} {a : Addr} {vs : List V} {ds : List Dt} (q : SqL K H a vs) (l : vs.length = ds.length) (h : ∀ (j : Nat) (v : V) (d : Dt),vs[j]? = some v→ds[j]? = some d→IsD K H n v d) : IsD K H (n + 1) (.ref a) (.lst ds)
theorem IsD.same {K : PySem.W.Frag} {H H' : Hp} {n : Nat} {v : V} {d : Dt} (h : IsD K H n v d) (e : Same H H') : IsD K H' n v d:=by
 induction h with
 | flat h=>exact .flat h
 | tup q l _ ih=>exact .tup (e.tup q) l ih
 | lst q l _ ih=>exact .lst (e.seq q) l ih
theorem IsD.up {K : PySem.W.Frag} {H : Hp} {n m : Nat} {v : V} {d : Dt} (h : IsD K H n v d) (hm : n ≤ m) : IsD K H m v d:=by
 induction h generalizing m with
 | flat h=>exact .flat h
 | tup q l _ ih =>
  obtain ⟨k,rfl⟩ : ∃ k,m = k + 1:=⟨m - 1,by omega⟩
  exact .tup q l fun j v d e1 e2=>ih j v d e1 e2 (by omega)
 | lst q l _ ih =>
  obtain ⟨k,rfl⟩ : ∃ k,m = k + 1:=⟨m - 1,by omega⟩
  exact .lst q l fun j v d e1 e2=>ih j v d e1 e2 (by omega)
theorem eqV_self {v : V} (h : flatV v = true) : eqV v v = true:=by
 cases v with
 | non=>rfl
 | bl b=>simp [eqV]
 | int i=>simp [eqV]
 | str x=>simp [eqV]
 | byt _=>cases h
 | flt _=>cases h
 | ref _=>cases h
 | ty _=>cases h
section
variable {X : Cx} {pins : List (Addr × Obj)} {σ : St} {H : Hp} {s : Shared}
theorem eqAt_same (I : Inv X pins σ H s) : ∀ {n : Nat} {x y : V} {d : Dt},IsD X.K H n x d→IsD X.K H n y d→∀ {A : Around} {u v : Value},RelV x u→RelV y v→A.units + n < cLine→SeqAt.EqAt A s u v true:=by
 intro n
 induction n with
 | zero =>
  intro x y d hx hy A u v rx ry hu
  cases hx with
  | flat fx =>
   cases hy with
   | flat fy =>
    have:=eqAt_V (A:=A) (s:=s) rx ry fx fy
    rw [eqV_self fx] at this
    exact this
 | succ n ih =>
  intro x y d hx hy A u v rx ry hu
  cases hx with
  | flat fx =>
   cases hy with
   | flat fy =>
    have:=eqAt_V (A:=A) (s:=s) rx ry fx fy
    rw [eqV_self fx] at this
    exact this
  | @tup _ a vs ds q l h =>
   cases hy with
   | @tup _ b ws _ q' l' h' =>
    cases rx
    cases ry
    by_cases hab : a = b
    ·subst hab
     exact SeqAt.EqAt.same _
    obtain ⟨its,r1,p1,_⟩:=I.tuple q
    obtain ⟨its2,r2,p2,_⟩:=I.tuple q'
    have l1:=r1.length
    have l2:=r2.length
    have:=SeqAt.RcAt.tuples (A:=A) (e:=fun _=>true) (show s.heap.IsTuple a its.toArray from p1) (show s.heap.IsTuple b its2.toArray from p2) (by omega) fun j h1 h2=>by
     have h1' : j < vs.length:=by simp only [List.size_toArray] at h1; omega
     have h2' : j < ws.length:=by simp only [List.size_toArray] at h2; omega
     obtain ⟨u1,g1,k1⟩:=r1.get (List.getElem?_eq_getElem h1')
     obtain ⟨u2,g2,k2⟩:=r2.get (List.getElem?_eq_getElem h2')
     have e1 : its.toArray[j] = u1:=by
      have : its[j]? = some its[j]:=by simp
      rw [this] at g1
      simpa using g1
     have e2 : its2.toArray[j] = u2:=by
      have : its2[j]? = some its2[j]:=by simp
      rw [this] at g2
      simpa using g2
     rw [e1,e2]
     have hd : j < ds.length:=by omega
     exact ih (h j _ _ (List.getElem?_eq_getElem h1') (List.getElem?_eq_getElem hd)) (h' j _ _ (List.getElem?_eq_getElem h2') (List.getElem?_eq_getElem hd)) k1 k2 (by show A.units + 1 + n < cLine; omega)
    have e : ((List.range (min its.toArray.size its2.toArray.size)).all (fun _=>true) && its.toArray.size == its2.toArray.size) = true:=by
     have : its.toArray.size = its2.toArray.size:=by simp only [List.size_toArray]; omega
     rw [this]
     simp
    rw [e] at this
    exact SeqAt.EqAt.of_refs hab this
  | @lst _ a vs ds q l h =>
   cases hy with
   | @lst _ b ws _ q' l' h' =>
    cases rx
    cases ry
    by_cases hab : a = b
    ·subst hab
     exact SeqAt.EqAt.same _
    obtain ⟨its,r1,p1,_⟩:=I.list q
    obtain ⟨its2,r2,p2,_⟩:=I.list q'
    have l1:=r1.length
    have l2:=r2.length
    have:=SeqAt.RcAt.lists (A:=A) (e:=fun _=>true) p1.isList p2.isList (by simp only [List.size_toArray]; omega) (by omega) fun j h1 h2=>by
     have h1' : j < vs.length:=by simp only [List.size_toArray] at h1; omega
     have h2' : j < ws.length:=by simp only [List.size_toArray] at h2; omega
     obtain ⟨u1,g1,k1⟩:=r1.get (List.getElem?_eq_getElem h1')
     obtain ⟨u2,g2,k2⟩:=r2.get (List.getElem?_eq_getElem h2')
     have e1 : its.toArray[j] = u1:=by
      have : its[j]? = some its[j]:=by simp
      rw [this] at g1
      simpa using g1
     have e2 : its2.toArray[j] = u2:=by
      have : its2[j]? = some its2[j]:=by simp
      rw [this] at g2
      simpa using g2
     rw [e1,e2]
     have hd : j < ds.length:=by omega
     exact ih (h j _ _ (List.getElem?_eq_getElem h1') (List.getElem?_eq_getElem hd)) (h' j _ _ (List.getElem?_eq_getElem h2') (List.getElem?_eq_getElem hd)) k1 k2 (by show A.units + 1 + n < cLine; omega)
    have e : (List.range its.toArray.size).all (fun _=>true) = true:=by simp
    rw [e] at this
    exact SeqAt.EqAt.of_refs hab this
theorem itemsAt (I : Inv X pins σ H s) {n : Nat} {A : Around} {vs ws : List V} {its its2 : List Value} {ds : List Dt} (r1 : Vals vs its) (r2 : Vals ws its2) (l : vs.length = ds.length) (l' : ws.length = ds.length)
  (h : ∀ (j : Nat) (v : V) (d : Dt),vs[j]? = some v→ds[j]? = some d→IsD X.K H n v d) (h' : ∀ (j : Nat) (v : V) (d : Dt),ws[j]? = some v→ds[j]? = some d→IsD X.K H n v d) (hu : A.units + n < cLine) :
  ∀ j (h1 : j < its.toArray.size) (h2 : j < its2.toArray.size),SeqAt.EqAt A s its.toArray[j] its2.toArray[j] ((fun _=>true) j):=fun j h1 h2=>by
 have l1:=r1.length
 have l2:=r2.length
 have h1' : j < vs.length:=by simp only [List.size_toArray] at h1; omega
 have h2' : j < ws.length:=by simp only [List.size_toArray] at h2; omega
 obtain ⟨u1,g1,k1⟩:=r1.get (List.getElem?_eq_getElem h1')
 obtain ⟨u2,g2,k2⟩:=r2.get (List.getElem?_eq_getElem h2')
 have e1 : its.toArray[j] = u1:=by
  have : its[j]? = some its[j]:=by simp
  rw [this] at g1
  simpa using g1
 have e2 : its2.toArray[j] = u2:=by
  have : its2[j]? = some its2[j]:=by simp
  rw [this] at g2
  simpa using g2
 rw [e1,e2]
 have hd : j < ds.length:=by omega
 exact eqAt_same I (h j _ _ (List.getElem?_eq_getElem h1') (List.getElem?_eq_getElem hd)) (h' j _ _ (List.getElem?_eq_getElem h2') (List.getElem?_eq_getElem hd)) k1 k2 hu
end
section
variable {X : Cx}
noncomputable def rEqD (K : PySem.W.Frag) (b : Bool) : R2:=fun x y H Q=>∃ (a c : Addr) (n : Nat) (d : Dt),x = .ref a∧y = .ref c∧n ≤ 190∧IsD K H n x d∧IsD K H n y d∧Q (.bl b) H
theorem op_eqD (hu : X.A.units + 200 < cLine) : OpR X (compareOp .Eq) (rEqD X.K true):=by
 intro pins s σ H x y v u Q I rx ry h
 obtain ⟨a,c,n,d,rfl,rfl,hn,hx,hy,q⟩:=h
 cases rx
 cases ry
 cases hx with
 | flat fx=>cases fx
 | @tup n _ vs ds qx l hd =>
  cases hy with
  | @tup _ _ ws _ qy l' hd' =>
   obtain ⟨its,r1,p1,_⟩:=I.tuple qx
   obtain ⟨its2,r2,p2,_⟩:=I.tuple qy
   have l1:=r1.length
   have l2:=r2.length
   refine SeqAt.eq_tupleAt (e:=fun _=>true) (show s.heap.IsTuple a its.toArray from p1) (show s.heap.IsTuple c its2.toArray from p2) (by omega) (itemsAt I r1 r2 l l' hd hd' (by show X.A.units + 1 + n < cLine; omega)) ?_
   have e : ((List.range (min its.toArray.size its2.toArray.size)).all (fun _=>true) && its.toArray.size == its2.toArray.size) = true:=by
    have : its.toArray.size = its2.toArray.size:=by simp only [List.size_toArray]; omega
    rw [this]
    simp
   rw [e]
   exact ⟨.bl true,H,I,rfl,q⟩
 | @lst n _ vs ds qx l hd =>
  cases hy with
  | @lst _ _ ws _ qy l' hd' =>
   obtain ⟨its,r1,p1,_⟩:=I.list qx
   obtain ⟨its2,r2,p2,_⟩:=I.list qy
   have l1:=r1.length
   have l2:=r2.length
   refine SeqAt.eq_listAt (e:=fun _=>true) p1.isList p2.isList (by simp only [List.size_toArray]; omega) (by omega) (itemsAt I r1 r2 l l' hd hd' (by show X.A.units + 1 + n < cLine; omega)) ?_
   have e : (List.range its.toArray.size).all (fun _=>true) = true:=by simp
   rw [e]
   exact ⟨.bl true,H,I,rfl,q⟩
theorem op_neD (hu : X.A.units + 200 < cLine) : OpR X (compareOp .NotEq) (rEqD X.K false):=by
 intro pins s σ H x y v u Q I rx ry h
 obtain ⟨a,c,n,d,rfl,rfl,hn,hx,hy,q⟩:=h
 cases rx
 cases ry
 cases hx with
 | flat fx=>cases fx
 | @tup n _ vs ds qx l hd =>
  cases hy with
  | @tup _ _ ws _ qy l' hd' =>
   obtain ⟨its,r1,p1,_⟩:=I.tuple qx
   obtain ⟨its2,r2,p2,_⟩:=I.tuple qy
   have l1:=r1.length
   have l2:=r2.length
   refine ne_tuplesAt (e:=fun _=>true) (show s.heap.IsTuple a its.toArray from p1) (show s.heap.IsTuple c its2.toArray from p2) (by omega) (itemsAt I r1 r2 l l' hd hd' (by show X.A.units + 1 + n < cLine; omega)) ?_
   have e : (!((List.range (min its.toArray.size its2.toArray.size)).all (fun _=>true) && its.toArray.size == its2.toArray.size)) = false:=by
    have : its.toArray.size = its2.toArray.size:=by simp only [List.size_toArray]; omega
    rw [this]
    simp
   rw [e]
   exact ⟨.bl false,H,I,rfl,q⟩
 | @lst n _ vs ds qx l hd =>
  cases hy with
  | @lst _ _ ws _ qy l' hd' =>
   obtain ⟨its,r1,p1,_⟩:=I.list qx
   obtain ⟨its2,r2,p2,_⟩:=I.list qy
   have l1:=r1.length
   have l2:=r2.length
   refine ne_listsAt (e:=fun _=>true) p1.isList p2.isList (by simp only [List.size_toArray]; omega) (by omega) (itemsAt I r1 r2 l l' hd hd' (by show X.A.units + 1 + n < cLine; omega)) ?_
   have e : (!(List.range its.toArray.size).all (fun _=>true)) = false:=by simp
   rw [e]
   exact ⟨.bl false,H,I,rfl,q⟩
noncomputable def rEqA (K : PySem.W.Frag) : R2:=fun x y H Q=>rEq x y H Q ∨ rEqD K true x y H Q
noncomputable def rNeA (K : PySem.W.Frag) : R2:=fun x y H Q=>rNe x y H Q ∨ rEqD K false x y H Q
theorem op_eqA (hu : X.A.units + 200 < cLine) : OpR X (compareOp .Eq) (rEqA X.K):=op_eq.or (op_eqD hu)
theorem op_neA (hu : X.A.units + 200 < cLine) : OpR X (compareOp .NotEq) (rNeA X.K):=op_ne.or (op_neD hu)
theorem s_eq {K : PySem.W.Frag} {x y : V} {H : Hp} {Q : VK} (hs : scal x y = true) (h : Q (.bl (decide (x = y))) H) : rEqA K x y H Q:=.inl ⟨hs,h⟩
theorem s_ne {K : PySem.W.Frag} {x y : V} {H : Hp} {Q : VK} (hs : scal x y = true) (h : Q (.bl (!decide (x = y))) H) : rNeA K x y H Q:=.inl ⟨hs,h⟩
theorem Room.u200 {k : Nat} {A : Around} (r : Room k A) : A.units + 200 < cLine:=by have:=r.un; omega
end
end L2
namespace L2
open PySem PySem.Spec PyProof.Rows
section
variable {t u : TS} {c d : TT} {te ta tb tc : TE} {g : TG} {gs : TGs} {ts : TA} {D : Ends} {σ : St} {H : Hp} {Q : VK} {QB : Bool→Hp→Prop} {QA' : List V→Hp→Prop}
theorem s_seq (h : t { D with nx:=u D } σ H) : tSeq t u D σ H:=h
theorem s_asg (h : te σ H fun x H1=>g x σ H1 D.nx) : tAsg te g D σ H:=h
theorem s_ret (h : te σ H D.rt) : tRet te D σ H:=h
theorem s_drop (h : te σ H fun _ H1=>D.nx σ H1) : tDrop te D σ H:=h
theorem s_next (h : D.nx σ H) : tNext D σ H:=h
theorem s_ifS (h : c σ H fun b H1=>if b = true then t D σ H1 else u D σ H1) : tIfS c t u D σ H:=h
theorem s_var {i : Nat} {v : V} (e : σ[i]? = some (some v)) (h : Q v H) : tVar i σ H Q:=⟨v,e,h⟩
theorem s_c {v : V} (h : Q v H) : tC v σ H Q:=h
theorem s_op {r : R2} (h : ta σ H fun x H1=>tb σ H1 fun y H2=>r x y H2 Q) : tOp r ta tb σ H Q:=h
theorem s_un {r : V→Hp→VK→Prop} (h : ta σ H fun x H1=>r x H1 Q) : tUn r ta σ H Q:=h
theorem s_test (h : te σ H fun x H'=>∃ k,x = .bl k∧QB k H') : tTest te σ H QB:=h
theorem s_tB (h : te σ H fun x H'=>∃ k,x = .bl k∧QB k H') : tB te σ H QB:=h
theorem s_ex {b : Bool} {P : Bool→Prop} (h : P b) : ∃ k,V.bl b = V.bl k∧P k:=⟨b,rfl,h⟩
theorem s_exi {i : Int} {P : Int→Prop} (h : P i) : ∃ k,V.int i = V.int k∧P k:=⟨i,rfl,h⟩
theorem s_not (h : c σ H fun b H1=>QB (!b) H1) : tNot c σ H QB:=h
theorem s_and (h : c σ H fun b H1=>if b = true then d σ H1 QB else QB false H1) : tAnd c d σ H QB:=h
theorem s_or (h : c σ H fun b H1=>if b = true then QB true H1 else d σ H1 QB) : tOr c d σ H QB:=h
theorem s_andV (h : ta σ H fun x H1=>∃ k,x = .bl k∧if k = true then tb σ H1 Q else Q (.bl false) H1) : tAndV ta tb σ H Q:=h
theorem s_orV (h : ta σ H fun x H1=>∃ k,x = .bl k∧if k = true then Q (.bl true) H1 else tb σ H1 Q) : tOrV ta tb σ H Q:=h
theorem s_notV (h : ta σ H fun x H1=>∃ k,x = .bl k∧Q (.bl (!k)) H1) : tNotV ta σ H Q:=h
theorem s_nil (h : QA' [] H) : tNil σ H QA':=h
theorem s_cons (h : te σ H fun x H1=>ts σ H1 fun xs H2=>QA' (x :: xs) H2) : tCons te ts σ H QA':=h
theorem s_vals {xs : List V} (h : QA' xs H) : tVals xs σ H QA':=h
theorem s_tup (h : ts σ H fun xs H1=>xs.length ≤ sizeLine∧∀ p,H1 p = none→Q (.ref p) (upd H1 p (.tup xs))) : tTup ts σ H Q:=h
theorem s_lst (h : ts σ H fun xs H1=>xs.length ≤ sizeLine∧∀ p,H1 p = none→Q (.ref p) (upd H1 p (.lst xs))) : tLst ts σ H Q:=h
theorem s_call {sp : Sp} {dvs : List V} {E : XK} (h : ts σ H fun vs H1=>sp (vs ++ dvs) H1 Q E) : tCall sp dvs E ts σ H Q:=h
theorem s_cb {r : List V→Hp→VK→Prop} (h : ts σ H fun vs H1=>r vs H1 Q) : tCB r ts σ H Q:=h
theorem s_bm {K : PySem.W.Frag} {T : String} {r : V→List V→Hp→VK→Prop} (h : te σ H fun x H1=>tyV K T x H1∧ts σ H1 fun xs H2=>r x xs H2 Q) : tBM K T r te ts σ H Q:=h
theorem s_bm0 {K : PySem.W.Frag} {T : String} {r : V→List V→Hp→VK→Prop} (h : te σ H fun x H1=>tyV K T x H1∧r x [] H1 Q) : tBM0 K T r te σ H Q:=h
theorem s_sl {r : V→Option Int→Option Int→Hp→VK→Prop} {tl th : TO} (h : te σ H fun x H1=>tl σ H1 fun l H2=>th σ H2 fun u H3=>r x l u H3 Q) : tSl r te tl th σ H Q:=h
theorem s_po {QO' : Option Int→Hp→Prop} (h : te σ H fun x H1=>∃ i,x = .int i∧QO' (some i) H1) : tPart te σ H QO':=h
theorem s_po0 {QO' : Option Int→Hp→Prop} (h : QO' none H) : tNoPart σ H QO':=h
theorem s_gname {i : Nat} {v : V} {QS' : St→Hp→Prop} (h : QS' (σ.set i (some v)) H) : gName i v σ H QS':=h
theorem s_gtup {K : PySem.W.Frag} {n : Nat} {a : Addr} {xs : List V} {QS' : St→Hp→Prop} (q : SqT K H a xs) (l : xs.length = n) (h : gs xs σ H QS') : gTup K n gs (.ref a) σ H QS':=⟨a,xs,rfl,q,l,h⟩
theorem s_gcons {v : V} {r : List V} {QS' : St→Hp→Prop} (h : g v σ H fun σ' H'=>gs r σ' H' QS') : gCons g gs (v :: r) σ H QS':=⟨v,r,rfl,h⟩
theorem s_gnil {QS' : St→Hp→Prop} (h : QS' σ H) : gNil [] σ H QS':=⟨rfl,h⟩
theorem s_isN (h : ta σ H fun x H1=>Q (.bl (decide (x = .non))) H1) : tIsN ta σ H Q:=h
end
section
variable {wi : TI} {σ0 : St→St} {g : TG} {tt : TT} {te : TE} {ta : TA} {tb : TS} {D : Ends} {σ : St} {H : Hp} {Q : VK} {R : It→Hp→Prop} {K : PySem.W.Frag}
theorem s_comp (h : wi σ H fun J H1=>∀ L,H1 L = none→CompW J g tt te (σ0 σ) H1 L Q) : tComp wi σ0 g tt te σ H Q:=h
theorem s_for (h : wi σ H fun J H1=>∃ W : Nat→Nat→St→Hp→Prop,(∃ m,W 0 m σ H1)∧∀ i m σ H,W i m σ H →
 (J.stop i H∧D.nx σ H) ∨ (J.go i H∧∃ N : St→Hp→Prop,(∀ σ' H',N σ' H'→∃ m',m' < m∧W (i + 1) m' σ' H')∧∀ x H',J.yld i H x H'→g x σ H' fun σ2 H2=>tb { D with nx:=N,ct:=N,bk:=D.nx } σ2 H2)) : tFor wi g tb D σ H:=h
theorem s_rng1 (h : ta σ H fun vs H1=>∃ j : Int,vs = [.int j]∧-(2 ^ 62) ≤ j∧j < 2 ^ 62∧R (Itr 0 j.toNat) H1) : iRng1 ta σ H R:=h
theorem s_exr {i : Int} {P : Int→Prop} (h : P i) : ∃ j,([V.int i] : List V) = [.int j]∧P j:=⟨i,rfl,h⟩
theorem s_iany (h : te σ H fun x H1=>(∃ a,x = .ref a∧(∃ xs,SqL K H1 a xs)∧R (Itl K a) H1) ∨ (∃ a,x = .ref a∧(∃ xs,SqT K H1 a xs)∧R (Itt K a) H1) ∨ ∃ z,x = .str z∧R (Its z) H1) : iAny K te σ H R:=h
theorem s_irev (h : ta σ H fun vs H1=>∃ a xs,vs = [.ref a]∧SqL K H1 a xs∧R (Itv K a xs.length) H1) : iRev K ta σ H R:=h
theorem s_listen (h : ta σ H fun vs H1=>∃ a xs,vs = [.ref a]∧SqT K H1 a xs∧∀ (S : Addr) (ys : List V) (H2 : Hp),H1 S = none→Same H1 H2→ys.length = xs.length→Pairs H2 xs ys→H2 S = some (.lst ys)→Q (.ref S) H2) : tListEn K ta σ H Q:=h
theorem s_yes {QB : Bool→Hp→Prop} (h : QB true H) : tYes σ H QB:=h
theorem s_turn {L : Addr} {Nx : List V→St→Hp→Prop} {x : V} (h : g x σ H fun σ2 H3=>tt σ2 H3 fun b H4=>if b = true then te σ2 H4 fun y H5=>∃ ys,H5 L = some (.lst ys)∧ys.length < sizeLine∧(∃ zs,upd H5 L (.lst (ys ++ [y])) L = some (.lst zs)∧Nx zs σ2 (upd H5 L (.lst (ys ++ [y])))) else ∃ zs,H4 L = some (.lst zs)∧Nx zs σ2 H4) : CompT g tt te L Nx x σ H:=h
theorem s_app {l : Addr} {xs : List V} {y : V} (e : H l = some (.lst xs)) (z : xs.length < sizeLine) (h : Q .non (upd H l (.lst (xs ++ [y])))) : rAppend (.ref l) [y] H Q:=⟨l,xs,y,rfl,rfl,e,z,h⟩
theorem s_pop {l : Addr} {xs : List V} {y : V} (e : H l = some (.lst (xs ++ [y]))) (h : Q y (upd H l (.lst xs))) : rPop (.ref l) [] H Q:=⟨l,xs ++ [y],y,rfl,rfl,e,by simp,by simpa using h⟩
end
end L2
namespace L2
open PySem PySem.Spec PyProof.Rows
section
variable {X : Cx} (K : PySem.W.Frag)
theorem k_add (hK : X.K = K:=by rfl) : OpR X (binaryOp .Add) (rAddA K):=by subst hK; exact op_addA
theorem k_eq (hu : X.A.units + 200 < cLine) (hK : X.K = K:=by rfl) : OpR X (compareOp .Eq) (rEqA K):=by subst hK; exact op_eqA hu
theorem k_ne (hu : X.A.units + 200 < cLine) (hK : X.K = K:=by rfl) : OpR X (compareOp .NotEq) (rNeA K):=by subst hK; exact op_neA hu
theorem k_in (hK : X.K = K:=by rfl) : OpR X (compareOp .In) (rInA K false):=by subst hK; exact op_inA
theorem k_ix (hK : X.K = K:=by rfl) : IxR X (rIx K):=by subst hK; exact ix_seq
theorem k_sl (hK : X.K = K:=by rfl) : SlR X (rSlA K):=by subst hK; exact sl_any
theorem k_len (hK : X.K = K:=by rfl) : CallR X (.builtin "len") (rLen K):=by subst hK; exact call_lenA
inductive TyQ (K : PySem.W.Frag) (H : Hp) : V→Value→Prop where
 | ty {x : V} {t : Value} (h : TyOf K H x t) : TyQ K H x t
 | tup {a : Addr} {xs : List V} (q : SqT K H a xs) : TyQ K H (.ref a) (.type "tuple")
 | lst {a : Addr} {xs : List V} (q : SqL K H a xs) : TyQ K H (.ref a) (.type "list")
noncomputable def rIsi (K : PySem.W.Frag) (T : String) : List V→Hp→VK→Prop:=fun xs H Q=>∃ x t b,xs = [x,.ty T]∧TyQ K H x t∧PySem.W.kitOne K t (.type T) = some b∧Q (.bl b) H
theorem call_isiQ {T : String} : CallR X (.builtin "isinstance") (rIsi X.K T):=by
 intro pins s σ H xs us Q I r h
 obtain ⟨x,t,b,rfl,ty,e,q⟩:=h
 obtain ⟨u,v,rfl,ru,rv⟩:=r.two
 obtain rfl : v = Value.type T:=rv
 cases ty with
 | ty ty=>exact isinst_ok I ru ty e fun tk=>⟨.bl b,H,I.tok tk,rfl,q⟩
 | tup hq =>
  cases ru
  obtain ⟨its,_,p,_⟩:=I.tuple hq
  obtain ⟨o,h1,h2,_⟩:=p
  exact PySem.W.kia_one PySem.W.kitx_tuple I.kIn ⟨o,h1,h2⟩ e (fun z=>nomatch z) fun tk=>⟨.bl b,H,I.tok tk,rfl,q⟩
 | lst hq =>
  cases ru
  obtain ⟨its,_,p,_⟩:=I.list hq
  obtain ⟨o,n,h1,h2,_⟩:=p
  exact PySem.W.kia_one PySem.W.kitx_list I.kIn ⟨o,h1,h2⟩ e (fun z=>nomatch z) fun tk=>⟨.bl b,H,I.tok tk,rfl,q⟩
theorem k_isi (T : String) (hK : X.K = K:=by rfl) : CallR X (.builtin "isinstance") (rIsi K T):=by subst hK; exact call_isiQ
noncomputable def rAll (K : PySem.W.Frag) : List V→Hp→VK→Prop:=fun xs H Q=>∃ (p : Addr) (bs : List Bool),xs = [.ref p]∧SqL K H p (bs.map V.bl)∧Q (.bl (bs.all id)) H
theorem k_all (hc : X.calm = true) (hK : X.K = K:=by rfl) : CallR X (.builtin "all") (rAll K):=by subst hK; exact call_all hc
noncomputable def rListOf (K : PySem.W.Frag) : List V→Hp→VK→Prop:=fun xs H Q=>∃ p ys,xs = [.ref p]∧(SqL K H p ys ∨ SqT K H p ys)∧∀ l,H l = none→Q (.ref l) (upd H l (.lst ys))
theorem k_list (hK : X.K = K:=by rfl) : CallR X (.type "list") (rListOf K):=by subst hK; exact call_list_of
noncomputable def rInt : List V→Hp→VK→Prop:=fun xs H Q=>(∃ i,xs = [.int i]∧Q (.int i) H) ∨ ∃ k,xs = [.bl k]∧Q (.int (if k then 1 else 0)) H
theorem k_int : CallR X (.type "int") rInt:=call_int1
theorem s_intb {k : Bool} {H : Hp} {Q : VK} (h : Q (.int (if k = true then 1 else 0)) H) : rInt [.bl k] H Q:=.inr ⟨k,rfl,h⟩
theorem qi_anyK {tg l : Expr} {tl : TE} (hl : QE X l tl) (hK : X.K = K:=by rfl) : QI X tg l (iAny K tl):=by subst hK; exact qi_any hl
theorem qi_revK {tg a : Expr} {ta : TA} {p pos : Pos} (hg : Gl X "reversed") (hm : X.mg "reversed" = none) (ha : QA X [a] ta) (hK : X.K = K:=by rfl) (hs : starEach [a] X.env = [(false,eval a X.env)]:=by rfl) : QI X tg (.Call (.Name "reversed" p) [a] [] pos) (iRev K ta):=by subst hK; exact qi_rev hg hm ha hs
theorem qe_list_enumerateK {e : Expr} {ta : TA} {p p2 pos pos2 : Pos} (hg : Gl X "list") (hm : X.mg "list" = none) (hg2 : Gl X "enumerate") (hm2 : X.mg "enumerate" = none) (ha : QA X [e] ta) (hK : X.K = K:=by rfl) (hc : X.calm = true:=by rfl)
  (hs : starEach [.Call (.Name "enumerate" p2) [e] [] pos2] X.env = [(false,eval (.Call (.Name "enumerate" p2) [e] [] pos2) X.env)]:=by rfl) (hs2 : starEach [e] X.env = [(false,eval e X.env)]:=by rfl) :
  QE X (.Call (.Name "list" p) [.Call (.Name "enumerate" p2) [e] [] pos2] [] pos) (tListEn K ta):=by subst hK; exact qe_list_enumerate hg hm hg2 hm2 ha hc hs hs2
theorem qg_tupK {es : List Expr} {k : Nat} {pos : Pos} {t : TGs} {n : Nat} (hc : X.calm = true) (h : QGs X es t) (hK : X.K = K:=by rfl) (hn : (assignEach es X.env).length = n:=by rfl) (hst : (assignEach es X.env).findIdx? (·.1) = none:=by rfl) : QG X (.Tuple es k pos) (gTup K n t):=by subst hK; exact qg_tup hc h hn hst
noncomputable def tTruth (K : PySem.W.Frag) (ta : TE) : TT:=fun σ H Q=>ta σ H fun x H'=>∃ k,TruV K x H' k∧Q k H'
theorem qt_truthK {a : Expr} {ta : TE} (ha : QE X a ta) (he : ∀ whole,isTrue a X.env whole = (do let v ← whole; standAt a.pos; holding [v] (truthy v))) (hK : X.K = K:=by rfl) : QT X a (tTruth K ta):=by subst hK; exact ⟨pt_truth ha.run he⟩
theorem qe_bmK {o e : Expr} {es : List Expr} {to : TE} {t : TA} {name : Str} {apos cpos : Pos} {T id : String} {r : V→List V→Hp→VK→Prop} (pa : PlainAttrs T) (slot : Slot T name id) (hty : typeOf (.builtin id) = pure (.type "method_descriptor")) (hm : MtR X id r) (ho : QE X o to) (ha : QA X (e :: es) t) (hK : X.K = K:=by rfl)
  (hbase : attributeBase o name X.env (eval o X.env) = eval o X.env:=by rfl) (hfew : ((backTo cpos (starEach (e :: es) X.env)).all (fun x=>!x.1) && (backToKw cpos (keywordEach [] X.env)).all (fun x=>x.1.isSome)
   && decide ((e :: es).length + ([] : List Keyword).length + (if ([] : List Keyword).isEmpty then 0 else 1) < 30)) = true:=by rfl) (hline : (apos.endLine == cpos.line) = true:=by rfl) (hs : starEach (e :: es) X.env = (false,eval e X.env) :: starEach es X.env:=by rfl) (hplain : (backTo cpos (starEach es X.env)).any (·.1) = false:=by rfl) : QE X (.Call (.Attribute o name apos) (e :: es) [] cpos) (tBM K T r to t):=by subst hK; exact qe_bm pa slot hty hm ho ha hbase hfew hline hs hplain
theorem qe_bm0K {o : Expr} {to : TE} {name : Str} {apos cpos : Pos} {T id : String} {r : V→List V→Hp→VK→Prop} (pa : PlainAttrs T) (slot : Slot T name id) (hty : typeOf (.builtin id) = pure (.type "method_descriptor")) (hm : MtR X id r) (ho : QE X o to) (hK : X.K = K:=by rfl) (hbase : attributeBase o name X.env (eval o X.env) = eval o X.env:=by rfl) (hline : (apos.endLine == cpos.line) = true:=by rfl) : QE X (.Call (.Attribute o name apos) [] [] cpos) (tBM0 K T r to):=by subst hK; exact qe_bm0 pa slot hty hm ho hbase hline
end
section
variable {K : PySem.W.Frag} {σ : St} {H : Hp} {Q : VK} {QB : Bool→Hp→Prop} {ta : TE}
theorem s_truth (h : ta σ H fun x H'=>∃ k,TruV K x H' k∧QB k H') : tTruth K ta σ H QB:=h
theorem s_tru_lst {a : Addr} {xs : List V} {P : Bool→Prop} (q : SqL K H a xs) (h : P (!xs.isEmpty)) : ∃ k,TruV K (.ref a) H k∧P k:=⟨_,.inl ⟨xs,q,rfl⟩,h⟩
theorem s_isi {T : String} {x : V} {t : Value} {b : Bool} (ty : TyOf K H x t) (e : PySem.W.kitOne K t (.type T) = some b) (h : Q (.bl b) H) : rIsi K T [x,.ty T] H Q:=⟨x,t,b,rfl,.ty ty,e,h⟩
theorem s_isiT {T : String} {a : Addr} {xs : List V} {b : Bool} (q : SqT K H a xs) (e : PySem.W.kitOne K (.type "tuple") (.type T) = some b) (h : Q (.bl b) H) : rIsi K T [.ref a,.ty T] H Q:=⟨_,_,b,rfl,.tup q,e,h⟩
theorem s_isiL {T : String} {a : Addr} {xs : List V} {b : Bool} (q : SqL K H a xs) (e : PySem.W.kitOne K (.type "list") (.type T) = some b) (h : Q (.bl b) H) : rIsi K T [.ref a,.ty T] H Q:=⟨_,_,b,rfl,.lst q,e,h⟩
theorem kit_int_bool {K : PySem.W.Frag} : PySem.W.kitOne K (.type "int") (.type "bool") = some false:=kit_of (l:=(fastBuiltinMro "int").get (by decide +kernel)) (by decide +kernel) (by decide) (by simp) (by decide +kernel)
theorem s_tyL {a : Addr} {xs : List V} {P : Prop} (q : SqL K H a xs) (h : P) : tyV K "list" (.ref a) H∧P:=⟨.inl ⟨rfl,_,q⟩,h⟩
end
theorem s_nt {A B : Prop} (h : B) : if (!true) = true then A else B:=by simpa using h
theorem s_nf {A B : Prop} (h : A) : if (!false) = true then A else B:=by simpa using h
end L2
namespace L2
open PySem
inductive Tr where
 | mk (wd : Str) (note : Dt) (ps : List Tr)
noncomputable def Tr.wd : Tr→Str
 | .mk w _ _=>w
noncomputable def Tr.ps : Tr→List Tr
 | .mk _ _ ps=>ps
mutual
noncomputable def Tr.size : Tr→Nat
 | .mk _ _ ps=>1 + sizes ps
noncomputable def sizes : List Tr→Nat
 | []=>0
 | t :: r=>t.size + sizes r
end
theorem Tr.size_eq (t : Tr) : t.size = 1 + sizes t.ps:=by
 cases t with
 | mk w n ps=>rw [Tr.size]; rfl
theorem sizes_get {ts : List Tr} {j : Nat} {t : Tr} (h : ts[j]? = some t) : t.size ≤ sizes ts:=by
 induction ts generalizing j with
 | nil=>simp at h
 | cons x r ih =>
  rw [sizes]
  cases j with
  | zero=>simp at h; subst h; omega
  | succ j=>have:=ih (j:=j) (by simpa using h); omega
theorem sizes_len (ts : List Tr) : ts.length ≤ sizes ts:=by
 induction ts with
 | nil=>simp [sizes]
 | cons t r ih =>
  have:=t.size_eq
  rw [sizes,List.length_cons]
  omega
noncomputable def SameT (H H' : Hp) : Prop:=∀ b,(∀ xs,H b = some (.tup xs)→H' b = some (.tup xs))∧∀ o u,H b = some (.frz o u)→H' b = some (.frz o u)
theorem Same.t {H H' : Hp} (e : Same H H') : SameT H H':=fun b=>⟨fun xs h=>e b _ h,fun o u h=>e b _ h⟩
theorem SameT.refl (H : Hp) : SameT H H:=fun _=>⟨fun _ h=>h,fun _ _ h=>h⟩
theorem SameT.trans {H H1 H2 : Hp} (a : SameT H H1) (b : SameT H1 H2) : SameT H H2:=fun c=>⟨fun xs h=>(b c).1 xs ((a c).1 xs h),fun o u h=>(b c).2 o u ((a c).2 o u h)⟩
theorem SameT.set {H : Hp} {S : Addr} {zs : List V} {o : HO} (h : H S = some (.lst zs)) : SameT H (upd H S o):=fun b =>
 ⟨fun xs e=>by rw [upd_ne (ne_of e h (by intro z; cases z))]; exact e,fun o' u e=>by rw [upd_ne (ne_of e h (by intro z; cases z))]; exact e⟩
theorem SameT.new {H : Hp} {S : Addr} {o : HO} (h : H S = none) : SameT H (upd H S o):=(Same.upd h).t
theorem SameT.tup {K : PySem.W.Frag} {H H' : Hp} {a : Addr} {xs : List V} (e : SameT H H') (h : SqT K H a xs) : SqT K H' a xs:=by
 rcases h with (h | ⟨o,h⟩) | h
 ·exact .inl (.inl ((e a).1 _ h))
 ·exact .inl (.inr ⟨o,(e a).2 _ _ h⟩)
 ·exact .inr h
noncomputable def IsN (K : PySem.W.Frag) (H : Hp) (v : V) (n : Dt) : Prop:=(flatV v = true∧n = .flat v) ∨ ∃ (a : Addr) (vs : List V),v = .ref a∧SqT K H a vs∧vs.all flatV = true∧n = .tup (vs.map .flat)
theorem IsN.same {K : PySem.W.Frag} {H H' : Hp} {v : V} {n : Dt} (h : IsN K H v n) (e : SameT H H') : IsN K H' v n:=by
 rcases h with h | ⟨a,vs,h1,h2,h3⟩
 ·exact .inl h
 ·exact .inr ⟨a,vs,h1,e.tup h2,h3⟩
inductive TrAt (K : PySem.W.Frag) (H : Hp) : V→Tr→Prop where
 | mk {a p : Addr} {wd : Str} {nv : V} {n : Dt} {vs : List V} {ts : List Tr} (q : SqT K H a [.str wd,nv,.ref p]) (hn : IsN K H nv n) (qp : SqT K H p vs) (l : vs.length = ts.length)
   (h : ∀ (j : Nat) (v : V) (t : Tr),vs[j]? = some v→ts[j]? = some t→TrAt K H v t) : TrAt K H (.ref a) (.mk wd n ts)
theorem TrAt.sameT {K : PySem.W.Frag} {H H' : Hp} {v : V} {t : Tr} (h : TrAt K H v t) (e : SameT H H') : TrAt K H' v t:=by
 induction h with
 | mk q hn qp l _ ih=>exact .mk (e.tup q) (hn.same e) (e.tup qp) l ih
theorem TrAt.same {K : PySem.W.Frag} {H H' : Hp} {v : V} {t : Tr} (h : TrAt K H v t) (e : Same H H') : TrAt K H' v t:=h.sameT e.t
noncomputable def Al {α : Type} (R : V→α→Prop) (vs : List V) (xs : List α) : Prop:=vs.length = xs.length∧∀ (j : Nat) (v : V) (x : α),vs[j]? = some v→xs[j]? = some x→R v x
section
variable {α : Type} {R R' : V→α→Prop} {vs : List V} {xs : List α} {v : V} {x : α}
theorem Al.mono (h : Al R vs xs) (f : ∀ v x,R v x→R' v x) : Al R' vs xs:=⟨h.1,fun j v x a b=>f v x (h.2 j v x a b)⟩
theorem Al.nil : Al R [] []:=⟨rfl,fun j v x a _=>by simp at a⟩
theorem Al.snoc (h : Al R vs xs) (a : R v x) : Al R (vs ++ [v]) (xs ++ [x]):=by
 refine ⟨by simp [h.1],fun j y z e1 e2=>?_⟩
 by_cases hj : j < vs.length
 ·rw [List.getElem?_append_left hj] at e1
  rw [List.getElem?_append_left (by have:=h.1; omega)] at e2
  exact h.2 j y z e1 e2
 ·have hl:=(List.getElem?_eq_some_iff.mp e1).1
  rw [List.length_append,List.length_singleton] at hl
  have hj' : j = vs.length:=by omega
  subst hj'
  rw [List.getElem?_append_right (Nat.le_refl _),Nat.sub_self] at e1
  rw [h.1,List.getElem?_append_right (Nat.le_refl _),Nat.sub_self] at e2
  have e1 : v = y:=by simpa using e1
  have e2 : x = z:=by simpa using e2
  rw [← e1,← e2]
  exact a
theorem Al.split (h : Al R (vs ++ [v]) xs) : ∃ ys x,xs = ys ++ [x]∧Al R vs ys∧R v x:=by
 have hl : xs.length = vs.length + 1:=by have:=h.1; simp at this; omega
 have hne : xs ≠ []:=fun z=>by rw [z] at hl; simp at hl
 refine ⟨xs.dropLast,xs.getLast hne,(List.dropLast_concat_getLast hne).symm,⟨by simp [hl],fun j y z e1 e2=>?_⟩,?_⟩
 ·have hj:=(List.getElem?_eq_some_iff.mp e1).1
  refine h.2 j y z (by rw [List.getElem?_append_left hj]; exact e1) ?_
  rw [List.getElem?_dropLast] at e2
  split at e2
  ·exact e2
  ·cases e2
 ·refine h.2 vs.length v _ (by simp) ?_
  rw [List.getLast_eq_getElem,List.getElem?_eq_getElem (by omega)]
  congr 1
  simp [hl]
theorem Al.last (h : Al R vs xs) (hn : vs ≠ []) : ∃ vs' v xs' x,vs = vs' ++ [v]∧xs = xs' ++ [x]∧Al R vs' xs'∧R v x:=by
 have e:=(List.dropLast_concat_getLast hn).symm
 rw [e] at h
 obtain ⟨ys,x,e2,a,r⟩:=h.split
 exact ⟨_,_,ys,x,e,e2,a,r⟩
theorem Al.get {j : Nat} (h : Al R vs xs) (e : vs[j]? = some v) : ∃ x,xs[j]? = some x∧R v x:=by
 have hj:=(List.getElem?_eq_some_iff.mp e).1
 have hx : j < xs.length:=by have:=h.1; omega
 exact ⟨xs[j],List.getElem?_eq_getElem hx,h.2 j v _ e (List.getElem?_eq_getElem hx)⟩
theorem Al.get' {j : Nat} (h : Al R vs xs) (e : xs[j]? = some x) : ∃ v,vs[j]? = some v∧R v x:=by
 have hj:=(List.getElem?_eq_some_iff.mp e).1
 have hv : j < vs.length:=by have:=h.1; omega
 exact ⟨vs[j],List.getElem?_eq_getElem hv,h.2 j _ x (List.getElem?_eq_getElem hv) e⟩
end
mutual
noncomputable def walk : List Nat→Tr→List (List Nat × Tr)
 | pl,.mk w n ps=>(pl,.mk w n ps) :: walks pl 0 ps
noncomputable def walks : List Nat→Nat→List Tr→List (List Nat × Tr)
 | _,_,[]=>[]
 | pl,i,t :: r=>walk (pl ++ [i]) t ++ walks pl (i + 1) r
end
theorem walk_eq (pl : List Nat) (t : Tr) : walk pl t = (pl,t) :: walks pl 0 t.ps:=by
 cases t with
 | mk w n ps=>rw [walk]; rfl
mutual
theorem walk_len : ∀ (pl : List Nat) (t : Tr),(walk pl t).length = t.size
 | pl,.mk w n ps=>by rw [walk,Tr.size,List.length_cons,walks_len pl 0 ps]; omega
theorem walks_len : ∀ (pl : List Nat) (i : Nat) (ts : List Tr),(walks pl i ts).length = sizes ts
 | _,_,[]=>by rw [walks,sizes]; rfl
 | pl,i,t :: r=>by rw [walks,sizes,List.length_append,walk_len,walks_len]
end
mutual
theorem walk_depth : ∀ (pl : List Nat) (t : Tr) (x : List Nat × Tr),x ∈ walk pl t→x.1.length + 1 ≤ pl.length + t.size
 | pl,.mk w n ps,x,h=>by
  rw [walk] at h
  rw [Tr.size]
  rcases List.mem_cons.mp h with h | h
  ·subst h; show pl.length + 1 ≤ _; omega
  ·have:=walks_depth pl 0 ps x h; omega
theorem walks_depth : ∀ (pl : List Nat) (i : Nat) (ts : List Tr) (x : List Nat × Tr),x ∈ walks pl i ts→x.1.length ≤ pl.length + sizes ts
 | _,_,[],x,h=>by rw [walks] at h; cases h
 | pl,i,t :: r,x,h=>by
  rw [walks] at h
  rw [sizes]
  rcases List.mem_append.mp h with h | h
  ·have:=walk_depth (pl ++ [i]) t x h
   rw [List.length_append,List.length_singleton] at this
   omega
  ·have:=walks_depth pl (i + 1) r x h; omega
end
noncomputable def plV (pl : List Nat) : List V:=pl.map fun i=>V.int ((i : Nat) : Int)
noncomputable def kids : List Nat→Nat→List Tr→List (List Nat × Tr)
 | _,_,[]=>[]
 | pl,i,t :: r=>(pl ++ [i],t) :: kids pl (i + 1) r
theorem kids_len (pl : List Nat) : ∀ (i : Nat) (ts : List Tr),(kids pl i ts).length = ts.length
 | _,[]=>rfl
 | i,t :: r=>by rw [kids,List.length_cons,List.length_cons,kids_len pl (i + 1) r]
theorem kids_get (pl : List Nat) : ∀ (i j : Nat) (ts : List Tr),(kids pl i ts)[j]? = (ts[j]?).map fun t=>(pl ++ [i + j],t)
 | _,_,[]=>by simp [kids]
 | i,0,t :: r=>by simp [kids]
 | i,j + 1,t :: r=>by
  rw [kids,List.getElem?_cons_succ,List.getElem?_cons_succ,kids_get pl (i + 1) j r]
  congr 1
  funext t
  rw [show i + 1 + j = i + (j + 1) by omega]
theorem kids_walks (pl : List Nat) : ∀ (i : Nat) (ts : List Tr),(kids pl i ts).flatMap (fun x=>walk x.1 x.2) = walks pl i ts
 | _,[]=>by simp [kids,walks]
 | i,t :: r=>by rw [kids,List.flatMap_cons,walks,kids_walks pl (i + 1) r]
noncomputable def todo (st : List (List Nat × Tr)) : List (List Nat × Tr):=st.reverse.flatMap fun x=>walk x.1 x.2
theorem todo_nil : todo [] = []:=rfl
theorem todo_pop (st : List (List Nat × Tr)) (x : List Nat × Tr) : todo (st ++ [x]) = x :: todo (st ++ (kids x.1 0 x.2.ps).reverse):=by
 unfold todo
 rw [List.reverse_append,List.reverse_append,List.reverse_reverse,List.flatMap_append,List.flatMap_append,kids_walks]
 rw [List.reverse_singleton,List.flatMap_singleton,walk_eq]
 rfl
noncomputable def load (st : List (List Nat × Tr)) : Nat:=(todo st).length
theorem load_pop (st : List (List Nat × Tr)) (x : List Nat × Tr) : load (st ++ (kids x.1 0 x.2.ps).reverse) < load (st ++ [x]):=by
 unfold load
 rw [todo_pop]
 exact Nat.lt_succ_self _
theorem load_len (st : List (List Nat × Tr)) : st.length ≤ load st:=by
 unfold load todo
 have : ∀ l : List (List Nat × Tr),l.length ≤ (l.flatMap fun x=>walk x.1 x.2).length:=fun l=>by
  induction l with
  | nil=>simp
  | cons x r ih =>
   rw [List.flatMap_cons,List.length_append,walk_len,List.length_cons]
   have:=x.2.size_eq
   omega
 have:=this st.reverse
 rw [List.length_reverse] at this
 exact this
theorem drop_step {α : Type} {l : List α} {n i : Nat} {x : α} (hl : l.length = n) (hi : i < n) (hx : l[n - 1 - i]? = some x) : (l.drop (n - (i + 1))).reverse = (l.drop (n - i)).reverse ++ [x]:=by
 have hk : n - 1 - i < l.length:=by omega
 have e : l.drop (n - (i + 1)) = x :: l.drop (n - i):=by
  have h1 : n - (i + 1) = n - 1 - i:=by omega
  rw [h1,List.drop_eq_getElem_cons hk,show n - 1 - i + 1 = n - i by omega]
  rw [List.getElem?_eq_getElem hk] at hx
  rw [Option.some.inj hx]
 rw [e,List.reverse_cons]
theorem Al.append {α : Type} {R : V→α→Prop} {vs ws : List V} {xs ys : List α} (h : Al R vs xs) (h' : Al R ws ys) : Al R (vs ++ ws) (xs ++ ys):=by
 refine ⟨by simp [h.1,h'.1],fun j v x e1 e2=>?_⟩
 by_cases hj : j < vs.length
 ·rw [List.getElem?_append_left hj] at e1
  rw [List.getElem?_append_left (by have:=h.1; omega)] at e2
  exact h.2 j v x e1 e2
 ·rw [List.getElem?_append_right (by omega)] at e1
  rw [List.getElem?_append_right (by have:=h.1; omega),← h.1] at e2
  exact h'.2 _ v x e1 e2
end L2
namespace L2
open PySem PySem.Spec PyProof.Rows
section
open PySem.AutoSeq1
end
section
variable {X : Cx}
noncomputable def lookD (kvs : List (Str × V)) (k : Str) : Option V:=(kvs.find? fun kv=>kv.1 = k).map (·.2)
inductive VPs : List (Str × V)→List (Str × Value)→Prop
 | nil : VPs [] []
 | cons {k : Str} {x : V} {v : Value} {r : List (Str × V)} {q : List (Str × Value)} : RelV x v→VPs r q→VPs ((k,x) :: r) ((k,v) :: q)
theorem VPs.look {kvs : List (Str × V)} {vs : List (Str × Value)} (h : VPs kvs vs) (k : Str) : (valueAt vs k).isSome = (lookD kvs k).isSome∧∀ x,lookD kvs k = some x→∃ v,valueAt vs k = some v∧RelV x v:=by
 induction h with
 | nil=>exact ⟨rfl,fun x e=>nomatch e⟩
 | @cons k' x v r q rx _ ih =>
  unfold valueAt lookD at ih ⊢
  by_cases z : k' = k
  ·simp only [List.find?_cons,z,decide_true,Option.map_some,Option.isSome_some]
   exact ⟨trivial,fun y e=>⟨v,rfl,by cases e; exact rx⟩⟩
  ·simp only [List.find?_cons,z,decide_false]
   exact ih
noncomputable def DkK (P : Program) (w : World) (K : PySem.W.Frag) (a : Addr) (kvs : List (Str × V)) : Prop :=
 ∃ (o : Obj) (vs : List (Str × Value)),K.lookup a = some o∧o.IsDictOf (strKind P w) vs∧(a == sysModules) = false∧VPs kvs vs
noncomputable def rInD (P : Program) (w : World) (K : PySem.W.Frag) : R2:=fun x y H Q=>∃ s a kvs,x = .str s∧y = .ref a∧DkK P w K a kvs∧Q (.bl (lookD kvs s).isSome) H
theorem op_inD : OpR X (compareOp .In) (rInD X.prog X.w X.K):=by
 intro pins s σ H x y v u Q I rx ry h
 obtain ⟨z,a,kvs,rfl,rfl,⟨o,vs,hk,hd,lo,vp⟩,q⟩:=h
 obtain ⟨t,rfl⟩:=rx
 cases ry
 have D : s.heap.DictOf (strKind X.prog X.w) a vs:=Heap.dictOf_iff.mpr ⟨o,I.kIn a o hk,hd⟩
 exact wpAny_in_of (knd:=strKind X.prog X.w) (k:=z) (strKind_is _ _ _ _) lo D.mapOf (fin_bl (I.tok _) q (vp.look z).1.symm)
noncomputable def rIxD (P : Program) (w : World) (K : PySem.W.Frag) : R2:=fun x y H Q=>∃ a kvs s v,x = .ref a∧y = .str s∧DkK P w K a kvs∧lookD kvs s = some v∧Q v H
theorem ix_D : IxR X (rIxD X.prog X.w X.K):=by
 intro value slice pins s σ H x y v u Q I rx ry h hs
 obtain ⟨a,kvs,z,v',rfl,rfl,⟨o,vs,hk,hd,lo,vp⟩,hv,q⟩:=h
 cases rx
 obtain ⟨t,rfl⟩:=ry
 have D : s.heap.DictOf (strKind X.prog X.w) a vs:=Heap.dictOf_iff.mpr ⟨o,I.kIn a o hk,hd⟩
 obtain ⟨u',e,r⟩:=(vp.look z).2 _ hv
 exact tail_any D.typeIs slot_dict_getitem.lookup (wpAny_getItem_of (knd:=strKind X.prog X.w) (k:=z) (strKind_is _ _ _ _) D.mapOf e ⟨v',H,I.tok _,r,q⟩) hs
end
section
variable {X : Cx} (P : Program) (w : World) (K : PySem.W.Frag)
theorem k_inD (hP : X.prog = P:=by rfl) (hw : X.w = w:=by rfl) (hK : X.K = K:=by rfl) : OpR X (compareOp .In) (rInD P w K):=by subst hP hw hK; exact op_inD
theorem k_ixD (hP : X.prog = P:=by rfl) (hw : X.w = w:=by rfl) (hK : X.K = K:=by rfl) : IxR X (rIxD P w K):=by subst hP hw hK; exact ix_D
end
theorem s_chain {r r' : R2} {ta tb tc : TE} {σ : St} {H : Hp} {Q : VK} (h : ta σ H fun x H1=>tb σ H1 fun y H2=>r x y H2 fun z H3=>∃ k,z = .bl k∧(if k = true then tc σ H3 fun w' H4=>r' y w' H4 Q else Q (.bl false) H3)) : tChain r r' ta tb tc σ H Q:=h
inductive Ents (p : Params) : List DictEntry→List (Str × V)→Prop
 | nil : Ents p [] []
 | cons {k : Str} {t : Tok} {x : V} {v : Value} {r : List DictEntry} {q : List (Str × V)} : RelV x v→Ents p r q→Ents p (⟨PyData.keyHash p k,.str k t,v⟩ :: r) ((k,x) :: q)
theorem Ents.pairs {P : Program} {w : World} {es : List DictEntry} {kvs : List (Str × V)} (h : Ents w.params es kvs) : ∃ vs,VPs kvs vs∧PySem.Pairs (PySem.strKind P w) es vs∧vs.map (·.1) = kvs.map (·.1)∧∀ e ∈ es,∃ k,(PySem.strKind P w).is k e.key = true∧e.hash = (PySem.strKind P w).hash k:=by
 induction h with
 | nil=>exact ⟨[],.nil,.nil,rfl,fun e he=>nomatch he⟩
 | @cons k t x v r q rx _ ih =>
  obtain ⟨vs,a,b,c,d⟩:=ih
  refine ⟨(k,v) :: vs,.cons rx a,.cons (strKind_is _ _ _ _) rfl b,by simp [c],fun e he=>?_⟩
  rcases List.mem_cons.mp he with rfl | he
  ·exact ⟨k,strKind_is _ _ _ _,rfl⟩
  ·exact d e he
theorem dk_mk {P : Program} {w : World} {K : PySem.W.Frag} {a : Addr} {es : Array DictEntry} {n : Nat} {kvs : List (Str × V)} (l : K.lookup a = some ⟨.type "dict",none,.dict es n,#[]⟩) (hs : (a == sysModules) = false)
  (e : Ents w.params es.toList kvs) (nd : (kvs.map (·.1)).Nodup) : DkK P w K a kvs:=by
 obtain ⟨vs,a1,a2,a3,a4⟩:=e.pairs (P:=P)
 exact ⟨_,vs,l,⟨es,n,⟨rfl,rfl,rfl⟩,rfl,fun e he=>a4 e (by simpa using he),a2,by rw [a3]; exact nd⟩,hs,a1⟩
end L2
namespace L2
open PySem PySem.Spec PyProof.Rows
noncomputable def rMulS : R2:=fun x y H Q=>∃ z n,x = .str z∧y = .int n∧MulOk z n∧Q (.str (PySem.Txt.mul z n)) H
theorem op_mulS {X : Cx} : OpR X (binaryOp .Mult) rMulS:=by
 intro pins s σ H x y v u Q I rx ry h
 obtain ⟨z,n,rfl,rfl,hok,q⟩:=h
 obtain ⟨t,rfl⟩:=rx
 obtain ⟨t',rfl⟩:=ry
 exact SB.mul hok fun t' k=>⟨.str _,H,I.tok k,⟨_,rfl⟩,q⟩
end L2
namespace L2
open PySem PySem.Spec PyProof.Rows
section
variable {X : Cx} {pins : List (Addr × Obj)} {σ : St} {it : Addr} {n : Nat} {H0 : Hp} {J : Nat→List V→Hp→Heap→Prop}
end
section
variable {X : Cx}
theorem vals_pairs : ∀ {ns : List Int} {us : List Value},Vals (ns.map V.int) us→∃ xs : List (Int × Tok),us = xs.map (fun p=>Value.int p.1 p.2)∧xs.map (·.1) = ns
 | [],_,.nil=>⟨[],rfl,rfl⟩
 | n :: ns,_,.cons r t=>by
  obtain ⟨u,rfl⟩:=r
  obtain ⟨xs,e1,e2⟩:=vals_pairs t
  exact ⟨(n,u) :: xs,by rw [e1]; rfl,by simp [e2]⟩
end
end L2
namespace L2
open PySem PySem.Spec PyProof.Rows
structure ZA (z TI TO i1 i2 : Addr) (fp1 fp2 : List Addr) : Prop where
 TIz : TI ≠ z
 TOz : TO ≠ z
 TITO : TI ≠ TO
 z1 : z ∉ fp1
 z2 : z ∉ fp2
 TI1 : TI ≠ i1
 TI2 : TI ≠ i2
 TO1 : TO ∉ fp1
 TO2 : TO ∉ fp2
 m1 : i1 ∈ fp1
 m2 : i2 ∈ fp2
 n1 : i1 ∉ fp2
 n2 : i2 ∉ fp1
theorem ZA.i1z {z TI TO i1 i2 : Addr} {fp1 fp2 : List Addr} (D : ZA z TI TO i1 i2 fp1 fp2) : i1 ≠ z:=fun e=>D.z1 (e ▸ D.m1)
theorem ZA.i2z {z TI TO i1 i2 : Addr} {fp1 fp2 : List Addr} (D : ZA z TI TO i1 i2 fp1 fp2) : i2 ≠ z:=fun e=>D.z2 (e ▸ D.m2)
theorem ZA.TOi1 {z TI TO i1 i2 : Addr} {fp1 fp2 : List Addr} (D : ZA z TI TO i1 i2 fp1 fp2) : TO ≠ i1:=fun e=>D.TO1 (e ▸ D.m1)
theorem ZA.TOi2 {z TI TO i1 i2 : Addr} {fp1 fp2 : List Addr} (D : ZA z TI TO i1 i2 fp1 fp2) : TO ≠ i2:=fun e=>D.TO2 (e ▸ D.m2)
theorem frame_but {prog : Program} {w : World} {A : Around} {it c : Addr} {fp : List Addr} {n i : Nat} {P : Nat→Value→Prop} {St : Nat→Heap→Prop} (D : Draws prog w A it fp n P St) {h h' : Heap} (st : St i h) (e : Heap.SameBut c h h') (hc : c ∉ fp) : St i h' :=
 D.frame i h h' st fun b hb o eo=>e.extBut b o (fun z=>hc (z ▸ hb)) eo
section
variable {prog : Program} {w : World} {A : Around} {E : Value→Shared→Prop} {s : Shared} {z TI TO i1 i2 : Addr} {fp1 fp2 : List Addr} {n1 n2 i : Nat} {P1 P2 : Nat→Value→Prop} {St1 St2 : Nat→Heap→Prop} {a b : Value}
theorem zipD_item {Q : Value→Shared→Prop} (D1 : Draws prog w A i1 fp1 n1 P1 St1) (D2 : Draws prog w A i2 fp2 n2 P2 St2) (D : ZA z TI TO i1 i2 fp1 fp2) (hz : IsZip s.heap z TI TO .none) (hTI : IsPair s.heap TI (.ref i1) (.ref i2)) (hTO : IsPair s.heap TO a b)
  (st1 : St1 i s.heap) (st2 : St2 i s.heap) (l1 : i < n1) (l2 : i < n2)
  (hQ : ∀ x y h' tk,P1 i x→P2 i y→IsZip h' z TI TO (rawInt s.heap.objs.size)→IsPair h' TO x y→St1 (i + 1) h'→St2 (i + 1) h'→IsPair h' s.heap.objs.size x y→h'.objs.size = s.heap.objs.size + 1 →
   (∀ c o,c ≠ z→c ≠ TO→c ≠ i1→c ≠ i2→s.heap.get? c = some o→h'.get? c = some o)→Q (.ref s.heap.objs.size) { s with heap:=h',toks:=tk }) :
  wpAny (model prog w) A (Builtin.«zip.__next__» ⟨[.ref z],[]⟩) (fun fin s'=>∃ v,fin = .done (.ret v)∧Q v s') E s:=by
 show wpAny _ _ (field (.ref z) 2 >>= _) _ _ s
 refine wpAny_bind (wpAny_field hz rfl (x:=Value.bool false) rfl ?_)
 show wpAny _ _ (field (.ref z) 3 >>= _) _ _ s
 refine wpAny_bind (wpAny_field hz rfl (x:=Value.ref TI) rfl (wpAny_bind (wpAny_seqItems hTI rfl ?_)))
 show wpAny _ _ (Builtin.SmallTypes.ownedTupleIsFree (.ref z) >>= _) _ _ s
 refine wpAny_bind ?_
 unfold Builtin.SmallTypes.ownedTupleIsFree
 refine wpAny_bind (wpAny_field hz rfl (x:=Value.none) rfl (wpAny_pure ?_))
 simp only [if_true]
 refine wpAny_bind (wpAny_rule (wpAny_bind (wpAny_field hz rfl (x:=Value.ref TO) rfl ?_)))
 refine wpAny_bind (wpAny_setField_rec hz (by simp) fun h₁ hz₁ e1=>?_)
 replace hz₁ : IsZip h₁ z TI TO Value.ellipsis:=hz₁
 refine wpAny_bind ?_
 simp only [List.zipIdx_cons,List.zipIdx_nil,List.forIn_cons,List.forIn_nil]
 refine wpAny_bind (wpAny_bind (wpAny_onRaise ?_))
 show wpAny _ _ (Builtin.SmallTypes.nextOf (.ref i1) >>= _) _ _ _
 refine wpAny_bind (D1.item i _ _ _ l1 (frame_but D1 st1 e1 D.z1) fun x h₂ tk₂ px s12 e2=>wpAny_pure ?_)
 replace e2 : Heap.SameBut i1 h₁ h₂:=e2
 have p2 : IsPair h₂ TO a b:=e2.extBut _ _ D.TOi1 (e1.extBut _ _ D.TOz hTO)
 refine wpAny_bind (wpAny_seqItems p2 rfl (wpAny_bind (wpAny_updateSeq_pair p2 fun h₃ p3 e3=>?_)))
 replace p3 : IsPair h₃ TO x b:=p3
 replace e3 : Heap.SameBut TO h₂ h₃:=e3
 refine wpAny_bind (wpAny_letGo (wpAny_pure (wpAny_bind (wpAny_bind (wpAny_onRaise ?_)))))
 show wpAny _ _ (Builtin.SmallTypes.nextOf (.ref i2) >>= _) _ _ _
 have s22 : St2 i h₃:=frame_but D2 (frame_but D2 (frame_but D2 st2 e1 D.z2) e2 D.n1) e3 D.TO2
 refine wpAny_bind (D2.item i _ _ _ l2 s22 fun y h₄ tk₄ py s24 e4=>wpAny_pure ?_)
 replace e4 : Heap.SameBut i2 h₃ h₄:=e4
 have p4 : IsPair h₄ TO x b:=e4.extBut _ _ D.TOi2 p3
 refine wpAny_bind (wpAny_seqItems p4 rfl (wpAny_bind (wpAny_updateSeq_pair p4 fun h₅ p5 e5=>?_)))
 replace p5 : IsPair h₅ TO x y:=p5
 replace e5 : Heap.SameBut TO h₄ h₅:=e5
 refine wpAny_bind (wpAny_letGo (wpAny_pure (wpAny_pure (wpAny_bind (wpAny_seqItems p5 rfl (wpAny_bind (wpAny_newTuple ?_)))))))
 have sz : h₅.objs.size = s.heap.objs.size:=by rw [e5.1,e4.1,e3.1,e2.1,e1.1]
 have z5 : IsZip h₅ z TI TO Value.ellipsis:=e5.extBut _ _ D.TOz.symm (e4.extBut _ _ D.i2z.symm (e3.extBut _ _ D.TOz.symm (e2.extBut _ _ D.i1z.symm hz₁)))
 have k5 : ∀ c o,c ≠ z→c ≠ TO→c ≠ i1→c ≠ i2→s.heap.get? c = some o→h₅.get? c = some o:=fun c o c1 c2 c3 c4 e=>e5.extBut _ _ c2 (e4.extBut _ _ c4 (e3.extBut _ _ c2 (e2.extBut _ _ c3 (e1.extBut _ _ c1 e))))
 have t1 : St1 (i + 1) h₅:=frame_but D1 (frame_but D1 (frame_but D1 s12 e3 D.TO1) e4 D.n2) e5 D.TO1
 have t2 : St2 (i + 1) h₅:=frame_but D2 s24 e5 D.TO2
 have zlt : z < h₅.objs.size:=Heap.lt_size z5
 show wpAny _ _ (Builtin.SmallTypes.ownedTupleHandOut (.ref z) (.ref h₅.objs.size) >>= _) _ _ _
 refine wpAny_bind ?_
 unfold Builtin.SmallTypes.ownedTupleHandOut
 have z6 : IsZip (h₅.push { cls:=.type "tuple",data:=.seq #[x,y] }) z TI TO Value.ellipsis:=Heap.get?_push_of_some _ z5
 refine wpAny_bind (wpAny_setField_rec z6 (by simp) fun h₇ z7 e7=>?_)
 replace z7 : IsZip h₇ z TI TO (rawInt h₅.objs.size):=z7
 refine wpAny_setField_rec z7 (by simp) fun h₈ z8 e8=>?_
 replace z8 : IsZip h₈ z TI TO (rawInt h₅.objs.size):=z8
 have up : ∀ c o,c ≠ z→h₅.get? c = some o→h₈.get? c = some o:=fun c o c1 e=>e8.extBut _ _ c1 (e7.extBut _ _ c1 (Heap.get?_push_of_some _ e))
 have t8 : IsPair h₈ h₅.objs.size x y:=e8.extBut _ _ (Nat.ne_of_gt zlt) (e7.extBut _ _ (Nat.ne_of_gt zlt) (Heap.get?_push_size _ rfl))
 have sz8 : h₈.objs.size = h₅.objs.size + 1:=by rw [e8.1,e7.1,Heap.size_push]
 rw [sz] at z8 t8 sz8
 refine wpAny_pure ⟨_,rfl,?_⟩
 show Q (.ref h₅.objs.size) _
 rw [sz]
 exact hQ x y h₈ tk₄ px py z8 (up _ _ D.TOz p5) (D1.frame _ _ _ t1 fun c hc o e=>up c o (fun q=>D.z1 (q ▸ hc)) e) (D2.frame _ _ _ t2 fun c hc o e=>up c o (fun q=>D.z2 (q ▸ hc)) e) t8 sz8 fun c o c1 c2 c3 c4 e=>up c o c1 (k5 c o c1 c2 c3 c4 e)
theorem zipD_end {Q : Fin→Shared→Prop} (D1 : Draws prog w A i1 fp1 n1 P1 St1) (D2 : Draws prog w A i2 fp2 n2 P2 St2) (D : ZA z TI TO i1 i2 fp1 fp2) (hz : IsZip s.heap z TI TO .none) (hTI : IsPair s.heap TI (.ref i1) (.ref i2)) (hTO : IsPair s.heap TO a b)
  (st1 : St1 i s.heap) (st2 : St2 i s.heap) (hend : i = n1 ∨ (i < n1∧i = n2))
  (hE : ∀ h' e tk,(∀ c o,c ≠ z→c ≠ TO→c ≠ i1→c ≠ i2→s.heap.get? c = some o→h'.get? c = some o)→(∃ o,h'.get? e = some o∧o.cls = .type "StopIteration")→E (.ref e) { s with heap:=h',toks:=tk }) :
  wpAny (model prog w) A (Builtin.«zip.__next__» ⟨[.ref z],[]⟩) Q E s:=by
 show wpAny _ _ (field (.ref z) 2 >>= _) _ _ s
 refine wpAny_bind (wpAny_field hz rfl (x:=Value.bool false) rfl ?_)
 show wpAny _ _ (field (.ref z) 3 >>= _) _ _ s
 refine wpAny_bind (wpAny_field hz rfl (x:=Value.ref TI) rfl (wpAny_bind (wpAny_seqItems hTI rfl ?_)))
 show wpAny _ _ (Builtin.SmallTypes.ownedTupleIsFree (.ref z) >>= _) _ _ s
 refine wpAny_bind ?_
 unfold Builtin.SmallTypes.ownedTupleIsFree
 refine wpAny_bind (wpAny_field hz rfl (x:=Value.none) rfl (wpAny_pure ?_))
 simp only [if_true]
 refine wpAny_bind (wpAny_rule (wpAny_bind (wpAny_field hz rfl (x:=Value.ref TO) rfl ?_)))
 refine wpAny_bind (wpAny_setField_rec hz (by simp) fun h₁ hz₁ e1=>?_)
 replace hz₁ : IsZip h₁ z TI TO Value.ellipsis:=hz₁
 refine wpAny_bind ?_
 simp only [List.zipIdx_cons,List.zipIdx_nil,List.forIn_cons,List.forIn_nil]
 refine wpAny_bind (wpAny_bind (wpAny_onRaise ?_))
 show wpAny _ _ (Builtin.SmallTypes.nextOf (.ref i1) >>= _) _ _ _
 rcases hend with rfl | ⟨l1,rfl⟩
 ·refine wpAny_bind (D1.done _ _ _ (frame_but D1 st1 e1 D.z1) fun h₂ e e2 he=>?_)
  obtain ⟨oe,hoe,hce⟩:=he
  replace e2 : Heap.ExtBut i1 h₁ h₂:=e2
  have z2 : IsZip h₂ z TI TO Value.ellipsis:=e2 _ _ D.i1z.symm hz₁
  have hez : e ≠ z:=fun x=>by subst x; rw [z2] at hoe; cases hoe; simp at hce
  refine wpAny_setField_rec z2 (by simp) fun h₃ _ e3=>hE h₃ e s.toks (fun c o c1 _ c3 _ x=>e3.extBut _ _ c1 (e2 _ _ c3 (e1.extBut _ _ c1 x))) ⟨oe,e3.extBut _ _ hez hoe,hce⟩
 ·refine wpAny_bind (D1.item i _ _ _ l1 (frame_but D1 st1 e1 D.z1) fun x h₂ tk₂ px s12 e2=>wpAny_pure ?_)
  replace e2 : Heap.SameBut i1 h₁ h₂:=e2
  have p2 : IsPair h₂ TO a b:=e2.extBut _ _ D.TOi1 (e1.extBut _ _ D.TOz hTO)
  refine wpAny_bind (wpAny_seqItems p2 rfl (wpAny_bind (wpAny_updateSeq_pair p2 fun h₃ p3 e3=>?_)))
  replace e3 : Heap.SameBut TO h₂ h₃:=e3
  refine wpAny_bind (wpAny_letGo (wpAny_pure (wpAny_bind (wpAny_bind (wpAny_onRaise ?_)))))
  show wpAny _ _ (Builtin.SmallTypes.nextOf (.ref i2) >>= _) _ _ _
  have s22 : St2 i h₃:=frame_but D2 (frame_but D2 (frame_but D2 st2 e1 D.z2) e2 D.n1) e3 D.TO2
  refine wpAny_bind (D2.done _ _ _ s22 fun h₄ e e4 he=>?_)
  obtain ⟨oe,hoe,hce⟩:=he
  replace e4 : Heap.ExtBut i2 h₃ h₄:=e4
  have z4 : IsZip h₄ z TI TO Value.ellipsis:=e4 _ _ D.i2z.symm (e3.extBut _ _ D.TOz.symm (e2.extBut _ _ D.i1z.symm hz₁))
  have hez : e ≠ z:=fun x=>by subst x; rw [z4] at hoe; cases hoe; simp at hce
  refine wpAny_setField_rec z4 (by simp) fun h₅ _ e5=>hE h₅ e tk₂ (fun c o c1 c2 c3 c4 x=>e5.extBut _ _ c1 (e4 _ _ c4 (e3.extBut _ _ c2 (e2.extBut _ _ c3 (e1.extBut _ _ c1 x))))) ⟨oe,e5.extBut _ _ hez hoe,hce⟩
theorem zipD_next {Q : Option Value→Shared→Prop} (D1 : Draws prog w A.in1 i1 fp1 n1 P1 St1) (D2 : Draws prog w A.in1 i2 fp2 n2 P2 St2) (D : ZA z TI TO i1 i2 fp1 fp2) (hz : IsZip s.heap z TI TO .none) (hTI : IsPair s.heap TI (.ref i1) (.ref i2)) (hTO : IsPair s.heap TO a b)
  (st1 : St1 i s.heap) (st2 : St2 i s.heap) (l1 : i < n1) (l2 : i < n2)
  (hQ : ∀ x y h' tk,P1 i x→P2 i y→IsZip h' z TI TO (rawInt s.heap.objs.size)→IsPair h' TO x y→St1 (i + 1) h'→St2 (i + 1) h'→IsPair h' s.heap.objs.size x y→h'.objs.size = s.heap.objs.size + 1 →
   (∀ c o,c ≠ z→c ≠ TO→c ≠ i1→c ≠ i2→s.heap.get? c = some o→h'.get? c = some o)→Q (some (.ref s.heap.objs.size)) { s with heap:=h',toks:=tk }) :
  wpAny (model prog w) A (pyNext (.ref z)) Q E s:=by
 have hT : s.TypeIs (.ref z) "zip":=⟨_,hz,rfl⟩
 unfold pyNext
 exact wpAny_bind (wpAny_attempt (wpAny_callSpecial?_slot (name:=Str.ofString "__next__") hT PySem.F.slot_zip_next
  (wpAny_call_entry PySem.F.slot_zip_next hT PySem.F.entry_zip_next (zipD_item D1 D2 D hz hTI hTO st1 st2 l1 l2 fun x y h' tk a1 a2 a3 a4 a5 a6 a7 a8 a9=>wpAny_pure (hQ x y h' tk a1 a2 a3 a4 a5 a6 a7 a8 a9)) (PySem.F.args_zip_next_1 _))))
theorem zipD_stop {Q : Option Value→Shared→Prop} (D1 : Draws prog w A.in1 i1 fp1 n1 P1 St1) (D2 : Draws prog w A.in1 i2 fp2 n2 P2 St2) (D : ZA z TI TO i1 i2 fp1 fp2) (hz : IsZip s.heap z TI TO .none) (hTI : IsPair s.heap TI (.ref i1) (.ref i2)) (hTO : IsPair s.heap TO a b)
  (st1 : St1 i s.heap) (st2 : St2 i s.heap) (hend : i = n1 ∨ (i < n1∧i = n2))
  (hQ : ∀ h' tk,(∀ c o,c ≠ z→c ≠ TO→c ≠ i1→c ≠ i2→s.heap.get? c = some o→h'.get? c = some o)→Q none { s with heap:=h',toks:=tk }) : wpAny (model prog w) A (pyNext (.ref z)) Q E s:=by
 have hT : s.TypeIs (.ref z) "zip":=⟨_,hz,rfl⟩
 unfold pyNext
 refine wpAny_bind (wpAny_attempt (wpAny_callSpecial?_slot (name:=Str.ofString "__next__") hT PySem.F.slot_zip_next
  (wpAny_call_entry PySem.F.slot_zip_next hT PySem.F.entry_zip_next (zipD_end D1 D2 D hz hTI hTO st1 st2 hend fun h' e tk hk he=>?_) (PySem.F.args_zip_next_1 _))))
 obtain ⟨o,ho,hc⟩:=he
 exact wpAny_bind (wpAny_isInstance (T:="StopIteration") (b:=true) ⟨o,ho,hc⟩ isSubtype_stop (wpAny_pure (hQ _ _ hk)))
end
noncomputable abbrev tit (l : Addr) : Obj:={ cls:=.type "tuple_iterator",data:=.fields #[.ref l,.int 0 0] }
noncomputable abbrev zt1 (h : Heap) (l1 : Addr) : Heap:=h.push (tit l1)
section
variable {prog : Program} {w : World} {A : Around} {E : Value→Shared→Prop} {s : Shared}
end
section
variable {X : Cx} {pins : List (Addr × Obj)} {σ : St} {H : Hp} {s : Shared} {h' : Heap}
theorem Inv.turnedL {t' : Nat} {fp : List Addr} (I : Inv X pins σ H s) (k : ∀ b o,b ∉ fp→s.heap.get? b = some o→h'.get? b = some o) (f : ∀ b ∈ fp,FpOk X pins H b) : Inv X pins σ H { s with heap:=h',toks:=t' }:=by
 have nit : ∀ b u,H b = some u→b ∉ fp:=fun b u e hb=>by rw [(f b hb).1] at e; exact nomatch e
 refine I.step (g':=s.gens) (d':=s.drawn) (ch:=fp) (fun b hb=>?_) (fun b o _ _ hc e _=>k b o hc e) (fun b o _ _ hc e _=>⟨o.slots,k b o hc e⟩) (fun _ _ _ _ n=>n)
  (fun b o hc e=>⟨o,k b o hc e⟩) (fun _ _ e=>e) (fun _ _ _ e=>e) (fun b ps e=>⟨#[],by rw [e]; simp⟩) (fun m hm=>?_) (fun b u e=>?_) I.bare
 ·obtain ⟨n1,l1,_,e1,c1,p1⟩:=f b hb
  exact ⟨e1,l1,c1,p1⟩
 ·obtain ⟨o,es,ep,ho,r⟩:=hm
  exact ⟨o,es,ep,k _ o (fun hb=>(f _ hb).2.1 rfl) ho,r⟩
 ·refine (I.hok b u e).stay (fun c v hc q=>k c v ?_ q) (fun _ q=>q) fun _ _ q=>q
  rcases hc with z | z
  ·rw [z]; exact nit b u e
  ·exact nit c _ z
theorem Inv.pairL {tk : Nat} {fp : List Addr} {T : Addr} {xs : List V} {its : List Value} (I : Inv X pins σ H s) (f : ∀ b ∈ fp,FpOk X pins H b)
  (kk : ∀ b o,b ∉ fp→s.heap.get? b = some o→h'.get? b = some o) (hT : s.heap.objs.size ≤ T) (rv : Vals xs its) (hz : xs.length ≤ sizeLine) (ht : h'.IsTuple T its.toArray) : Inv X pins σ (upd H T (.tup xs)) { s with heap:=h',toks:=tk }:=by
 have hf : H T = none:=I.hok.fresh hT
 have I1 : Inv X pins σ H { s with heap:=h',toks:=tk }:=I.turnedL kk f
 have hokN : HOk X.prog X.w (upd H T (.tup xs)) h':=fun b o e=>by
  by_cases hb : b = T
  ·subst hb
   rw [upd_same] at e
   cases e
   exact ⟨hz,its,rv,ht⟩
  ·rw [upd_ne hb] at e
   refine (I1.hok b o e).stay (fun c v _ q=>q) (fun c q=>?_) fun c zs q=>?_
   ·rw [upd_ne (ne_of_none q hf)]; exact q
   ·rw [upd_ne (ne_of_none q hf)]; exact q
 have u : Un (frs X.stack) fp H (upd H T (.tup xs)) s.heap h':={
  keep:=fun b o e n _ hx=>kk b o hx e
  slot:=fun b o e n _ hx=>⟨o.slots,kk b o hx e⟩
  free:=fun b o e n _=>by rw [upd_ne (Nat.ne_of_lt (Nat.lt_of_lt_of_le (Heap.lt_size e) hT))]; exact n
  there:=fun b o e hx=>⟨o,kk b o hx e⟩
  tups:=fun b zs e=>by rw [upd_ne (ne_of_none e hf)]; exact e
  frzs:=fun b o u e=>by rw [upd_ne (ne_of_none e hf)]; exact e
  tbls:=fun b ps e=>⟨#[],by rw [upd_ne (ne_of_none e hf),e]; simp⟩ }
 refine I.call (g':=s.gens) (d':=s.drawn) (t':=tk) u hokN I.bare fun b hb=>?_
 obtain ⟨n1,l1,_,e1,c1,p1⟩:=f b hb
 exact ⟨e1,l1,c1,p1⟩
end
structure ZB (z TI TO i1 i2 a b : Addr) : Prop where
 TIz : TI ≠ z
 TOz : TO ≠ z
 TITO : TI ≠ TO
 i1z : i1 ≠ z
 i2z : i2 ≠ z
 TI1 : TI ≠ i1
 TI2 : TI ≠ i2
 TO1 : TO ≠ i1
 TO2 : TO ≠ i2
 i12 : i1 ≠ i2
 az : a ≠ z
 aTO : a ≠ TO
 a1 : a ≠ i1
 a2 : a ≠ i2
 bz : b ≠ z
 bTO : b ≠ TO
 b1 : b ≠ i1
 b2 : b ≠ i2
theorem ZB.za {z TI TO i1 i2 a b : Addr} (D : ZB z TI TO i1 i2 a b) : ZA z TI TO i1 i2 [i1,a] [i2,b] where
 TIz:=D.TIz
 TOz:=D.TOz
 TITO:=D.TITO
 z1:=by simp [D.i1z.symm,D.az.symm]
 z2:=by simp [D.i2z.symm,D.bz.symm]
 TI1:=D.TI1
 TI2:=D.TI2
 TO1:=by simp [D.TO1,D.aTO.symm]
 TO2:=by simp [D.TO2,D.bTO.symm]
 m1:=by simp
 m2:=by simp
 n1:=by simp [D.i12,D.b1.symm]
 n2:=by simp [D.i12.symm,D.a2.symm]
theorem zb_new {n a b : Nat} (h1 : a < n) (h2 : b < n) : ZB (n + 4) (n + 2) (n + 3) n (n + 1) a b:=by
 have f : ∀ i j : Nat,i ≠ j→n + i ≠ n + j:=fun i j h e=>h (Nat.add_left_cancel e)
 have g : ∀ i : Nat,a ≠ n + i:=fun i e=>absurd h1 (by rw [e]; exact Nat.not_lt.mpr (Nat.le_add_right _ _))
 have g' : ∀ i : Nat,b ≠ n + i:=fun i e=>absurd h2 (by rw [e]; exact Nat.not_lt.mpr (Nat.le_add_right _ _))
 exact ⟨f 2 4 (by decide),f 3 4 (by decide),f 2 3 (by decide),f 0 4 (by decide),f 1 4 (by decide),f 2 0 (by decide),f 2 1 (by decide),f 3 0 (by decide),f 3 1 (by decide),f 0 1 (by decide),g 4,g 3,g 0,g 1,g' 4,g' 3,g' 0,g' 1⟩
section
variable {X : Cx}
end
end L2
namespace L2
open PySem PySem.Spec PyProof.Rows
theorem tuple_whole {prog : Program} {w : World} {A : Around} {E : Value→Shared→Prop} {s : Shared} {t sl : Addr} {items : Array Value} {vl vu : Value} {lo hi : Option Int} {Q : Value→Shared→Prop} (ht : IsTup s.heap t items) (hs : s.heap.IsSliceOf sl vl vu .none) (pl : IsPart vl lo) (pu : IsPart vu hi)
  (hw : HT.sIx items.size 0 lo = 0∧HT.sIx items.size items.size hi = items.size) (h : Q (.ref t) s) : wpAny (model prog w) A (getItem (.ref t) (.ref sl)) Q E s:=by
 obtain ⟨os,hos,hcs,hds⟩:=id hs
 have hTs : s.TypeIs (.ref sl) "slice":=⟨os,hos,hcs⟩
 unfold getItem
 try with_reducible refine wpAny_holding ?_
 first | refine wpAny_bind (wpAny_pure ?_) | skip
 refine wpAny_bind (wpAny_sequenceKey ht.typeIs (by decide) ?_)
 refine wpAny_bind (wpAny_callSpecial?_slot (name:=Str.ofString "__getitem__") ht.typeIs PyProof.Rows.slot_tuple_getitem
  (wpAny_call_entry PyProof.Rows.slot_tuple_getitem ht.typeIs PyProof.Rows.entry_tuple_getitem ?_ (PyProof.Rows.args_tuple_getitem _ _)))
 show wpAny _ _ (Builtin.Tuple.tupleItemsOf (.ref t) >>= _) _ _ s
 refine wpAny_bind (PyProof.Rows.tupleItemsOf_ ht ?_)
 refine wpAny_bind (wpAny_typeOf hTs ?_)
 rw [if_pos (by decide)]
 refine wpAny_bind (HT.sliceApplied_gen hs pl pu ?_)
 have hyes : (((HT.sIx items.size 0 lo : Nat) : Int) == 0 && (1 : Int) == 1 && (HT.sIx items.size items.size hi - HT.sIx items.size 0 lo) == items.size) = true:=by
  rw [hw.1,hw.2]
  simp
 show wpAny _ _ (if (((HT.sIx items.size 0 lo : Nat) : Int) == 0 && (1 : Int) == 1 && (HT.sIx items.size items.size hi - HT.sIx items.size 0 lo) == items.size) = true then _ else _) _ _ s
 rw [if_pos hyes]
 refine wpAny_bind (m:=Builtin.Tuple.tupleIsExact (.ref t)) ?_
 unfold Builtin.Tuple.tupleIsExact
 refine wpAny_bind (wpAny_typeOf ht.typeIs (wpAny_pure ?_))
 rw [if_pos (by decide)]
 refine wpAny_bind (wpAny_rule ?_)
 exact wpAny_pure ⟨_,rfl,wpAny_pure h⟩
noncomputable def rSlU (K : PySem.W.Frag) : V→Option Int→Option Int→Hp→VK→Prop:=fun x lo hi H Q=>∃ a xs,x = .ref a∧SqT K H a xs∧∀ r H',Same H H'→SqT K H' r (cutV xs lo hi)→Q (.ref r) H'
theorem sl_tupA {X : Cx} : SlR X (rSlU X.K):=by
 intro pins s σ H x v vl vu lo hi sl Q I rx hs pl pu h
 obtain ⟨a,xs,rfl,hx,q⟩:=h
 by_cases hw : HT.sIx xs.length 0 lo = 0∧HT.sIx xs.length xs.length hi = xs.length
 ·cases rx
  obtain ⟨its,r,ht,hz⟩:=I.tuple hx
  have hlen : its.toArray.size = xs.length:=by rw [List.size_toArray]; exact r.length.symm
  refine ⟨"tuple",_,PyProof.Rows.slot_tuple_getitem.lookup,ht.typeIs,?_⟩
  refine tuple_whole ht hs pl pu (by rw [hlen]; exact hw) ⟨.ref a,H,I,rfl,q a H (Same.refl H) ?_⟩
  have e : cutV xs lo hi = xs:=by unfold cutV; rw [hw.1,hw.2]; simp
  rw [e]
  exact hx
 ·exact sl_tup pins s σ H _ v vl vu lo hi sl Q I rx hs pl pu ⟨a,xs,rfl,hx,hw,fun p hp=>q p _ (Same.upd hp) (.of upd_same)⟩
noncomputable def rSlB (K : PySem.W.Frag) : V→Option Int→Option Int→Hp→VK→Prop:=fun x lo hi H Q=>rSlL K x lo hi H Q ∨ rSlS x lo hi H Q ∨ rSlU K x lo hi H Q
theorem k_slB {X : Cx} (K : PySem.W.Frag) (hK : X.K = K:=by rfl) : SlR X (rSlB K):=by subst hK; exact sl_list.or (sl_str.or sl_tupA)
theorem s_slb_tup {K : PySem.W.Frag} {a : Addr} {xs : List V} {lo hi : Option Int} {H : Hp} {Q : VK} (ha : SqT K H a xs) (h : ∀ r H',Same H H'→SqT K H' r (cutV xs lo hi)→Q (.ref r) H') : rSlB K (.ref a) lo hi H Q:=.inr (.inr ⟨a,xs,rfl,ha,h⟩)
theorem cutV_to (xs : List V) (k : Nat) : cutV xs none (some (k : Int)) = xs.take k:=by
 unfold cutV
 rw [HT.sIx_none,HT.sIx_nat,Nat.sub_zero,List.drop_zero]
 by_cases h : k ≤ xs.length
 ·rw [Nat.min_eq_left h]
 ·rw [Nat.min_eq_right (by omega),List.take_of_length_le (Nat.le_refl _),List.take_of_length_le (by omega)]
theorem cutV_from (xs : List V) (k : Nat) : cutV xs (some (k : Int)) none = xs.drop k:=by
 unfold cutV
 rw [HT.sIx_none,HT.sIx_nat]
 by_cases h : k ≤ xs.length
 ·rw [Nat.min_eq_left h,List.take_of_length_le (by simp)]
 ·rw [Nat.min_eq_right (by omega),List.drop_of_length_le (Nat.le_refl _),List.drop_of_length_le (by omega)]
  simp
end L2
namespace L2
open PySem PySem.Spec PyProof.Rows
section
variable {M : Model} {A : Around} {E : Value→Shared→Prop} {s : Shared}
end
end L2
namespace L2
open PySem PySem.Spec PyProof.Rows
theorem qs_dead {X : Cx} {st : Stmt} : QS X st (fun _ _ _=>False):=⟨fun _ _ _ _ _ _ h=>h.elim⟩
noncomputable def ZpLate (h : Heap) (z TI TO i1 i2 : Addr) : Prop:=∃ (a : Addr) (oa : Obj) (f1 : Value),h.get? z = some { cls:=.type "zip",dict:=none,data:=.fields #[rawInt a,f1,.bool false,.ref TI,.ref TO],slots:=#[] }∧h.get? a = some oa∧a ≠ z∧a ≠ i1∧a ≠ i2
section
variable {prog : Program} {w : World} {A : Around} {E : Value→Shared→Prop} {s : Shared} {z TI TO i1 i2 : Addr} {fp1 fp2 : List Addr} {n1 n2 i : Nat} {P1 P2 : Nat→Value→Prop} {St1 St2 : Nat→Heap→Prop} {a b : Value}
theorem late_free {Q : Bool→Shared→Prop} (hz : ZpLate s.heap z TI TO i1 i2) (h : ∀ h',ZpLate h' z TI TO i1 i2→Heap.SameBut z s.heap h'→Q false { s with heap:=h' }) : wpAny (model prog w) A (Builtin.SmallTypes.ownedTupleIsFree (.ref z)) Q E s:=by
 obtain ⟨a,oa,f1,e,ea,n0,n1,n2⟩:=hz
 unfold Builtin.SmallTypes.ownedTupleIsFree
 refine wpAny_bind (wpAny_field e rfl (x:=rawInt a) rfl ?_)
 show wpAny _ _ (loadIfAlive ((a : Int).toNat) >>= _) _ _ s
 refine wpAny_bind (wpAny_loadAlive ?_)
 rw [Int.toNat_natCast,ea]
 rw [if_neg (by simp)]
 refine wpAny_bind (wpAny_field e rfl (x:=f1) rfl ?_)
 by_cases hf : (f1 != Value.bool true) = true
 ·simp only [hf,if_true]
  refine wpAny_bind (wpAny_setField_rec e (by simp) fun h₅ e5 s5=>?_)
  replace s5 : Heap.SameBut z s.heap h₅:=s5
  exact wpAny_pure (h h₅ ⟨a,oa,.bool true,e5,s5.extBut a oa n0 ea,n0,n1,n2⟩ s5)
 ·simp only [hf]
  exact wpAny_pure (h s.heap ⟨a,oa,f1,e,ea,n0,n1,n2⟩ (Heap.SameBut.refl ..))
theorem zipL_item {Q : Value→Shared→Prop} (D1 : Draws prog w A i1 fp1 n1 P1 St1) (D2 : Draws prog w A i2 fp2 n2 P2 St2) (D : ZA z TI TO i1 i2 fp1 fp2) (hz : ZpLate s.heap z TI TO i1 i2) (hTI : IsPair s.heap TI (.ref i1) (.ref i2))
  (st1 : St1 i s.heap) (st2 : St2 i s.heap) (l1 : i < n1) (l2 : i < n2)
  (hQ : ∀ x y h' tk,P1 i x→P2 i y→ZpLate h' z TI TO i1 i2→St1 (i + 1) h'→St2 (i + 1) h'→IsPair h' s.heap.objs.size x y→h'.objs.size = s.heap.objs.size + 1 →
   (∀ c o,c ≠ z→c ≠ i1→c ≠ i2→s.heap.get? c = some o→h'.get? c = some o)→Q (.ref s.heap.objs.size) { s with heap:=h',toks:=tk }) :
  wpAny (model prog w) A (Builtin.«zip.__next__» ⟨[.ref z],[]⟩) (fun fin s'=>∃ v,fin = .done (.ret v)∧Q v s') E s:=by
 obtain ⟨a0,oa0,f10,e0,_⟩:=id hz
 show wpAny _ _ (field (.ref z) 2 >>= _) _ _ s
 refine wpAny_bind (wpAny_field e0 rfl (x:=Value.bool false) rfl ?_)
 show wpAny _ _ (field (.ref z) 3 >>= _) _ _ s
 refine wpAny_bind (wpAny_field e0 rfl (x:=Value.ref TI) rfl (wpAny_bind (wpAny_seqItems hTI rfl ?_)))
 show wpAny _ _ (Builtin.SmallTypes.ownedTupleIsFree (.ref z) >>= _) _ _ s
 refine wpAny_bind (late_free hz fun h₁ hz₁ e1=>?_)
 simp only [Bool.false_eq_true,if_false]
 refine wpAny_bind ?_
 simp only [List.forIn_toArray,List.forIn_cons,List.forIn_nil]
 refine wpAny_bind (wpAny_bind (wpAny_holding ?_))
 show wpAny _ _ (Builtin.SmallTypes.nextOf (.ref i1) >>= _) _ _ _
 refine wpAny_bind (D1.item i _ _ _ l1 (frame_but D1 st1 e1 D.z1) fun x h₂ tk₂ px s12 e2=>wpAny_pure (wpAny_pure ?_))
 replace e2 : Heap.SameBut i1 h₁ h₂:=e2
 refine wpAny_bind (wpAny_bind (wpAny_holding ?_))
 show wpAny _ _ (Builtin.SmallTypes.nextOf (.ref i2) >>= _) _ _ _
 have s22 : St2 i h₂:=frame_but D2 (frame_but D2 st2 e1 D.z2) e2 D.n1
 refine wpAny_bind (D2.item i _ _ _ l2 s22 fun y h₄ tk₄ py s24 e4=>wpAny_pure (wpAny_pure (wpAny_pure ?_)))
 replace e4 : Heap.SameBut i2 h₂ h₄:=e4
 show wpAny _ _ (newTuple [x,y] >>= _) _ _ _
 refine wpAny_bind (wpAny_newTuple (wpAny_pure ⟨_,rfl,?_⟩))
 have sz : h₄.objs.size = s.heap.objs.size:=by rw [e4.1,e2.1,e1.1]
 show Q (.ref h₄.objs.size) { s with heap:=h₄.push { cls:=.type "tuple",data:=.seq #[x,y] },toks:=tk₄ }
 have up : ∀ c o,h₄.get? c = some o→(h₄.push { cls:=.type "tuple",data:=.seq #[x,y] }).get? c = some o:=fun c o e=>Heap.get?_push_of_some _ e
 have k4 : ∀ c o,c ≠ z→c ≠ i1→c ≠ i2→s.heap.get? c = some o→h₄.get? c = some o:=fun c o c1 c3 c4 e=>e4.extBut _ _ c4 (e2.extBut _ _ c3 (e1.extBut _ _ c1 e))
 have t8 : IsPair (h₄.push { cls:=.type "tuple",data:=.seq #[x,y] }) h₄.objs.size x y:=Heap.get?_push_size _ rfl
 rw [sz] at t8
 rw [sz]
 obtain ⟨a1,oa1,f1,g1,g2,g3,g4,g5⟩:=hz₁
 refine hQ x y _ tk₄ px py ⟨a1,oa1,f1,up _ _ (e4.extBut _ _ D.i2z.symm (e2.extBut _ _ D.i1z.symm g1)),up _ _ (e4.extBut _ _ g5 (e2.extBut _ _ g4 g2)),g3,g4,g5⟩ ?_ ?_ t8 (by rw [Heap.size_push,sz]) fun c o c1 c3 c4 e=>up c o (k4 c o c1 c3 c4 e)
 ·exact D1.frame _ _ _ (frame_but D1 s12 e4 D.n2) fun c _ o e=>up c o e
 ·exact D2.frame _ _ _ s24 fun c _ o e=>up c o e
theorem zipL_end {Q : Fin→Shared→Prop} (D1 : Draws prog w A i1 fp1 n1 P1 St1) (D2 : Draws prog w A i2 fp2 n2 P2 St2) (D : ZA z TI TO i1 i2 fp1 fp2) (hz : ZpLate s.heap z TI TO i1 i2) (hTI : IsPair s.heap TI (.ref i1) (.ref i2))
  (st1 : St1 i s.heap) (st2 : St2 i s.heap) (hend : i = n1 ∨ (i < n1∧i = n2))
  (hE : ∀ h' e tk,(∀ c o,c ≠ z→c ≠ i1→c ≠ i2→s.heap.get? c = some o→h'.get? c = some o)→(∃ o,h'.get? e = some o∧o.cls = .type "StopIteration")→E (.ref e) { s with heap:=h',toks:=tk }) :
  wpAny (model prog w) A (Builtin.«zip.__next__» ⟨[.ref z],[]⟩) Q E s:=by
 obtain ⟨a0,oa0,f10,e0,_⟩:=id hz
 show wpAny _ _ (field (.ref z) 2 >>= _) _ _ s
 refine wpAny_bind (wpAny_field e0 rfl (x:=Value.bool false) rfl ?_)
 show wpAny _ _ (field (.ref z) 3 >>= _) _ _ s
 refine wpAny_bind (wpAny_field e0 rfl (x:=Value.ref TI) rfl (wpAny_bind (wpAny_seqItems hTI rfl ?_)))
 show wpAny _ _ (Builtin.SmallTypes.ownedTupleIsFree (.ref z) >>= _) _ _ s
 refine wpAny_bind (late_free hz fun h₁ hz₁ e1=>?_)
 simp only [Bool.false_eq_true,if_false]
 refine wpAny_bind ?_
 simp only [List.forIn_toArray,List.forIn_cons,List.forIn_nil]
 refine wpAny_bind (wpAny_bind (wpAny_holding ?_))
 show wpAny _ _ (Builtin.SmallTypes.nextOf (.ref i1) >>= _) _ _ _
 rcases hend with rfl | ⟨l1,rfl⟩
 ·refine wpAny_bind (D1.done _ _ _ (frame_but D1 st1 e1 D.z1) fun h₂ e e2 he=>?_)
  replace e2 : Heap.ExtBut i1 h₁ h₂:=e2
  exact hE h₂ e s.toks (fun c o c1 c3 _ x=>e2 _ _ c3 (e1.extBut _ _ c1 x)) he
 ·refine wpAny_bind (D1.item i _ _ _ l1 (frame_but D1 st1 e1 D.z1) fun x h₂ tk₂ px s12 e2=>wpAny_pure (wpAny_pure ?_))
  replace e2 : Heap.SameBut i1 h₁ h₂:=e2
  refine wpAny_bind (wpAny_bind (wpAny_holding ?_))
  show wpAny _ _ (Builtin.SmallTypes.nextOf (.ref i2) >>= _) _ _ _
  have s22 : St2 i h₂:=frame_but D2 (frame_but D2 st2 e1 D.z2) e2 D.n1
  refine wpAny_bind (D2.done _ _ _ s22 fun h₄ e e4 he=>?_)
  replace e4 : Heap.ExtBut i2 h₂ h₄:=e4
  exact hE h₄ e tk₂ (fun c o c1 c3 c4 x=>e4 _ _ c4 (e2.extBut _ _ c3 (e1.extBut _ _ c1 x))) he
noncomputable def ZpSt (h : Heap) (z TI TO i1 i2 : Addr) (i : Nat) : Prop:=(i = 0∧IsZip h z TI TO .none∧∃ u v,IsPair h TO u v) ∨ (0 < i∧ZpLate h z TI TO i1 i2)
theorem ZpSt.obj {h : Heap} {z TI TO i1 i2 : Addr} {i : Nat} (x : ZpSt h z TI TO i1 i2 i) : ∃ vs,h.get? z = some { cls:=.type "zip",dict:=none,data:=.fields vs,slots:=#[] }:=by
 rcases x with ⟨_,x,_⟩ | ⟨_,_,_,_,x,_⟩
 ·exact ⟨_,x⟩
 ·exact ⟨_,x⟩
theorem zp_next {Q : Option Value→Shared→Prop} (D1 : Draws prog w A.in1 i1 fp1 n1 P1 St1) (D2 : Draws prog w A.in1 i2 fp2 n2 P2 St2) (D : ZA z TI TO i1 i2 fp1 fp2) (hz : ZpSt s.heap z TI TO i1 i2 i) (hTI : IsPair s.heap TI (.ref i1) (.ref i2)) (eTO : ∃ o,s.heap.get? TO = some o)
  (st1 : St1 i s.heap) (st2 : St2 i s.heap) (l1 : i < n1) (l2 : i < n2)
  (hQ : ∀ x y h' tk,P1 i x→P2 i y→ZpSt h' z TI TO i1 i2 (i + 1)→(∃ o,h'.get? TO = some o)→St1 (i + 1) h'→St2 (i + 1) h'→IsPair h' s.heap.objs.size x y→h'.objs.size = s.heap.objs.size + 1 →
   (∀ c o,c ≠ z→c ≠ TO→c ≠ i1→c ≠ i2→s.heap.get? c = some o→h'.get? c = some o)→Q (some (.ref s.heap.objs.size)) { s with heap:=h',toks:=tk }) :
  wpAny (model prog w) A (pyNext (.ref z)) Q E s:=by
 obtain ⟨vs,ho⟩:=hz.obj
 have hT : s.TypeIs (.ref z) "zip":=⟨_,ho,rfl⟩
 have zl : z < s.heap.objs.size:=Heap.lt_size ho
 have l1' : i1 < s.heap.objs.size:=by obtain ⟨_,y⟩:=D1.live _ _ st1; exact Heap.lt_size y
 have l2' : i2 < s.heap.objs.size:=by obtain ⟨_,y⟩:=D2.live _ _ st2; exact Heap.lt_size y
 rcases hz with ⟨rfl,hz,u,v,hTO⟩ | ⟨hi,hz⟩
 ·exact zipD_next D1 D2 D hz hTI hTO st1 st2 l1 l2 fun x y h' tk a1 a2 a3 a4 a5 a6 a7 a8 a9=>hQ x y h' tk a1 a2 (.inr ⟨Nat.succ_pos _,_,_,_,a3,a7,Nat.ne_of_gt zl,Nat.ne_of_gt l1',Nat.ne_of_gt l2'⟩) ⟨_,a4⟩ a5 a6 a7 a8 a9
 ·unfold pyNext
  exact wpAny_bind (wpAny_attempt (wpAny_callSpecial?_slot (name:=Str.ofString "__next__") hT PySem.F.slot_zip_next
   (wpAny_call_entry PySem.F.slot_zip_next hT PySem.F.entry_zip_next (zipL_item D1 D2 D hz hTI st1 st2 l1 l2 fun x y h' tk a1 a2 a3 a4 a5 a6 a7 a8=>wpAny_pure (hQ x y h' tk a1 a2 (.inr ⟨Nat.succ_pos _,a3⟩) (let ⟨o,e⟩:=eTO; ⟨o,a8 _ o D.TOz D.TOi1 D.TOi2 e⟩) a4 a5 a6 a7 fun c o c1 _ c3 c4 e=>a8 c o c1 c3 c4 e)) (PySem.F.args_zip_next_1 _))))
theorem zp_end {Q : Option Value→Shared→Prop} (D1 : Draws prog w A.in1 i1 fp1 n1 P1 St1) (D2 : Draws prog w A.in1 i2 fp2 n2 P2 St2) (D : ZA z TI TO i1 i2 fp1 fp2) (hz : ZpSt s.heap z TI TO i1 i2 i) (hTI : IsPair s.heap TI (.ref i1) (.ref i2))
  (st1 : St1 i s.heap) (st2 : St2 i s.heap) (hend : i = n1 ∨ (i < n1∧i = n2))
  (hQ : ∀ h' tk,(∀ c o,c ≠ z→c ≠ TO→c ≠ i1→c ≠ i2→s.heap.get? c = some o→h'.get? c = some o)→Q none { s with heap:=h',toks:=tk }) : wpAny (model prog w) A (pyNext (.ref z)) Q E s:=by
 obtain ⟨vs,ho⟩:=hz.obj
 have hT : s.TypeIs (.ref z) "zip":=⟨_,ho,rfl⟩
 rcases hz with ⟨rfl,hz,u,v,hTO⟩ | ⟨hi,hz⟩
 ·exact zipD_stop D1 D2 D hz hTI hTO st1 st2 hend hQ
 ·unfold pyNext
  refine wpAny_bind (wpAny_attempt (wpAny_callSpecial?_slot (name:=Str.ofString "__next__") hT PySem.F.slot_zip_next
   (wpAny_call_entry PySem.F.slot_zip_next hT PySem.F.entry_zip_next (zipL_end D1 D2 D hz hTI st1 st2 hend fun h' e tk hk he=>?_) (PySem.F.args_zip_next_1 _))))
  obtain ⟨o,ho,hc⟩:=he
  exact wpAny_bind (wpAny_isInstance (T:="StopIteration") (b:=true) ⟨o,ho,hc⟩ isSubtype_stop (wpAny_pure (hQ _ _ fun c o c1 _ c3 c4 e=>hk c o c1 c3 c4 e)))
end
noncomputable abbrev lit (l : Addr) : Obj:={ cls:=.type "list_iterator",data:=.fields #[.ref l,.int 0 0] }
noncomputable abbrev zl2 (h : Heap) (l1 l2 : Addr) : Heap:=(zt1 h l1).push (lit l2)
noncomputable abbrev zl3 (h : Heap) (l1 l2 : Addr) : Heap:=(zl2 h l1 l2).push { cls:=.type "tuple",data:=.seq #[.ref h.objs.size,.ref (zt1 h l1).objs.size] }
noncomputable abbrev zl4 (h : Heap) (l1 l2 : Addr) : Heap:=(zl3 h l1 l2).push { cls:=.type "tuple",data:=.seq #[.none,.none] }
noncomputable abbrev zl5 (h : Heap) (l1 l2 : Addr) : Heap:=(zl4 h l1 l2).push { cls:=.type "zip",data:=.fields #[.none,.bool false,.bool false,.ref (zl2 h l1 l2).objs.size,.ref (zl3 h l1 l2).objs.size] }
theorem meets_zipTL (l1 l2 : Addr) (xs ys : Array Value) :
  Meets (Builtin.«zip.__new__» ⟨[.type "zip",.ref l1,.ref l2],[]⟩) (fun _ R s=>s.heap.IsTuple l1 xs∧s.heap.IsList l2 ys∧R (.ok (.ret (.ref (zl4 s.heap l1 l2).objs.size))) { s with heap:=zl5 s.heap l1 l2 }) :=
 .of_wp fun prog w A R s h=>by
  obtain ⟨hp,g,d,tk,os⟩:=s; obtain ⟨hl1,hl2,h⟩:=h
  have hsub:=sub_zip
  have q1 : Heap.IsTuple (Shared.heap ⟨hp,g,d,tk,os⟩) l1 xs:=hl1
  have q2 : Heap.IsList (Shared.heap ⟨hp.push { cls:=.type "tuple_iterator",data:=.fields #[.ref l1,.int 0 0] },g,d,tk,os⟩) l2 ys:=Heap.IsList.push hl2 _
  wp_walk using wpAny_pyIter_tuple q1,wpAny_pyIter_list q2
  exact ⟨_,rfl,h⟩
theorem call_zipTL {prog : Program} {w : World} {A : Around} {E : Value→Shared→Prop} {s : Shared} {l1 l2 : Addr} {xs ys : Array Value} {Q : Value→Shared→Prop} (hl1 : s.heap.IsTuple l1 xs) (hl2 : s.heap.IsList l2 ys)
  (h : ∀ h',IsZip h' (s.heap.objs.size + 4) (s.heap.objs.size + 2) (s.heap.objs.size + 3) .none→IsPair h' (s.heap.objs.size + 2) (.ref s.heap.objs.size) (.ref (s.heap.objs.size + 1)) →
   IsPair h' (s.heap.objs.size + 3) .none .none→h'.IsTupleIter s.heap.objs.size l1 0→h'.IsListIter (s.heap.objs.size + 1) l2 0→h'.objs.size = s.heap.objs.size + 5 →
   (∀ c o,s.heap.get? c = some o→h'.get? c = some o)→Q (.ref (s.heap.objs.size + 4)) { s with heap:=h' }) :
  wpAny (model prog w) A (call (.type "zip") [.ref l1,.ref l2]) Q E s:=by
 refine callType_new PySem.F.called_zip (by decide) (PySem.F.typeCall_zip_2 _ _) (PySem.F.newCall_zip_2 _ _) (fun obj=>PySem.F.args_object_init_3 obj _ _) PySem.F.entry_zip_new (meets_zipTL l1 l2 xs ys) ⟨hl1,hl2,?_⟩
 have y1 : (zt1 s.heap l1).objs.size = s.heap.objs.size + 1:=Heap.size_push ..
 have y2 : (zl2 s.heap l1 l2).objs.size = s.heap.objs.size + 2:=by rw [Heap.size_push,y1]
 have y3 : (zl3 s.heap l1 l2).objs.size = s.heap.objs.size + 3:=by rw [Heap.size_push,y2]
 have y4 : (zl4 s.heap l1 l2).objs.size = s.heap.objs.size + 4:=by rw [Heap.size_push,y3]
 have y5 : (zl5 s.heap l1 l2).objs.size = s.heap.objs.size + 5:=by rw [Heap.size_push,y4]
 have u5 : (zl5 s.heap l1 l2).get? (zl4 s.heap l1 l2).objs.size = some _:=Heap.get?_push_size _ rfl
 have u4 : (zl5 s.heap l1 l2).get? (zl3 s.heap l1 l2).objs.size = some _:=Heap.get?_push_of_some _ (Heap.get?_push_size _ rfl)
 have u3 : (zl5 s.heap l1 l2).get? (zl2 s.heap l1 l2).objs.size = some _:=Heap.get?_push_of_some _ (Heap.get?_push_of_some _ (Heap.get?_push_size _ rfl))
 have u2 : (zl5 s.heap l1 l2).get? (zt1 s.heap l1).objs.size = some _:=Heap.get?_push_of_some _ (Heap.get?_push_of_some _ (Heap.get?_push_of_some _ (Heap.get?_push_size _ rfl)))
 have u1 : (zl5 s.heap l1 l2).get? s.heap.objs.size = some _:=Heap.get?_push_of_some _ (Heap.get?_push_of_some _ (Heap.get?_push_of_some _ (Heap.get?_push_of_some _ (Heap.get?_push_size _ rfl))))
 show _∧_
 rw [y2,y3,y4] at u5
 rw [y1,y2] at u3
 rw [y3] at u4
 rw [y1] at u2
 rw [y4]
 exact ⟨⟨_,u5,rfl⟩,h _ u5 u3 u4 ⟨_,u1,rfl,rfl⟩ ⟨_,u2,rfl,rfl⟩ y5 fun c o x=>Heap.get?_push_of_some _ (Heap.get?_push_of_some _ (Heap.get?_push_of_some _ (Heap.get?_push_of_some _ (Heap.get?_push_of_some _ x))))⟩
noncomputable def ZPairs (H : Hp) (xs ys zs : List V) : Prop:=∀ (j : Nat) (z : V),zs[j]? = some z→∃ (t : Addr) (x y : V),z = V.ref t∧xs[j]? = some x∧ys[j]? = some y∧H t = some (.tup [x,y])
noncomputable def JZp (K : PySem.W.Frag) (H0 : Hp) (z TI TO i1 i2 a b : Addr) (xs ys : List V) : Nat→List V→Hp→Heap→Prop:=fun i zs H h =>
 ZpSt h z TI TO i1 i2 i∧(IsPair h TI (.ref i1) (.ref i2)∧∃ o,h.get? TO = some o)∧h.IsTupleIter i1 a i∧h.IsListIter i2 b i∧(∀ c ∈ [z,TI,TO,i1,i2],H c = none)∧zs.length = i∧ZPairs H xs ys zs∧Same H0 H
theorem zp_nolen : typeLookup (.type "zip") "__len__" = pure none:=by rw [typeLookup_type,builtinLookup_eq_fast]; kernel_rfl
theorem zp_nohint : typeLookup (.type "zip") "__length_hint__" = pure none:=by rw [typeLookup_type,builtinLookup_eq_fast]; kernel_rfl
theorem src_zip {X : Cx} {pins : List (Addr × Obj)} {σ : St} {H0 : Hp} {z TI TO i1 i2 a b : Addr} {xs ys : List V} (fp : ∀ c ∈ [z,TI,TO,i1,i2],FpOk X pins H0 c) (D : ZB z TI TO i1 i2 a b) (ha : SqT X.K H0 a xs) (hb : SqL X.K H0 b ys) :
  Src X pins σ z "zip" (min xs.length ys.length) H0 (JZp X.K H0 z TI TO i1 i2 a b xs ys) where
 ty:=fun i zs H h j=>by
  obtain ⟨vs,e⟩:=j.1.obj
  exact ⟨_,e,rfl⟩
 nl:=by decide
 nolen:=zp_nolen
 nohint:=zp_nohint
 self:=fun A s zs H Q E j q=>by
  rcases j.1 with ⟨_,e,_⟩ | ⟨z,_⟩
  ·exact wpAny_pyIter_zip e q
  ·exact absurd z (Nat.lt_irrefl _)
 keep:=fun i zs H h h' S us us' h0 hS j k al=>by
  obtain ⟨j1,⟨j2,jT⟩,j3,j4,j5,j6,j7,j8⟩:=j
  have ne : ∀ c ∈ [z,TI,TO,i1,i2],c ≠ S:=fun c hc e=>by
   have:=j5 c hc
   rw [e,hS] at this
   cases this
  refine ⟨?_,⟨k _ _ (ne TI (by simp)) j2,let ⟨o,e⟩:=jT; ⟨o,k _ _ (ne TO (by simp)) e⟩⟩,j3.at fun o e=>k _ _ (ne i1 (by simp)) e,j4.at fun o e=>k _ _ (ne i2 (by simp)) e,fun c hc=>by rw [upd_ne (ne c hc)]; exact j5 c hc,j6,fun m y hy=>?_,j8.over h0⟩
  ·rcases j1 with ⟨z0,e,u,v,e2⟩ | ⟨z0,a0,oa,f1,e,ea,x1,x2,x3⟩
   ·exact .inl ⟨z0,k _ _ (ne z (by simp)) e,u,v,k _ _ (ne TO (by simp)) e2⟩
   ·by_cases hs : a0 = S
    ·subst hs
     obtain ⟨o,eo⟩:=al
     exact .inr ⟨z0,a0,o,f1,k _ _ (ne z (by simp)) e,eo,x1,x2,x3⟩
    ·exact .inr ⟨z0,a0,oa,f1,k _ _ (ne z (by simp)) e,k _ _ hs ea,x1,x2,x3⟩
  ·obtain ⟨t,x,y',e1,e2,e3,e4⟩:=j7 m y hy
   exact ⟨t,x,y',e1,e2,e3,by rw [upd_ne (ne_of e4 hS (by intro z; cases z))]; exact e4⟩
 fresh:=fun i zs H h j=>j.2.2.2.2.1 z (by simp)
 item:=fun A i s H zs E hh hi I j=>by
  obtain ⟨j1,⟨j2,jT⟩,j3,j4,j5,j6,j7,j8⟩:=j
  obtain ⟨its,rv,p,hz⟩:=I.tuple (j8.tup ha)
  obtain ⟨its2,rv2,p2,hz2⟩:=I.list (j8.seq hb)
  have g1:=rv.length
  have g2:=rv2.length
  have l1 : i < xs.length:=by omega
  have l2 : i < ys.length:=by omega
  have D1:=draws_tup (prog:=X.prog) (w:=X.w) (A:=A.in1) hh i1 a D.a1 its.toArray
  have D2:=Draws.list (prog:=X.prog) (w:=X.w) (A:=A.in1) hh i2 b D.b2 its2.toArray
  refine zp_next D1 D2 D.za j1 j2 jT ⟨j3,p⟩ ⟨j4,p2.isList⟩ (by rw [List.size_toArray]; omega) (by rw [List.size_toArray]; omega) fun x y h' tk px py a1 aT a2 a3 a4 a5 a6=>?_
  have hx' : its[i]? = some x:=by simpa using px
  have hy' : its2[i]? = some y:=by simpa using py
  obtain ⟨u1,hu1,ru1⟩:=rv.get (List.getElem?_eq_getElem l1)
  obtain ⟨u2,hu2,ru2⟩:=rv2.get (List.getElem?_eq_getElem l2)
  rw [hx'] at hu1
  cases hu1
  rw [hy'] at hu2
  cases hu2
  have hf : H s.heap.objs.size = none:=I.hok.fresh (Nat.le_refl _)
  have fpH : ∀ c ∈ [z,TI,TO,i1,i2],FpOk X pins H c:=fun c hc=>(fp c hc).of (j5 c hc)
  have kk : ∀ c o,c ∉ [z,TI,TO,i1,i2]→s.heap.get? c = some o→h'.get? c = some o:=fun c o hc e=>by
   simp only [List.mem_cons,List.not_mem_nil,or_false,not_or] at hc
   exact a6 c o hc.1 hc.2.2.1 hc.2.2.2.1 hc.2.2.2.2 e
  have I2:=I.pairL (tk:=tk) (T:=s.heap.objs.size) (xs:=[xs[i],ys[i]]) (its:=[x,y]) fpH kk (Nat.le_refl _) (.cons ru1 (.cons ru2 .nil)) (by show 2 ≤ sizeLine; decide) ⟨_,a4,rfl,_,rfl⟩
  have sm : Same H (upd H s.heap.objs.size (.tup [xs[i],ys[i]])):=Same.upd hf
  have lt : ∀ {c o},s.heap.get? c = some o→c ≠ s.heap.objs.size:=fun e=>Nat.ne_of_lt (Heap.lt_size e)
  have nw : ∀ c ∈ [z,TI,TO,i1,i2],c ≠ s.heap.objs.size:=fun c hc=>by
   simp only [List.mem_cons,List.not_mem_nil,or_false] at hc
   rcases hc with rfl | rfl | rfl | rfl | rfl
   ·obtain ⟨_,e⟩:=j1.obj; exact lt e
   ·exact lt j2
   ·obtain ⟨_,e⟩:=jT; exact lt e
   ·obtain ⟨_,e,_⟩:=j3; exact lt e
   ·obtain ⟨_,e,_⟩:=j4; exact lt e
  refine ⟨_,.ref s.heap.objs.size,_,rfl,rfl,I2,⟨a1,⟨a6 _ _ D.TIz D.TITO D.TI1 D.TI2 j2,aT⟩,a2.1,a3.1,fun c hc=>by rw [upd_ne (nw c hc)]; exact j5 c hc,by simp [j6],fun m y hy=>?_,j8.trans sm⟩,fun S us e=>sm S _ e⟩
  by_cases hm : m < i
  ·rw [List.getElem?_append_left (by omega)] at hy
   obtain ⟨t,x,y',e1,e2,e3,e4⟩:=j7 m y hy
   exact ⟨t,x,y',e1,e2,e3,sm _ _ e4⟩
  ·have hlen:=(List.getElem?_eq_some_iff.mp hy).1
   rw [List.length_append,List.length_singleton] at hlen
   have : m = i:=by omega
   subst this
   rw [List.getElem?_append_right (by omega),j6,Nat.sub_self] at hy
   have hy : V.ref s.heap.objs.size = y:=by simpa using hy
   exact ⟨_,xs[m],ys[m],hy.symm,List.getElem?_eq_getElem l1,List.getElem?_eq_getElem l2,upd_same⟩
 done:=fun A s H zs E hh I j=>by
  obtain ⟨j1,⟨j2,jT⟩,j3,j4,j5,j6,j7,j8⟩:=j
  obtain ⟨its,rv,p,hz⟩:=I.tuple (j8.tup ha)
  obtain ⟨its2,rv2,p2,hz2⟩:=I.list (j8.seq hb)
  have g1:=rv.length
  have g2:=rv2.length
  have D1:=draws_tup (prog:=X.prog) (w:=X.w) (A:=A.in1) hh i1 a D.a1 its.toArray
  have D2:=Draws.list (prog:=X.prog) (w:=X.w) (A:=A.in1) hh i2 b D.b2 its2.toArray
  have fpH : ∀ c ∈ [z,TI,TO,i1,i2],FpOk X pins H c:=fun c hc=>(fp c hc).of (j5 c hc)
  refine zp_end D1 D2 D.za j1 j2 ⟨j3,p⟩ ⟨j4,p2.isList⟩ (by simp only [List.size_toArray]; omega) fun h' tk kk=>⟨rfl,I.turnedL (fun c o hc e=>?_) fpH⟩
  simp only [List.mem_cons,List.not_mem_nil,or_false,not_or] at hc
  exact kk c o hc.1 hc.2.2.1 hc.2.2.2.1 hc.2.2.2.2 e
section
variable {X : Cx}
noncomputable def tListZp (K : PySem.W.Frag) (ta : TA) : TE:=fun σ H Q=>ta σ H fun vs H1=>∃ a b xs ys,vs = [.ref a,.ref b]∧SqT K H1 a xs∧SqL K H1 b ys ∧
 ∀ (S : Addr) (zs : List V) (H2 : Hp),H1 S = none→Same H1 H2→zs.length = min xs.length ys.length→ZPairs H2 xs ys zs→H2 S = some (.lst zs)→Q (.ref S) H2
theorem qe_list_zipK (K : PySem.W.Frag) {e e2 : Expr} {ta : TA} {p p2 pos pos2 : Pos} (hg : Gl X "list") (hm : X.mg "list" = none) (hg2 : Gl X "zip") (hm2 : X.mg "zip" = none) (ha : QA X [e,e2] ta) (hK : X.K = K:=by rfl) (hc : X.calm = true:=by rfl)
  (hs : starEach [.Call (.Name "zip" p2) [e,e2] [] pos2] X.env = [(false,eval (.Call (.Name "zip" p2) [e,e2] [] pos2) X.env)]:=by rfl) (hs2 : starEach [e,e2] X.env = [(false,eval e X.env),(false,eval e2 X.env)]:=by rfl) (hs3 : starEach [e2] X.env = [(false,eval e2 X.env)]:=by rfl) :
  QE X (.Call (.Name "list" p) [.Call (.Name "zip" p2) [e,e2] [] pos2] [] pos) (tListZp K ta):=by
 subst hK
 refine ⟨fun pins s σ H Q I h=>?_⟩
 refine Call_ (ld_blt I hg hm boot_list' (PyProof.Rows.callWith_type1 ?_ hs rfl))
 rw [hs]
 show wpAny _ _ (spliced ((false,eval (.Call (.Name "zip" p2) [e,e2] [] pos2) X.env) :: [])) _ _ s
 refine Calls.spliced_cons ?_
 refine Call_ (ld_blt I hg2 hm2 PyProof.Rows.boot_zip (PyProof.Rows.callWith_type1 (thn (ha.run pos2 pins s σ H _ I h) fun us s1 ⟨vs,H1,I1,r1,q1⟩=>?_) (by rw [hs2,hs3]) (by rw [hs3]; rfl)))
 obtain ⟨a,b,xs,ys,e1,hq,hq2,q⟩:=q1
 subst e1
 obtain ⟨u,v,rfl,ru,rv⟩:=r1.two
 cases ru
 cases rv
 obtain ⟨its,rv,pl,hz⟩:=I1.tuple hq
 obtain ⟨its2,rv2,pl2,hz2⟩:=I1.list hq2
 have lt1 : a < s1.heap.objs.size:=by obtain ⟨o,e,_⟩:=id pl; exact Heap.lt_size e
 have lt2 : b < s1.heap.objs.size:=by obtain ⟨o,e,_⟩:=pl2.isList; exact Heap.lt_size e
 refine call_zipTL (show s1.heap.IsTuple a its.toArray from pl) pl2.isList fun h' a1 a2 a3 a4 a5 a6 hk=>?_
 refine Calls.spliced_nil ?_
 have fr : ∀ k,FpOk X pins H1 (s1.heap.objs.size + k):=fun k=>I1.fpOk (Nat.le_add_right _ _) (I1.hok.fresh (Nat.le_add_right _ _))
 have fp : ∀ c ∈ [s1.heap.objs.size + 4,s1.heap.objs.size + 2,s1.heap.objs.size + 3,s1.heap.objs.size,s1.heap.objs.size + 1],FpOk X pins H1 c:=fun c hc=>by
  simp only [List.mem_cons,List.not_mem_nil,or_false] at hc
  rcases hc with rfl | rfl | rfl | rfl | rfl
  ·exact fr 4
  ·exact fr 2
  ·exact fr 3
  ·exact fr 0
  ·exact fr 1
 have C:=src_zip (X:=X) (pins:=pins) (σ:=σ) (H0:=H1) fp (zb_new lt1 lt2) hq hq2
 have I2 : Inv X pins σ H1 { s1 with heap:=h' }:=I1.kept (t':=s1.toks) hk
 refine call_list_src C (by omega) (I1.ok.hd hc) I2 ⟨.inl ⟨rfl,a1,_,_,a3⟩,⟨a2,_,a3⟩,a4,a5,fun c hc=>(fp c hc).1,rfl,fun j y hy=>by simp at hy,Same.refl _⟩ (fun S hge hS h2 k2=>?_) fun S H' zs hS hS' hl' hj=>?_
 ·have sm : Same H1 (upd H1 S (.lst [])):=Same.upd hS
  refine ⟨.inl ⟨rfl,k2 _ _ a1,_,_,k2 _ _ a3⟩,⟨k2 _ _ a2,_,k2 _ _ a3⟩,a4.at fun o e=>k2 _ _ e,a5.at fun o e=>k2 _ _ e,fun c hc=>?_,rfl,fun j y hy=>by simp at hy,sm⟩
  have hge : h'.objs.size ≤ S:=hge
  rw [upd_ne (show c ≠ S from fun z=>?_)]
  ·exact (fp c hc).1
  ·simp only [List.mem_cons,List.not_mem_nil,or_false] at hc
   rcases hc with rfl | rfl | rfl | rfl | rfl <;> exact absurd z (Nat.ne_of_lt (Nat.lt_of_lt_of_le (by omega) hge))
 ·obtain ⟨h,j⟩:=hj
  exact q S zs H' hS j.2.2.2.2.2.2.2 hl' j.2.2.2.2.2.2.1 hS'
theorem s_listzp {K : PySem.W.Frag} {ta : TA} {σ : St} {H : Hp} {Q : VK} (h : ta σ H fun vs H1=>∃ a b xs ys,vs = [.ref a,.ref b]∧SqT K H1 a xs∧SqL K H1 b ys ∧
 ∀ (S : Addr) (zs : List V) (H2 : Hp),H1 S = none→Same H1 H2→zs.length = min xs.length ys.length→ZPairs H2 xs ys zs→H2 S = some (.lst zs)→Q (.ref S) H2) : tListZp K ta σ H Q:=h
end
end L2
namespace L2
open PySem PySem.Spec PyProof.Rows
theorem all_eq_iff : ∀ (xs ys : List Int),((List.range (min xs.length ys.length)).all (fun j=>xs.getD j 0 == ys.getD j 0) && xs.length == ys.length) = decide (xs = ys):=by
 intro xs ys
 rw [Bool.eq_iff_iff,Bool.and_eq_true,List.all_eq_true,beq_iff_eq,decide_eq_true_iff]
 constructor
 ·rintro ⟨h1,h2⟩
  apply List.ext_getElem h2
  intro i g1 g2
  have:=h1 i (List.mem_range.mpr (by omega))
  rw [beq_iff_eq,List.getD_eq_getElem?_getD,List.getD_eq_getElem?_getD,List.getElem?_eq_getElem g1,List.getElem?_eq_getElem g2] at this
  exact this
 ·rintro rfl
  exact ⟨fun j _=>by simp,rfl⟩
section
variable {X : Cx}
end
end L2
namespace L2
open PySem PySem.Spec PyProof.Rows
section
variable {X : Cx}
end
section
variable {X : Cx}
end
end L2
namespace L2
open PySem PySem.Spec PyProof.Rows
section
variable {X : Cx} {pins : List (Addr × Obj)} {σ : St} {H : Hp} {s : Shared}
end
section
variable {P : Program} {w : World} {K : PySem.W.Frag} {mg : Str→Option Value} {base : Heap} {N : List Str} {qual : Str} {scope : Scope} {f : Addr} {cd : Value} {A : Around} {outer : List Env} {s0 : Shared} {H0 : Hp} {E : XK}
end
end L2
namespace L2
open PySem PySem.Spec PyProof.Rows
section
variable {P : Program} {w : World} {K : PySem.W.Frag} {mg : Str→Option Value} {base : Heap}
end
section
variable {X : Cx} {k : Nat} {x : Str} {ps : List Str} {sp : Sp} {p pos np cpos : Pos} {e : Expr} {es : List Expr} {t : TA} {E : XK}
end
end L2
namespace L2
open PySem PySem.Spec PyProof.Rows
section
variable {X : Cx} {pins : List (Addr × Obj)} {σ : St} {H : Hp} {s : Shared}
end
section
variable {X : Cx} {k : Nat} {x : Str} {ps : List Str} {sp : Sp} {p pos np cpos : Pos} {e : Expr} {es : List Expr} {t : TA}
end
end L2
namespace L2
open PySem PySem.Spec PyProof.Rows
section
variable {X : Cx} {pins : List (Addr × Obj)} {σ : St} {H : Hp} {s : Shared}
end
section
variable {X : Cx} {c n : Str} {np hpos pos : Pos} {body hbody : List Stmt} {b₀ : Stmt} {tb : TXS} {th : TS} {i : Nat} {C : Addr}
end
end L2
namespace L2
open PySem PySem.Spec PyProof.Rows
section
open PySem.W PySem.Builtin PySem.Builtin.ObjectAttr
variable {prog : Program} {w : World} {A : Around} {E : Value→Shared→Prop} {s : Shared} {K : Frag} {x C : Addr} {ox : Obj} {od : Option Obj} {name : Str} {R : Result→Shared→Prop}
end
end L2
namespace L2
open PySem PySem.Spec PyProof.Rows
section
variable {X : Cx} {pins : List (Addr × Obj)} {σ : St} {H : Hp} {s : Shared}
end
section
variable {X : Cx} {pins : List (Addr × Obj)} {σ : St} {H : Hp} {s : Shared} {a C : Addr} {f : Str} {A : Around} {E : Value→Shared→Prop}
open PySem.W PySem.Builtin PySem.Builtin.ObjectAttr
end
section
variable {X : Cx} {o e value : Expr} {f : Str} {pos pos' : Pos} {ta tv : TE}
end
section
open PySem.W
end
end L2
namespace L2
open PySem PySem.Spec PyProof.Rows
section
variable {prog : Program} {w : World} {A : Around} {E : Value→Shared→Prop} {h : Heap} {g : Array GenState} {d : Drawn} {t : Nat} {os : OsState}
variable {nm q : Str} {C N : Addr} {bs bm bmB : List Value} {hdct : Bool} {sn : List Str} {sub : List Value} {ab : Bool} {col : Option Bool} {dd : Option Addr} {k0 k1 k2 k3 k5 : Option Value} {B Bn newId nid initId inN : String} {bmN : List Value}
end
section
variable {X : Cx} {k : Nat} {x : Str} {sp : Sp} {ps : List Str} {C f : Addr} {fd : FuncData} {np cpos pos : Pos} {a : Expr} {t : TA} {E : XK}
end
end L2
namespace L2
open PySem PySem.Spec PyProof.Rows
end L2
namespace L2
open PySem PySem.Spec PyProof.Rows
section
variable {P : Program} {w : World} {K : PySem.W.Frag} {mg : Str→Option Value} {base : Heap}
end
section
variable {X : Cx} {k : Nat} {x : Str} {ps : List Str} {sp : Sp} {p pos : Pos} {e : Expr} {es : List Expr} {t : TA}
end
end L2
namespace L2
open PySem PySem.Spec PyProof.Rows
section
open PySem.W PySem.Builtin PySem.Builtin.ObjectAttr
variable {prog : Program} {w : World} {A : Around} {E : Value→Shared→Prop} {s : Shared} {K : Frag} {x D : Addr} {ox : Obj} {od : Option Obj}
end
section
variable {X : Cx} {pins : List (Addr × Obj)} {σ : St} {H : Hp} {s : Shared} {a C' : Addr} {od : Option Addr}
end
end L2
namespace L2
open PySem PySem.Spec PyProof.Rows
section
variable {X : Cx}
noncomputable def rEqI (K : PySem.W.Frag) : R2:=fun x y H Q=>∃ (a c : Addr) (xs ys : List Int),x = .ref a∧y = .ref c∧SqT K H a (xs.map V.int)∧SqT K H c (ys.map V.int)∧Q (.bl (decide (xs = ys))) H
theorem op_eqI (hu : X.A.units + 200 < cLine) : OpR X (compareOp .Eq) (rEqI X.K):=by
 intro pins s σ H x y v u Q I rx ry h
 obtain ⟨a,c,xs,ys,rfl,rfl,hx,hy,q⟩:=h
 cases rx
 cases ry
 obtain ⟨its,r1,p1,_⟩:=I.tuple hx
 obtain ⟨its2,r2,p2,_⟩:=I.tuple hy
 obtain ⟨us,e1,f1⟩:=vals_pairs r1
 obtain ⟨vs,e2,f2⟩:=vals_pairs r2
 have l1 : us.length = xs.length:=by rw [← f1,List.length_map]
 have l2 : vs.length = ys.length:=by rw [← f2,List.length_map]
 refine SeqAt.eq_tupleAt (e:=fun j=>xs.getD j 0 == ys.getD j 0) (show s.heap.IsTuple a its.toArray from p1) (show s.heap.IsTuple c its2.toArray from p2) (by omega) (fun j h1 h2=>?_) ?_
 ·subst e1 e2
  simp only [List.size_toArray,List.length_map] at h1 h2
  have g1 : xs.getD j 0 = us[j].1:=by rw [← f1,List.getD_eq_getElem?_getD,List.getElem?_map,List.getElem?_eq_getElem h1]; rfl
  have g2 : ys.getD j 0 = vs[j].1:=by rw [← f2,List.getD_eq_getElem?_getD,List.getElem?_map,List.getElem?_eq_getElem h2]; rfl
  rw [g1,g2]
  simp only [List.getElem_toArray,List.getElem_map]
  exact SeqAt.EqAt.int_int _ _ _ _
 ·have e : ((List.range (min its.toArray.size its2.toArray.size)).all (fun j=>xs.getD j 0 == ys.getD j 0) && its.toArray.size == its2.toArray.size) = decide (xs = ys):=by
   have z1 : its.toArray.size = xs.length:=by rw [List.size_toArray,e1,List.length_map,l1]
   have z2 : its2.toArray.size = ys.length:=by rw [List.size_toArray,e2,List.length_map,l2]
   rw [z1,z2,all_eq_iff]
  rw [e]
  exact ⟨.bl _,H,I,rfl,q⟩
noncomputable def rEqB (K : PySem.W.Frag) : R2:=fun x y H Q=>rEqA K x y H Q ∨ rEqI K x y H Q
theorem k_eqB (K : PySem.W.Frag) (hu : X.A.units + 200 < cLine) (hK : X.K = K:=by rfl) : OpR X (compareOp .Eq) (rEqB K):=by subst hK; exact (op_eqA hu).or (op_eqI hu)
theorem s_eqbI {K : PySem.W.Frag} {a c : Addr} {xs ys : List Int} {H : Hp} {Q : VK} (hx : SqT K H a (xs.map V.int)) (hy : SqT K H c (ys.map V.int)) (h : Q (.bl (decide (xs = ys))) H) : rEqB K (.ref a) (.ref c) H Q:=.inr ⟨a,c,xs,ys,rfl,rfl,hx,hy,h⟩
end
end L2
namespace L2
open PySem
inductive DOk : Dt→Prop where
 | flat (v : V) : DOk (.flat v)
 | tup {ds : List Dt} (l : ds.length ≤ 5000) (h : ∀ d ∈ ds,DOk d) : DOk (.tup ds)
 | lst {ds : List Dt} (l : ds.length ≤ 5000) (h : ∀ d ∈ ds,DOk d) : DOk (.lst ds)
noncomputable def SameA (A : Addr→Prop) (H H' : Hp) : Prop:=SameT H H'∧∀ b xs,¬ A b→H b = some (.lst xs)→H' b = some (.lst xs)
theorem Same.a {A : Addr→Prop} {H H' : Hp} (e : Same H H') : SameA A H H':=⟨e.t,fun b xs _ h=>e b _ h⟩
theorem SameA.set {A : Addr→Prop} {H : Hp} {S : Addr} {zs : List V} {o : HO} (h : H S = some (.lst zs)) (hA : A S) : SameA A H (upd H S o):=⟨SameT.set h,fun b xs n e=>by rw [upd_ne (fun z=>n (by rw [z]; exact hA))]; exact e⟩
theorem SameA.mono {A B : Addr→Prop} {H H' : Hp} (e : SameA A H H') (h : ∀ b,A b→B b) : SameA B H H':=⟨e.1,fun b xs n=>e.2 b xs fun a=>n (h b a)⟩
noncomputable def ThAt (K : PySem.W.Frag) (H : Hp) (v : V) (x : Str × V) : Prop:=flatV x.2 = true∧∃ a,v = .ref a∧SqT K H a [.str x.1,x.2]
theorem ThAt.same {K : PySem.W.Frag} {H H' : Hp} (e : SameT H H') (v : V) (x : Str × V) (h : ThAt K H v x) : ThAt K H' v x:=by
 obtain ⟨f,a,r,q⟩:=h
 exact ⟨f,a,r,e.tup q⟩
noncomputable def PrAt (K : PySem.W.Frag) (H : Hp) (v : V) (x : Str × Str × V) : Prop:=∃ (a : Addr) (u : V),v = .ref a∧SqT K H a [.str x.1,u]∧ThAt K H u x.2
theorem PrAt.same {K : PySem.W.Frag} {H H' : Hp} (e : SameT H H') (v : V) (x : Str × Str × V) (h : PrAt K H v x) : PrAt K H' v x:=by
 obtain ⟨a,u,r,q,t⟩:=h
 exact ⟨a,u,r,e.tup q,t.same e⟩
structure Rx where
 wd : Str
 pl : List Int
 ops : List (Str × V)
 ar : List (Str × Str × V)
noncomputable def RwAt (K : PySem.W.Frag) (A : Addr→Prop) (H : Hp) (v : V) (x : Rx) : Prop:=∃ (a p o e : Addr) (ov ev : List V),v = .ref a∧SqT K H a [.str x.wd,.ref p,.ref o,.ref e]∧SqT K H p (x.pl.map V.int)∧H o = some (.lst ov)∧Al (ThAt K H) ov x.ops∧H e = some (.lst ev)∧Al (PrAt K H) ev x.ar∧¬ A o∧¬ A e
theorem RwAt.same {K : PySem.W.Frag} {A : Addr→Prop} {H H' : Hp} (s : SameA A H H') (v : V) (x : Rx) (h : RwAt K A H v x) : RwAt K A H' v x:=by
 obtain ⟨a,p,o,e,ov,ev,h1,h2,h3,h4,h5,h6,h7,h8,h9⟩:=h
 exact ⟨a,p,o,e,ov,ev,h1,s.1.tup h2,s.1.tup h3,s.2 _ _ h8 h4,h5.mono (ThAt.same s.1),s.2 _ _ h9 h6,h7.mono (PrAt.same s.1),h8,h9⟩
theorem RwAt.mono {K : PySem.W.Frag} {A B : Addr→Prop} {H : Hp} (s : ∀ b,B b→H b ≠ none→A b) (v : V) (x : Rx) (h : RwAt K A H v x) : RwAt K B H v x:=by
 obtain ⟨a,p,o,e,ov,ev,h1,h2,h3,h4,h5,h6,h7,h8,h9⟩:=h
 exact ⟨a,p,o,e,ov,ev,h1,h2,h3,h4,h5,h6,h7,fun b=>h8 (s o b (by rw [h4]; simp)),fun b=>h9 (s e b (by rw [h6]; simp))⟩
noncomputable def thD (x : Str × V) : Dt:=.tup [.flat (.str x.1),.flat x.2]
noncomputable def prD (x : Str × Str × V) : Dt:=.tup [.flat (.str x.1),thD x.2]
noncomputable def rzD (x : Rx) : Dt:=.tup [.flat (.str x.wd),.tup (x.pl.map fun i=>.flat (.int i)),.lst (x.ops.map thD),.lst (x.ar.map prD)]
theorem ThAt.d {K : PySem.W.Frag} {H : Hp} {v : V} {x : Str × V} (h : ThAt K H v x) : IsD K H 1 v (thD x):=by
 obtain ⟨f,a,rfl,q⟩:=h
 refine .tup q rfl fun j v d h1 h2=>?_
 match j,h1,h2 with
 | 0,h1,h2=>cases h1; cases h2; exact .flat rfl
 | 1,h1,h2=>cases h1; cases h2; exact .flat f
theorem PrAt.d {K : PySem.W.Frag} {H : Hp} {v : V} {x : Str × Str × V} (h : PrAt K H v x) : IsD K H 2 v (prD x):=by
 obtain ⟨a,u,rfl,q,t⟩:=h
 refine .tup q rfl fun j v d h1 h2=>?_
 match j,h1,h2 with
 | 0,h1,h2=>cases h1; cases h2; exact .flat rfl
 | 1,h1,h2=>cases h1; cases h2; exact t.d
theorem Al.lstD {K : PySem.W.Frag} {H : Hp} {α : Type} {R : V→α→Prop} {g : α→Dt} {n : Nat} {a : Addr} {vs : List V} {xs : List α} (al : Al R vs xs) (e : SqL K H a vs) (h : ∀ v x,R v x→IsD K H n v (g x)) : IsD K H (n + 1) (.ref a) (.lst (xs.map g)):=by
 refine .lst e (by rw [List.length_map]; exact al.1) fun j v d h1 h2=>?_
 rw [List.getElem?_map] at h2
 obtain ⟨r,hr,rfl⟩:=Option.map_eq_some_iff.mp h2
 exact h v r (al.2 j v r h1 hr)
theorem intsT {K : PySem.W.Frag} {H : Hp} {n : Nat} {p : Addr} {pl : List Int} (q : SqT K H p (pl.map V.int)) : IsD K H (n + 1) (.ref p) (.tup (pl.map fun i=>.flat (.int i))):=by
 refine .tup q (by simp) fun j v d h1 h2=>?_
 rw [List.getElem?_map] at h1 h2
 obtain ⟨k,hk,rfl⟩:=Option.map_eq_some_iff.mp h1
 rw [hk] at h2
 cases h2
 exact .flat rfl
theorem RwAt.d {K : PySem.W.Frag} {A : Addr→Prop} {H : Hp} {v : V} {x : Rx} (h : RwAt K A H v x) : IsD K H 4 v (rzD x):=by
 obtain ⟨a,p,o,e,ov,ev,rfl,h2,h3,h4,h5,h6,h7,_,_⟩:=h
 refine .tup h2 rfl fun j v d f1 f2=>?_
 match j,f1,f2 with
 | 0,h1,h2=>cases h1; cases h2; exact .flat rfl
 | 1,h1,h2=>cases h1; cases h2; exact intsT h3
 | 2,h1,h2=>cases h1; cases h2; exact (h5.lstD (g:=thD) (SqL.of h4) fun _ _ t=>t.d).up (by omega)
 | 3,h1,h2=>cases h1; cases h2; exact h7.lstD (g:=prD) (SqL.of h6) fun _ _ t=>t.d
theorem thD_ok (x : Str × V) : DOk (thD x):=.tup (by show 2 ≤ 5000; omega) fun d h=>by
 simp only [List.mem_cons,List.not_mem_nil,or_false] at h
 rcases h with rfl | rfl
 ·exact .flat _
 ·exact .flat _
theorem prD_ok (x : Str × Str × V) : DOk (prD x):=.tup (by show 2 ≤ 5000; omega) fun d h=>by
 simp only [List.mem_cons,List.not_mem_nil,or_false] at h
 rcases h with rfl | rfl
 ·exact .flat _
 ·exact thD_ok _
theorem lstD_ok {α : Type} {g : α→Dt} {xs : List α} (l : xs.length ≤ 5000) (h : ∀ x ∈ xs,DOk (g x)) : DOk (.lst (xs.map g)):=.lst (by rw [List.length_map]; exact l) fun d hd=>by
 obtain ⟨x,hx,rfl⟩:=List.mem_map.mp hd
 exact h x hx
structure Rx.Ok (x : Rx) : Prop where
 pl : x.pl.length ≤ 5000
 ops : x.ops.length ≤ 5000
 ar : x.ar.length ≤ 5000
theorem rzD_ok {x : Rx} (h : x.Ok) : DOk (rzD x):=.tup (by show 4 ≤ 5000; omega) fun d hd=>by
 simp only [List.mem_cons,List.not_mem_nil,or_false] at hd
 rcases hd with rfl | rfl | rfl | rfl
 ·exact .flat _
 ·refine .tup (by rw [List.length_map]; exact h.pl) fun d hd=>?_
  obtain ⟨x,hx,rfl⟩:=List.mem_map.mp hd
  exact .flat _
 ·exact lstD_ok h.ops fun x _=>thD_ok x
 ·exact lstD_ok h.ar fun x _=>prD_ok x
section
variable {g : TG} {tt : TT} {te : TE} {σ0 : St} {H1 : Hp} {D : Addr} {Q : VK}
end
end L2
namespace L2
open PySem PySem.Spec PyProof.Rows
section
variable {X : Cx}
end
end L2
namespace L2
open PySem PySem.Spec PyProof.Rows
section
variable {prog : Program} {w : World} {A : Around} {E : Value→Shared→Prop} {s : Shared}
end
section
variable {X : Cx}
end
section
variable {g : TG} {tt : TT} {te : TE} {σ0 : St} {H1 : Hp} {D : Addr} {Q : VK}
end
end L2
namespace L2
open PySem PySem.Spec PyProof.Rows
theorem via {t : TS} {X : St→Hp→Prop} {rt : VK} {bk ct : St→Hp→Prop} {σ : St} {H : Hp} (R : Hp→Prop) (h2 : ∀ H',R H'→X σ H') (h1 : ∀ Y : St→Hp→Prop,(∀ H',R H'→Y σ H')→t ⟨Y,rt,bk,ct⟩ σ H) : t ⟨X,rt,bk,ct⟩ σ H:=h1 X h2
section
variable {X : Cx}
end
end L2
namespace L2
open PySem PySem.Spec PyProof.Rows
section
variable {X : Cx}
end
end L2
namespace L2
open PySem PySem.Spec PyProof.Rows
section
variable {X : Cx}
open PySem.Builtin PySem.Builtin.Str in
end
end L2
namespace L2
open PySem PySem.Spec PyProof.Rows
section
variable {prog : Program} {w : World} {A : Around} {E : Value→Shared→Prop} {s : Shared}
end
section
variable {X : Cx}
end
section
variable {X : Cx} {k : Nat} {x : Str} {ps : List Str} {sp : Sp} {p pos : Pos}
end
end L2
namespace L2
open PySem PySem.Spec PyProof.Rows
structure MethX (CX : CXT) (P : Program) (w : World) (K : PySem.W.Frag) (mg : Str→Option Value) (base : Heap) (k : Nat) (C : Addr) (m : Str) (ps : List Str) (sp : Sp) : Prop where
 ex : ∃ (g : Addr) (fd : FuncData),FnOk P w K mg base CX k g fd ps sp∧Cls K C∧Meth K C m g∧Binds K fd ps []
structure MakeX (CX : CXT) (P : Program) (w : World) (K : PySem.W.Frag) (mg : Str→Option Value) (base : Heap) (k : Nat) (x : Str) (C : Addr) (ps : List Str) (sp : Sp) : Prop where
 ex : ∃ (f : Addr) (fd : FuncData),FnOk P w K mg base CX k f fd ps sp∧Mk K C f∧mg x = some (.ref C)∧Binds K fd ps []
noncomputable def tMethD (CX : CXT) (P : Program) (w : World) (K : PySem.W.Frag) (mg : Str→Option Value) (base : Heap) (k : Nat) (m : Str) (ps : List Str) (E : XK) (ta : TE) (t : TA) : TE:=fun σ H Q=>ta σ H fun x H1=>∃ a C dx fs sp,x = .ref a∧H1 a = some (.ins C dx fs)∧fs.lookup m = none∧MethX CX P w K mg base k C m ps sp ∧
 t σ H1 fun vs H2=>sp (.ref a :: vs) H2 Q E
noncomputable def tNew (C : Addr) (sp : Sp) (E : XK) (t : TA) : TE:=fun σ H Q=>t σ H fun vs H1=>∀ x dx,H1 x = none→H1 dx = none→dx ≠ x→sp (.ref x :: vs) (upd (upd H1 dx (.own x)) x (.ins C dx [])) (fun v H2=>v = .non∧Q (.ref x) H2) E
section
variable {X : Cx} {k : Nat} {x m : Str} {ps : List Str} {sp : Sp} {E : XK} {C : Addr} {p pos apos : Pos} {e o : Expr} {es : List Expr} {ta : TE} {t : TA} {CX : CXT} {P : Program} {w : World} {mg : Str→Option Value} {base : Heap}
theorem qe_methD (K : PySem.W.Frag) (CX : CXT) (ps : List Str) {pl : Sem Bool} (he : QE X o ta) (hr : Room k X.A) (hx : Passes CX X E) (ha : QA X (e :: es) t) (hP : X.prog = P:=by rfl) (hw : X.w = w:=by rfl) (hK : X.K = K:=by rfl) (hmg : X.mg = mg:=by rfl) (hbs : X.base = base:=by rfl)
  (hst : starEach (e :: es) X.env = (false,eval e X.env) :: starEach es X.env:=by rfl) (hpl : (backTo pos (starEach es X.env)).any (·.1) = false:=by rfl)
  (ht : eval (.Call (.Attribute o m apos) (e :: es) [] pos) X.env = (do
   let ov ← eval o X.env
   standAt apos.atName
   let (f,first) ← holding [ov] (getMethod ov m pl)
   callWith pos f first (backTo pos (starEach (e :: es) X.env)) (backToKw pos (keywordEach [] X.env))):=by rfl) :
  QE X (.Call (.Attribute o m apos) (e :: es) [] pos) (tMethD CX P w K mg base k m ps E ta t):=by
 subst hP hw hK hmg hbs
 refine ⟨fun pins s σ H Q I h=>?_⟩
 refine PySem.W.methodCall_KW (pl:=pl) (thn (he.run pins s σ H _ I h) fun u s1 ⟨x,H1,I1,rx,a,C,dx,fs,sp,ex,ea,l,M,q⟩=>?_) ht
 obtain ⟨g,fd,F,c,hm,hb⟩:=M.ex
 subst ex
 obtain rfl : u = Value.ref a:=rx
 refine getmeth_ok I1 ea c hm l ?_
 refine PySem.W.callWith_K (first:=[.ref a]) (h₀:=X.base) I.ok.mod.kin hm.kp (thn (ha.run pos pins s1 σ H1 _ I1 q) fun us s2 ⟨vs,H2,I2,r,q2⟩=>⟨I2.kIn,?_⟩) hst hpl
 exact run_fn (us:=.ref a :: us) (vs:=.ref a :: vs) (dvs:=[]) F hr hb .nil hx I2 (.cons rfl r) (by rw [List.append_nil]; exact q2)
theorem qe_new (M : MakeX CX X.prog X.w X.K X.mg X.base k x C ps sp) (hr : Room (k + 1) X.A) (hx : Passes CX X E) (ha : QA X (e :: es) t) (hg : Gl X x:=by rfl) (hdb : (x == ("__debug__" : Str)) = false:=by decide)
  (he : starEach (e :: es) X.env = (false,eval e X.env) :: starEach es X.env:=by rfl) (hpl : (backTo pos (starEach es X.env)).any (·.1) = false:=by rfl) : QE X (.Call (.Name x p) (e :: es) [] pos) (tNew C sp E t):=by
 obtain ⟨f,fd,F,mk,hm,hb⟩:=M.ex
 refine ⟨fun pins s σ H Q I h=>?_⟩
 refine wpAny_Call_Name_kw (ld_glob I hg hm ?_ hdb)
 refine PySem.W.callWith_K (h₀:=X.base) I.ok.mod.kin mk.kp (thn (ha.run pos pins s σ H _ I h) fun us s1 ⟨vs,H1,I1,r,q⟩=>⟨I1.kIn,?_⟩) he hpl
 exact run_make (dvs:=[]) mk F hr hb .nil hx I1 r (fun x dx h1 h2 h3=>by rw [List.append_nil]; exact q x dx h1 h2 h3)
end
end L2
namespace L2
open PySem PySem.Spec PyProof.Rows
section
variable {X : Cx} {e o value : Expr} {f : Str} {pos pos' : Pos} {ta tv : TE} {pins : List (Addr × Obj)} {σ : St} {H : Hp} {s : Shared}
theorem qe_fldK (K : PySem.W.Frag) (he : QE X e ta) (hb : attributeBase e f X.env (eval e X.env) = eval e X.env:=by rfl) (hK : X.K = K:=by rfl) : QE X (.Attribute e f pos) (tFld K ta f):=by subst hK; exact qe_fld he hb
theorem qs_fldK (K : PySem.W.Frag) (ha : QE X o ta) (hv : QE X value tv) (hs : swapsWith value (some (.Attribute o f pos')) pos.line X.env = pure false:=by rfl) (hK : X.K = K:=by rfl) : QS X (.Assign [.Attribute o f pos'] value pos) (sFld K ta tv f):=by subst hK; exact qs_fld ha hv hs
end
end L2
namespace L2
open PySem PySem.Spec PyProof.Rows
section
variable {X : Cx} {pins : List (Addr × Obj)} {σ : St} {H : Hp} {s : Shared}
end
end L2
namespace L2
open PySem PySem.Spec PyProof.Rows
section
variable {P : Program} {w : World} {K : PySem.W.Frag} {mg : Str→Option Value} {base : Heap}
end
section
variable {X : Cx} {k : Nat} {x : Str} {ps ks : List Str} {gV : List V→List V→List V} {sp : Sp} {E : XK} {C : Addr} {p pos kpos : Pos} {e : Expr} {es : List Expr} {kws : List Keyword} {te : TE} {t tk : TA} {CX : CXT} {nm : Option Str} {f : Addr} {fd : FuncData} {g : List Value→List Value→List Value}
end
end L2
namespace L2
open PySem PySem.Spec PyProof.Rows
section
variable {X : Cx} {pins : List (Addr × Obj)} {σ : St} {H : Hp} {s : Shared}
end
end L2
namespace L2
open PySem PySem.Spec PyProof.Rows
section
variable {κ : Type} [DecidableEq κ]
noncomputable def valV (kvs : List (κ × V)) (k : κ) : Option V:=(kvs.find? fun kv=>decide (kv.1 = k)).map (·.2)
noncomputable def putK (kvs : List (κ × V)) (k : κ) (v : V) : List (κ × V) :=
 if (kvs.any fun kv=>decide (kv.1 = k)) = true then kvs.map (fun kv=>if kv.1 = k then (kv.1,v) else kv) else kvs ++ [(k,v)]
theorem valV_pos {p : κ × V} {r : List (κ × V)} {k : κ} (e : p.1 = k) : valV (p :: r) k = some p.2:=by simp [valV,List.find?_cons,e]
theorem valV_neg {p : κ × V} {r : List (κ × V)} {k : κ} (e : ¬ p.1 = k) : valV (p :: r) k = valV r k:=by simp [valV,List.find?_cons,e]
theorem valV_any (k : κ) : ∀ kvs : List (κ × V),(kvs.any fun kv=>decide (kv.1 = k)) = (valV kvs k).isSome
 | []=>rfl
 | p :: r=>by
  rw [List.any_cons]
  by_cases e : p.1 = k
  ·simp only [valV_pos e,decide_eq_true e,Bool.true_or,Option.isSome_some]
  ·rw [valV_neg e,decide_eq_false e,Bool.false_or]; exact valV_any k r
theorem valV_map (k j : κ) (y : V) : ∀ kvs : List (κ × V),valV (kvs.map fun kv=>if kv.1 = k then (kv.1,y) else kv) j = (valV kvs j).map fun x=>if j = k then y else x
 | []=>rfl
 | p :: r=>by
  have ih:=valV_map k j y r
  rw [List.map_cons]
  by_cases h : p.1 = k
  ·rw [if_pos h]
   by_cases e : p.1 = j
   ·rw [valV_pos (p:=(p.1,y)) e,valV_pos e,Option.map_some,if_pos (e.symm.trans h)]
   ·rw [valV_neg (p:=(p.1,y)) e,valV_neg e,ih]
  ·rw [if_neg h]
   by_cases e : p.1 = j
   ·rw [valV_pos (p:=p) e,valV_pos e,Option.map_some,if_neg (fun z=>h (e.trans z))]
   ·rw [valV_neg (p:=p) e,valV_neg e,ih]
theorem valV_snoc (k j : κ) (y : V) : ∀ kvs : List (κ × V),valV kvs k = none→valV (kvs ++ [(k,y)]) j = if j = k then some y else valV kvs j
 | [],_=>by
  by_cases e : k = j
  ·rw [if_pos e.symm]; exact valV_pos (p:=(k,y)) e
  ·rw [if_neg (fun z=>e z.symm)]; exact valV_neg (p:=(k,y)) e
 | p :: r,hn=>by
  rw [List.cons_append]
  have hk : ¬ p.1 = k:=fun z=>by rw [valV_pos z] at hn; cases hn
  rw [valV_neg hk] at hn
  have ih:=valV_snoc k j y r hn
  by_cases e : p.1 = j
  ·rw [valV_pos e,valV_pos e,if_neg (fun z=>hk (e.trans z))]
  ·rw [valV_neg e,valV_neg e,ih]
theorem valV_put (kvs : List (κ × V)) (k j : κ) (y : V) : valV (putK kvs k y) j = if j = k then some y else valV kvs j:=by
 unfold putK
 by_cases a : (kvs.any fun kv=>decide (kv.1 = k)) = true
 ·rw [if_pos a,valV_map]
  rw [valV_any] at a
  by_cases e : j = k
  ·obtain ⟨x,hx⟩:=Option.isSome_iff_exists.mp a
   rw [if_pos e,e,hx,Option.map_some,if_pos rfl]
  ·rw [if_neg e]
   cases valV kvs j with
   | none=>rfl
   | some x=>rw [Option.map_some,if_neg e]
 ·rw [if_neg a]
  refine valV_snoc k j y kvs ?_
  rw [valV_any] at a
  cases q : valV kvs k with
  | none=>rfl
  | some x=>rw [q] at a; exact (a rfl).elim
theorem length_putK (kvs : List (κ × V)) (k : κ) (v : V) : (putK kvs k v).length ≤ kvs.length + 1:=by
 unfold putK
 split
 ·rw [List.length_map]; omega
 ·rw [List.length_append,List.length_cons,List.length_nil]; omega
theorem RelO.isSome_eq {o : Option V} {u : Option Value} (r : RelO o u) : o.isSome = u.isSome:=by
 cases o with
 | none=>cases u with
  | none=>rfl
  | some _=>exact (show False from r).elim
 | some _=>cases u with
  | none=>exact (show False from r).elim
  | some _=>rfl
theorem KV.val {kvs : List (κ × V)} {vs : List (κ × Value)} (r : KV kvs vs) (k : κ) : RelO (valV kvs k) (valueAt vs k):=by
 unfold KV at r
 induction r with
 | nil=>exact True.intro
 | @cons p q ps qs h t ih =>
  obtain ⟨h1,h2⟩:=h
  by_cases e : p.1 = k
  ·have e' : q.1 = k:=h1.symm.trans e
   have b : valueAt (q :: qs) k = some q.2:=by simp [valueAt,List.find?_cons,e']
   rw [valV_pos e,b]; exact h2
  ·have e' : ¬ q.1 = k:=fun z=>e (h1.trans z)
   have b : valueAt (q :: qs) k = valueAt qs k:=by simp [valueAt,List.find?_cons,e']
   rw [valV_neg e,b]; exact ih
theorem KV.any {kvs : List (κ × V)} {vs : List (κ × Value)} (r : KV kvs vs) (k : κ) : (kvs.any fun kv=>decide (kv.1 = k)) = vs.any fun kv=>decide (kv.1 = k):=by
 unfold KV at r
 induction r with
 | nil=>rfl
 | cons h t ih=>rw [List.any_cons,List.any_cons,ih,h.1]
theorem KV.repl {kvs : List (κ × V)} {vs : List (κ × Value)} (r : KV kvs vs) (k : κ) {y : V} {u : Value} (ry : RelV y u) :
  KV (kvs.map fun kv=>if kv.1 = k then (kv.1,y) else kv) (vs.map fun kv=>if kv.1 = k then (kv.1,u) else kv):=by
 unfold KV at r ⊢
 induction r with
 | nil=>exact .nil
 | @cons p q ps qs h t ih =>
  rw [List.map_cons,List.map_cons]
  refine .cons ?_ ih
  obtain ⟨h1,h2⟩:=h
  by_cases e : p.1 = k
  ·rw [if_pos e,if_pos (h1.symm.trans e)]; exact ⟨h1,ry⟩
  ·rw [if_neg e,if_neg (fun z=>e (h1.trans z))]; exact ⟨h1,h2⟩
theorem KV.put {kvs : List (κ × V)} {vs : List (κ × Value)} (r : KV kvs vs) (k : κ) {y : V} {u : Value} (ry : RelV y u) : KV (putK kvs k y) (stored vs k u):=by
 unfold putK stored
 rw [r.any k]
 by_cases e : (vs.any fun kv=>decide (kv.1 = k)) = true
 ·rw [if_pos e,if_pos e]; exact r.repl k ry
 ·rw [if_neg e,if_neg e]; exact Paired.snoc r ⟨rfl,ry⟩
theorem KV.length {kvs : List (κ × V)} {vs : List (κ × Value)} (r : KV kvs vs) : kvs.length = vs.length:=Paired.length r
end
theorem kV_is {P : Program} {w : World} {k : Key} {u : Value} (r : RelV (kV k) u) : (mixKind P w).is k u = true:=by
 cases k with
 | inl i=>obtain ⟨t,e⟩:=(show ∃ t,u = Value.int i t from r); subst e; exact mixKind_int P w i t
 | inr x=>obtain ⟨t,e⟩:=(show ∃ t,u = Value.str x t from r); subst e; exact mixKind_str P w x t
theorem items_are {P : Program} {w : World} : ∀ {ks : List Key} {us : List Value},Vals (ks.map kV) us→ItemsAre (mixKind P w) ks us
 | [],_,r=>by rw [List.map_nil] at r; cases r; exact .nil
 | k :: ks,_,r=>by
  rw [List.map_cons] at r
  cases r with
  | cons h t=>exact .cons (kV_is h) (items_are t)
noncomputable abbrev KT (H : Hp) : List (List Key × V)→List (List Key × Addr × Value)→Prop:=Paired fun p q=>p.1 = q.1∧H q.2.1 = some (.tup (p.1.map kV))∧RelV p.2 q.2.2
theorem KT.val {H : Hp} {kvs : List (List Key × V)} {xs : List (List Key × Addr × Value)} (r : KT H kvs xs) (k : List Key) : RelO (valV kvs k) ((atKey xs k).map (·.2)):=by
 induction r with
 | nil=>exact True.intro
 | @cons p q ps qs h t ih =>
  obtain ⟨h1,_,h2⟩:=h
  by_cases e : p.1 = k
  ·have e' : q.1 = k:=h1.symm.trans e
   have b : atKey (q :: qs) k = some q.2:=by simp [atKey,List.find?_cons,e']
   rw [valV_pos e,b]; exact h2
  ·have e' : ¬ q.1 = k:=fun z=>e (h1.trans z)
   have b : atKey (q :: qs) k = atKey qs k:=by simp [atKey,List.find?_cons,e']
   rw [valV_neg e,b]; exact ih
theorem KT.repl {H : Hp} {kvs : List (List Key × V)} {xs : List (List Key × Addr × Value)} (r : KT H kvs xs) (k : List Key) {y : V} {u : Value} (ry : RelV y u) :
  KT H (kvs.map fun kv=>if kv.1 = k then (kv.1,y) else kv) (xs.map (putAt k u)):=by
 induction r with
 | nil=>exact .nil
 | @cons p q ps qs h t ih =>
  rw [List.map_cons,List.map_cons]
  refine .cons ?_ ih
  obtain ⟨h1,h2,h3⟩:=h
  unfold putAt
  by_cases e : p.1 = k
  ·rw [if_pos e,if_pos (h1.symm.trans e)]; exact ⟨h1,h2,ry⟩
  ·rw [if_neg e,if_neg (fun z=>e (h1.trans z))]; exact ⟨h1,h2,h3⟩
theorem KT.put {H : Hp} {kvs : List (List Key × V)} {xs : List (List Key × Addr × Value)} (r : KT H kvs xs) (k : List Key) {b : Addr} {y : V} {u : Value} (hb : H b = some (.tup (k.map kV))) (ry : RelV y u) :
  KT H (putK kvs k y) (storedH xs k b u):=by
 have e : (kvs.any fun kv=>decide (kv.1 = k)) = (atKey xs k).isSome:=by
  rw [valV_any,(r.val k).isSome_eq,Option.isSome_map]
 unfold putK storedH
 rw [e]
 by_cases q : (atKey xs k).isSome = true
 ·rw [if_pos q,if_pos q]; exact r.repl k ry
 ·rw [if_neg q,if_neg q]; exact Paired.snoc r ⟨rfl,hb,ry⟩
theorem KT.keeps {H H' : Hp} {kvs : List (List Key × V)} {xs : List (List Key × Addr × Value)} (r : KT H kvs xs) (ht : ∀ b ys,H b = some (.tup ys)→H' b = some (.tup ys)) : KT H' kvs xs :=
 Paired.mapP r fun _ _ z=>⟨z.1,ht _ _ z.2.1,z.2.2⟩
section
variable {P : Program} {w : World} {H : Hp} {h : Heap} {a : Addr}
theorem rd_of {u : HO} (ok : HOk P w H h) (e : Rd H a u) : ObjOk P w H h a u:=e.ok ok
theorem dk_rd {kvs : List (Key × V)} (ok : HOk P w H h) (e : Rd H a (.dK kvs)) : kvs.length ≤ sizeLine∧(a == sysModules) = false∧∃ vs,KV kvs vs∧h.DictOf (mixKind P w) a vs :=
 show ObjOk P w H h a (.dK kvs) from rd_of ok e
theorem dk_of {kvs : List (Key × V)} (ok : HOk P w H h) (e : H a = some (.dK kvs)) : kvs.length ≤ sizeLine∧(a == sysModules) = false∧∃ vs,KV kvs vs∧h.DictOf (mixKind P w) a vs:=dk_rd ok (.inl e)
theorem key_of {ks : List Key} (ok : HOk P w H h) (e : H a = some (.tup (ks.map kV))) : (tupleKind (mixKind P w)).is h ks a:=by
 obtain ⟨_,its,r,o,h1,h2,n,h3⟩:=(show ObjOk P w H h a (.tup (ks.map kV)) from ok a _ e)
 exact ⟨o,its.toArray,n,h1,h2,h3,by simpa using items_are r⟩
theorem dt_rd {kvs : List (List Key × V)} (ok : HOk P w H h) (e : Rd H a (.dT kvs)) : kvs.length ≤ sizeLine∧(a == sysModules) = false ∧
  ∃ xs,KT H kvs xs∧h.DictOfH (tupleKind (mixKind P w)) a xs:=by
 obtain ⟨z,y,xs,r,o,es,ep,h1,h2,h3,h4,h5⟩:=(show ObjOk P w H h a (.dT kvs) from rd_of ok e)
 refine ⟨z,y,xs,r,o,es,ep,h1,h2,h3,h4,fun x hx=>?_,h5⟩
 have all : ∀ {l : List (List Key × V)} {m : List (List Key × Addr × Value)},KT H l m→∀ x ∈ m,(tupleKind (mixKind P w)).is h x.1 x.2.1:=by
  intro l m q
  induction q with
  | nil=>intro x hx; exact nomatch hx
  | @cons p q ps qs hq t ih =>
   intro x hx
   rcases List.mem_cons.mp hx with e | hx
   ·subst e
    exact key_of ok (by rw [← hq.1]; exact hq.2.1)
   ·exact ih x hx
 exact all r x hx
theorem dt_of {kvs : List (List Key × V)} (ok : HOk P w H h) (e : H a = some (.dT kvs)) : kvs.length ≤ sizeLine∧(a == sysModules) = false ∧
  ∃ xs,KT H kvs xs∧h.DictOfH (tupleKind (mixKind P w)) a xs:=dt_rd ok (.inl e)
end
noncomputable def DGet (H : Hp) (a : Addr) (y : V) (r : Option V) : Prop :=
 (∃ kvs k,Rd H a (.dK kvs)∧y = kV k∧r = valV kvs k) ∨ ∃ kvs k b,Rd H a (.dT kvs)∧y = .ref b∧H b = some (.tup (k.map kV))∧r = valV kvs k
noncomputable def DPut (H : Hp) (a : Addr) (y v : V) (H' : Hp) : Prop :=
 (∃ kvs k,H a = some (.dK kvs)∧y = kV k∧kvs.length < sizeLine∧H' = upd H a (.dK (putK kvs k v))) ∨
 ∃ kvs k b,H a = some (.dT kvs)∧y = .ref b∧H b = some (.tup (k.map kV))∧kvs.length < sizeLine∧H' = upd H a (.dT (putK kvs k v))
theorem DGet.k {H : Hp} {a : Addr} {kvs : List (Key × V)} {k : Key} (e : H a = some (.dK kvs)) : DGet H a (kV k) (valV kvs k):=.inl ⟨kvs,k,.inl e,rfl,rfl⟩
theorem DGet.t {H : Hp} {a b : Addr} {kvs : List (List Key × V)} {k : List Key} (e : H a = some (.dT kvs)) (eb : H b = some (.tup (k.map kV))) : DGet H a (.ref b) (valV kvs k):=.inr ⟨kvs,k,b,.inl e,rfl,eb,rfl⟩
theorem DPut.k {H : Hp} {a : Addr} {kvs : List (Key × V)} {k : Key} {v : V} (e : H a = some (.dK kvs)) (hl : kvs.length < sizeLine) : DPut H a (kV k) v (upd H a (.dK (putK kvs k v))):=.inl ⟨kvs,k,e,rfl,hl,rfl⟩
theorem DPut.t {H : Hp} {a b : Addr} {kvs : List (List Key × V)} {k : List Key} {v : V} (e : H a = some (.dT kvs)) (eb : H b = some (.tup (k.map kV))) (hl : kvs.length < sizeLine) :
  DPut H a (.ref b) v (upd H a (.dT (putK kvs k v))):=.inr ⟨kvs,k,b,e,rfl,eb,hl,rfl⟩
section
variable {X : Cx} {pins : List (Addr × Obj)} {σ : St} {H : Hp} {s : Shared} {a : Addr} {y v : V} {u r : Value} {o : Option V} {A : Around} {E : Value→Shared→Prop}
theorem Inv.big (I : Inv X pins σ H s) : sysModules < s.heap.objs.size:=by
 have h : mainGlobals < s.heap.objs.size:=(I.mod.glob.keeps I.bk).lt
 exact Nat.lt_trans (by decide) h
theorem d_getItem {Q : Value→Shared→Prop} (hu : A.units + 1 < cLine) (I : Inv X pins σ H s) (g : DGet H a y (some v)) (ry : RelV y u) (h : ∀ w' s',Inv X pins σ H s'→RelV v w'→Q w' s') :
  wpAny (model X.prog X.w) A (getItem (.ref a) u) Q E s:=by
 rcases g with ⟨kvs,k,e,ey,l⟩ | ⟨kvs,k,b,e,ey,eb,l⟩
 ·subst ey
  obtain ⟨z,hd,vs,rel,dd⟩:=dk_rd I.hok e
  obtain ⟨w',hw,rw'⟩:=RelO.some_of (v:=v) (o:=valueAt vs k) (by rw [l]; exact rel.val k)
  exact wpAny_getItem_of (kV_is ry) dd.mapOf hw (h w' _ (I.tok _) rw')
 ·subst ey
  cases (show u = Value.ref b from ry)
  obtain ⟨z,hd,xs,rel,dd⟩:=dt_rd I.hok e
  obtain ⟨w',hw,rw'⟩:=RelO.some_of (v:=v) (o:=(atKey xs k).map (·.2)) (by rw [l]; exact rel.val k)
  obtain ⟨p,hp,hp2⟩:=Option.map_eq_some_iff.mp hw
  refine wpAny_getItem_heap (tupleKind_room_in1 hu) (key_of I.hok eb) dd hp ?_
  rw [hp2]
  exact h w' _ (I.tok _) rw'
theorem d_in {Q : Value→Shared→Prop} (hu : A.units + 1 < cLine) (I : Inv X pins σ H s) (g : DGet H a y o) (ry : RelV y u) (h : ∀ s',Inv X pins σ H s'→Q (.bool o.isSome) s') :
  wpAny (model X.prog X.w) A (compareOp .In u (.ref a)) Q E s:=by
 rcases g with ⟨kvs,k,e,ey,l⟩ | ⟨kvs,k,b,e,ey,eb,l⟩
 ·subst ey
  obtain ⟨z,hd,vs,rel,dd⟩:=dk_rd I.hok e
  refine wpAny_in_of (kV_is ry) hd dd.mapOf ?_
  rw [← (rel.val k).isSome_eq,← l]
  exact h _ (I.tok _)
 ·subst ey
  cases (show u = Value.ref b from ry)
  obtain ⟨z,hd,xs,rel,dd⟩:=dt_rd I.hok e
  refine wpAny_in_heap (tupleKind_room_in1 hu) (key_of I.hok eb) hd dd ?_
  have q:=(rel.val k).isSome_eq
  rw [Option.isSome_map] at q
  rw [← q,← l]
  exact h _ (I.tok _)
theorem d_write {h' : Heap} {t' : Nat} {ob : HO} (I : Inv X pins σ H s) (mu : Mut (H a)) (hs : Heap.SameBut a s.heap h') (he : ∃ q,h'.get? a = some q) (new : ObjOk X.prog X.w (upd H a ob) h' a ob) :
  Inv X pins σ (upd H a ob) { s with heap:=h',toks:=t' } :=
 I.write (x:=a) (e:=a) mu (.inl rfl) (fun b q hb z=>(hs.2 b hb).trans z) he new
theorem dk_new {P : Program} {w : World} {H' : Hp} {h' : Heap} {kvs : List (Key × V)} {vs : List (Key × Value)} (z : kvs.length ≤ sizeLine) (hd : (a == sysModules) = false) (rel : KV kvs vs) (dd : h'.DictOf (mixKind P w) a vs) :
  ObjOk P w H' h' a (.dK kvs):=⟨z,hd,vs,rel,dd⟩
end
section
variable {X : Cx} {pins : List (Addr × Obj)} {σ : St} {H : Hp} {s : Shared} {a : Addr} {kvs : List (Key × V)} {k : Key} {u : Value} {A : Around} {E : Value→Shared→Prop}
end
noncomputable def NoSl (i : Expr) : Prop:=∀ ov iv,subscripted i false ov iv = operate [ov,iv] (getItem ov iv)
theorem subD_of {prog : Program} {w : World} {A : Around} {E : Value→Shared→Prop} {s : Shared} {env : Env} {value slice : Expr} {pos : Pos} {T id : String} {Q : Value→Shared→Prop}
  (hl : typeLookup (.type T) "__getitem__" = pure (some (.builtin id))) (hs : NoSl slice)
  (h : wpAny (model prog w) A (eval value env) (fun o s₁=>wpAny (model prog w) A (eval slice env) (fun i s₂=>s₂.TypeIs o T∧wpAny (model prog w) A (getItem o i) Q E s₂) E s₁) E s) :
  wpAny (model prog w) A (eval (.Subscript value slice pos) env) Q E s:=by
 refine Subscript_ (wpAny_mono h (fun o s₁ h₁=>wpAny_mono h₁ (fun i s₂ h₂=>?_) fun _ _ x=>x) fun _ _ x=>x)
 obtain ⟨hT,h₂⟩:=h₂
 unfold subscriptTail
 refine wpAny_bind ?_
 rw [getitemInPython_of_ne hT.not_modules]
 refine wpAny_bind (wpAny_specialOf hT hl ?_)
 have fin : wpAny (model prog w) A (subscripted slice false o i) (fun r s₃=>wpAny (model prog w) A (letTemporaryGo value o r >>= fun _=>pure r) Q E s₃) E s₂:=by
  rw [hs o i]
  exact wpAny_operating (wpAny_mono h₂ (fun r s₃ h₃=>wpAny_bind (wpAny_letTemporaryGo (wpAny_pure h₃))) fun _ _ x=>x)
 first
  | exact wpAny_pure (wpAny_bind fin)
  | exact wpAny_bind (wpAny_pure (wpAny_bind fin))
  | exact wpAny_bind fin
theorem dict_typeIs {X : Cx} {pins : List (Addr × Obj)} {σ : St} {H : Hp} {s : Shared} {a : Addr} {y : V} {o : Option V} (I : Inv X pins σ H s) (g : DGet H a y o) : s.TypeIs (.ref a) "dict":=by
 rcases g with ⟨kvs,k,e,_,_⟩ | ⟨kvs,k,b,e,_,_,_⟩
 ·obtain ⟨_,_,vs,_,dd⟩:=dk_rd I.hok e
  exact dd.typeIs
 ·obtain ⟨_,_,xs,_,dd⟩:=dt_rd I.hok e
  exact dd.typeIs
noncomputable def tDGet (td ty : TE) : TE:=fun σ H Q=>td σ H fun x H1=>ty σ H1 fun y H2=>∃ a v,x = .ref a∧DGet H2 a y (some v)∧Q v H2
noncomputable def tDIn (ty td : TE) : TE:=fun σ H Q=>ty σ H fun y H1=>td σ H1 fun x H2=>∃ a o,x = .ref a∧DGet H2 a y o∧Q (.bl o.isSome) H2
section
variable {X : Cx} {o i e value : Expr} {pos pos' tpos : Pos} {td ty tv : TE}
theorem pe_dget (hu : X.A.units + 1 < cLine) (ho : PE X o td) (hi : PE X i ty) (hs : NoSl i) : PE X (.Subscript o i pos) (tDGet td ty):=by
 intro pins s σ H Q I h
 refine subD_of PySem.F.slot_dict_getitem.lookup hs (thn (ho pins s σ H _ I h) fun u s1 ⟨x,H1,I1,rx,q1⟩=>thn (hi pins s1 σ H1 _ I1 q1) fun iv s2 ⟨y,H2,I2,ry,a,v,ex,g,q2⟩=>?_)
 subst ex
 obtain rfl : u = Value.ref a:=rx
 exact ⟨dict_typeIs I2 g,d_getItem hu I2 g ry fun w' s3 I3 rw'=>⟨v,H2,I3,rw',q2⟩⟩
theorem pc_din (hu : X.A.units + 1 < cLine) (hi : PE X i ty) (ho : PE X o td) : PC X .In i o (tDIn ty td):=by
 intro pins s σ H Q I h
 refine thn (hi pins s σ H _ I h) fun iv s1 ⟨y,H1,I1,ry,q1⟩=>thn (ho pins s1 σ H1 _ I1 q1) fun u s2 ⟨x,H2,I2,rx,a,ov,ex,g,q2⟩=>?_
 subst ex
 obtain rfl : u = Value.ref a:=rx
 exact d_in hu I2 g ry fun s3 I3=>⟨.bl ov.isSome,H2,I3,rfl,q2⟩
end
theorem dk_empty {P : Program} {w : World} {H : Hp} (h : Heap) (hb : sysModules < h.objs.size) : ObjOk P w H (h.push { cls:=.type "dict",data:=.dict #[] }) h.objs.size (.dK []) :=
 ⟨Nat.zero_le _,beq_eq_false_iff_ne.mpr (Ne.symm (Nat.ne_of_lt hb)),[],.nil,Heap.DictOf.new h⟩
theorem dt_empty {P : Program} {w : World} {H : Hp} (h : Heap) (hb : sysModules < h.objs.size) : ObjOk P w H (h.push { cls:=.type "dict",data:=.dict #[] }) h.objs.size (.dT []) :=
 ⟨Nat.zero_le _,beq_eq_false_iff_ne.mpr (Ne.symm (Nat.ne_of_lt hb)),[],.nil,_,#[],0,Heap.get?_push_size _ rfl,⟨rfl,rfl,rfl⟩,rfl,rfl,List.nodup_nil⟩
section
variable {X : Cx} {pos : Pos}
end
section
variable {X : Cx} {pins : List (Addr × Obj)} {σ : St} {H : Hp} {s : Shared} {a : Addr} {y d : V} {u r : Value} {o : Option V} {A : Around} {E : Value→Shared→Prop}
end
section
variable {X : Cx} {o e f : Expr} {apos cpos : Pos} {td ty tx : TE}
end
section
variable {X : Cx} {pins : List (Addr × Obj)} {σ : St} {H : Hp} {s : Shared} {a : Addr} {kvs : List (Key × V)} {A : Around} {E : Value→Shared→Prop}
end
section
variable {X : Cx} {pins : List (Addr × Obj)} {σ : St} {H : Hp} {s : Shared} {a : Addr} {y : V} {u : Value} {A : Around} {E : Value→Shared→Prop}
end
end L2
namespace PySem
theorem lk_list_keys : typeLookup (.type "list") "keys" = pure none:=by rw [typeLookup_type,builtinLookup_eq_fast]; kernel_rfl
theorem getAttrQ_miss_list {prog : Program} {w : World} {A : Around} {E : Value→Shared→Prop} {s : Shared} {a : Addr} {o : Obj} {xs : Array Value} {k : Nat} {name : Str} {Q : Option Value→Shared→Prop}
  (hx : s.heap.get? a = some o) (hc : o.cls = .type "list") (hdat : o.data = .seq xs k) (hd : o.dict = none) (hmiss : typeLookup (.type "list") name = pure none) (hname : (["__module__", "__name__", "__qualname__", "__doc__", "__annotations__"] : List Str).contains name = false) (hA : A.handled = none)
  (h : ∀ h' tk,(∀ b ob,s.heap.get? b = some ob→h'.get? b = some ob)→Q none { s with heap:=h',toks:=tk }) (hsz : name.length + 100 ≤ sizeLine:=by size_fits) :
  wpAny (model prog w) A (getAttr? (.ref a) name) Q E s:=by
 obtain ⟨c,dct,dat,sl⟩:=o
 simp only at hc hdat hd
 subst hc hdat hd
 obtain ⟨hp,g,d,tk,os⟩:=s
 have hT : ∀ tk',(⟨hp,g,d,tk',os⟩ : Shared).TypeIs (.ref a) "list":=fun _=>⟨_,hx,rfl⟩
 have f1:=sub_AttributeError
 have f3:=F.slot_list_getattribute.lookup
 have f4:=F.slot_list_getattribute.bind (.ref a)
 have f5:=am_list_getattr_none
 unfold getAttr? getAttrBy? getAttrBy
 repeat (any_goals (first | assumption | exact hT _ | ((with_reducible show wpAny _ _ (call (Value.builtin "list.__getattribute__") _ _) _ _ _); refine call_meets F.slot_list_getattribute (hT _) am_entry_list_getattribute (F.args_list_getattribute_2 _ _) (meets_getattribute_miss_list a xs k sl name _ hmiss hname hsz) ⟨hx,hA,fun h' tk' e hx'=>?_⟩) | wp_step))
 obtain ⟨t',u',he⟩:=hx'.there
 unfold getattributeRaised
 repeat (any_goals (first | assumption | wp_step))
 exact h _ _ hx'.keeps
namespace F
theorem entry_dict_update_loop : entryFor table "dict.update.loop" = some Builtin.«dict.update.loop»:=entryFor_of_tree (by kernel_rfl)
theorem plain_dict_update_loop : plainId "dict.update.loop" = true:=by decide +kernel
end F
end PySem
namespace L2
open PySem PySem.Spec PyProof.Rows
section
variable {X : Cx} {pins : List (Addr × Obj)} {σ : St} {H : Hp} {s : Shared} {a : Addr} {y v : V} {u r : Value} {A : Around} {E : Value→Shared→Prop}
theorem d_dictSet {H' : Hp} {Q : Unit→Shared→Prop} (hu : A.units < cLine) (I : Inv X pins σ H s) (g : DPut H a y v H') (ry : RelV y u) (rv : RelV v r) (h : ∀ s',Inv X pins σ H' s'→Heap.SameBut a s.heap s'.heap→Q () s') :
  wpAny (model X.prog X.w) A (dictSet a u r) Q E s:=by
 rcases g with ⟨kvs,k,e,ey,l,eH⟩ | ⟨kvs,k,b,e,ey,eb,l,eH⟩
 ·subst ey eH
  obtain ⟨z,hd,vs,rel,dd⟩:=dk_of I.hok e
  have hz : vs.length ≤ sizeLine:=by rw [← rel.length]; exact z
  have hl : (putK kvs k v).length ≤ sizeLine:=by have:=length_putK kvs k v; omega
  refine wpAny_dictSet_pairs (hsz:=hz) (kV_is ry) dd fun h' dd' hs=>h _ ?_ hs
  have he : ∃ q,h'.get? a = some q:=let ⟨q,_,_,hq,_⟩:=dd'; ⟨q,hq⟩
  exact d_write I (by rw [e]; exact True.intro) hs he (dk_new hl hd (rel.put k rv) dd')
 ·subst ey eH
  cases (show u = Value.ref b from ry)
  obtain ⟨z,hd,xs,rel,dd⟩:=dt_of I.hok e
  have hz : xs.length ≤ sizeLine:=by rw [← Paired.length rel]; exact z
  have hl : (putK kvs k v).length ≤ sizeLine:=by have:=length_putK kvs k v; omega
  refine wpAny_dictSet_heap (hsz:=hz) hu (key_of I.hok eb) dd fun h' dd' hs=>h _ ?_ hs
  obtain ⟨q,es,ep,hq,h2,h3,h4,_,h5⟩:=dd'
  refine d_write I (by rw [e]; exact True.intro) hs ⟨q,hq⟩ ⟨hl,hd,_,(rel.put k eb rv).keeps fun c ys ec=>?_,q,es,ep,hq,h2,h3,h4,h5⟩
  rw [upd_ne (ne_of ec e (fun z=>nomatch z))]
  exact ec
theorem dict_loop {R : Result→Shared→Prop} {p it d : Addr} {xs : List V} {Hs : Nat→Hp} {res : Value} (hh : A.handled = none) (hu : A.units + 1 < cLine) (hdi : d ≠ it) (hd : ∀ i,i ≤ xs.length→SqL X.K (Hs i) p xs) (hf : ∀ i,FpOk X pins (Hs i) it)
  (hs : ∀ i x,xs[i]? = some x→∃ (c : Addr) (y v : V),x = .ref c∧SqT X.K (Hs i) c [y,v]∧DPut (Hs i) d y v (Hs (i + 1)))
  (fin : ∀ s',Inv X pins σ (Hs xs.length) s'→R (.ok (.ret res)) s') :
  ∀ (k i : Nat) (s : Shared),xs.length - i = k→i ≤ xs.length→Inv X pins σ (Hs i) s→s.heap.IsListIter it p i →
  codeAny (model X.prog X.w) A (.builtin "dict.update.loop" ⟨[.ref d,.ref it,rawInt i,res],[]⟩) R s:=by
 intro k
 induction k with
 | zero =>
  intro i s hk hi I st
  have hin : i = xs.length:=by omega
  subst hin
  obtain ⟨its,rv,pl,hz⟩:=I.list (hd _ hi)
  obtain ⟨f0,f1,f2,f3,f4,f5⟩:=hf xs.length
  have hl:=rv.length
  refine codeAny_builtin PySem.F.entry_dict_update_loop ?_
  rw [Around.under_plainId PySem.F.plain_dict_update_loop _]
  show wpAny _ A.in1 (pyNext (.ref it) >>= _) _ _ s
  refine wpAny_bind (wpAny_pyNext_list_end hh st pl.isList (by simp; omega) fun h' eb=>?_)
  have I':=I.turned (t':=s.toks) (fun b o hb e=>eb b o hb e) f0 f1 f3 f4 f5
  exact wpAny_bind (wpAny_pure (wpAny_pure (fin _ I')))
 | succ k ih =>
  intro i s hk hi I st
  have hlt : i < xs.length:=by omega
  obtain ⟨its,rv,pl,hz⟩:=I.list (hd _ hi)
  obtain ⟨c,y,v,ex,hc,hput⟩:=hs i _ (List.getElem?_eq_getElem hlt)
  obtain ⟨u,hu',ru⟩:=rv.get (List.getElem?_eq_getElem hlt)
  rw [ex] at ru
  cases ru
  obtain ⟨f0,f1,f2,f3,f4,f5⟩:=hf i
  refine codeAny_builtin PySem.F.entry_dict_update_loop ?_
  rw [Around.under_plainId PySem.F.plain_dict_update_loop _]
  show wpAny _ A.in1 (pyNext (.ref it) >>= _) _ _ s
  refine wpAny_bind (wpAny_pyNext_list_item st pl.isList (x:=.ref c) (by simpa using hu') fun h' st' sb=>?_)
  have I1 : Inv X pins σ (Hs i) { s with heap:=h' }:=I.turned (t':=s.toks) (fun b o hb e=>(sb.2 b hb).trans e) f0 f1 f3 f4 f5
  obtain ⟨its2,rv2,pt,hz2⟩:=I1.tuple hc
  obtain ⟨u1,u2,rfl,r1,r2⟩ : ∃ u1 u2,its2 = [u1,u2]∧RelV y u1∧RelV v u2:=by
   cases rv2 with
   | cons r1 t=>cases t with
    | cons r2 t=>cases t; exact ⟨_,_,rfl,r1,r2⟩
  obtain ⟨ot,et,ct,nt,dt⟩:=pt
  obtain ⟨oc,od,oda,osl⟩:=ot
  cases ct
  cases dt
  refine wpAny_bind (wpAny_holding ?_)
  refine wpAny_bind (wpAny_tryCatch ?_)
  have hT : (⟨h',s.gens,s.drawn,s.toks,s.os⟩ : Shared).TypeIs (.ref c) "tuple":=⟨_,et,rfl⟩
  unfold Builtin.Dict.pairItems
  refine wpAny_bind (wpAny_typeOf hT ?_)
  rw [if_pos (by decide)]
  refine wpAny_bind ?_
  unfold seqItems?
  refine wpAny_bind (wpAny_load et (wpAny_pure (wpAny_pure ?_)))
  show wpAny _ A.in1 (holding [u1,u2] (dictSet d u1 u2)) _ _ _
  refine wpAny_holding (d_dictSet (by exact hu) I1 hput r1 r2 fun s2 I2 sb2=>?_)
  refine wpAny_pure ⟨plainId_quiet PySem.F.plain_dict_update_loop _,?_⟩
  have e1 : rawInt ((i : Int) + 1) = rawInt (((i + 1 : Nat)) : Int):=rfl
  rw [e1]
  exact ih (i + 1) s2 (by omega) hlt I2 (st'.at fun o e=>(sb2.2 it (Ne.symm hdi)).trans e)
noncomputable def putAll {κ : Type} [DecidableEq κ] (kvs : List (κ × V)) (l : List (κ × V)) : List (κ × V):=l.foldl (fun a kv=>putK a kv.1 kv.2) kvs
theorem putAll_len {κ : Type} [DecidableEq κ] (l : List (κ × V)) : ∀ kvs : List (κ × V),(putAll kvs l).length ≤ kvs.length + l.length:=by
 induction l with
 | nil=>intro kvs; exact Nat.le_refl _
 | cons kv r ih =>
  intro kvs
  have h1:=ih (putK kvs kv.1 kv.2)
  have h2:=length_putK kvs kv.1 kv.2
  rw [List.length_cons]
  show (putAll (putK kvs kv.1 kv.2) r).length ≤ _
  omega
theorem putAll_take {κ : Type} [DecidableEq κ] {l : List (κ × V)} {i : Nat} {kv : κ × V} (h : l[i]? = some kv) (kvs : List (κ × V)) : putAll kvs (l.take (i + 1)) = putK (putAll kvs (l.take i)) kv.1 kv.2:=by
 unfold putAll
 rw [List.take_add_one,h,List.foldl_append]
 rfl
noncomputable def rDictL (K : PySem.W.Frag) : List V→Hp→VK→Prop:=fun xs H Q=>∃ (p : Addr) (vs : List V),xs = [.ref p]∧SqL K H p vs ∧
 ((∃ kvs : List (Key × V),Al (fun x (kv : Key × V)=>∃ a,x = .ref a∧SqT K H a [kV kv.1,kv.2]) vs kvs∧∀ d,H d = none→Q (.ref d) (upd H d (.dK (putAll [] kvs)))) ∨
   (∃ kvs : List (List Key × V),Al (fun x (kv : List Key × V)=>∃ a b,x = .ref a∧SqT K H a [.ref b,kv.2]∧H b = some (.tup (kv.1.map kV))) vs kvs∧∀ d,H d = none→Q (.ref d) (upd H d (.dT (putAll [] kvs)))))
theorem run_dictL {p : Addr} {vs : List V} {Q : VK} {Hs : Nat→Hp} (hu : A.units + 3 < cLine) (hh : A.handled = none) (I : Inv X pins σ H s) (hq : SqL X.K H p vs) (d : Addr) (hdd : d = s.heap.objs.size)
  (h0 : Inv X pins σ (Hs 0) { s with heap:=s.heap.push { cls:=.type "dict",data:=.dict #[] } }) (hs0 : ∀ i b,H b = none→b ≠ d→Hs i b = none) (hsd : ∀ i,i ≤ vs.length→SqL X.K (Hs i) p vs)
  (hs : ∀ i x,vs[i]? = some x→∃ (c : Addr) (y v : V),x = .ref c∧SqT X.K (Hs i) c [y,v]∧DPut (Hs i) d y v (Hs (i + 1))) (q : Q (.ref d) (Hs vs.length)) :
  wpAny (model X.prog X.w) A (call (.type "dict") [.ref p]) (EP X pins σ Q) E s:=by
 refine callType_codes (Q₁:=fun obj s₁=>obj = .ref s.heap.objs.size∧s₁ = { s with heap:=s.heap.push { cls:=.type "dict",data:=.dict #[] } }) F.kt_called_dict (F.kt_typeCall_dict_1 _) F.entry_dict_init (kt_code_dict_new _ ⟨rfl,rfl⟩) ?_
 rintro obj s₁ ⟨rfl,rfl⟩
 have hnT : ({ s with heap:=s.heap.push { cls:=.type "dict",data:=.dict #[] } } : Shared).TypeIs (.ref s.heap.objs.size) "dict":=⟨_,Heap.get?_push_size _ rfl,rfl⟩
 refine ⟨hnT,F.args_dict_init_2 _ _,?_⟩
 unfold Builtin.«dict.__init__»
 refine wpAny_bind ?_
 unfold Builtin.Dict.selfAndRest
 refine wpAny_bind (wpAny_notOrdered_dict hnT ?_)
 show wpAny _ _ (pure (s.heap.objs.size,[Value.ref p])) _ _ _
 refine wpAny_pure ?_
 show wpAny _ _ (Builtin.Dict.updateFrom "dict.__init__" s.heap.objs.size (.ref p) [] .none) _ _ _
 subst hdd
 obtain ⟨its,rv,pl,hz⟩:=h0.list (hsd 0 (Nat.zero_le _))
 have hsz : s.heap.objs.size < (s.heap.push { cls:=Value.type "dict",data:=Data.dict #[] }).objs.size:=by rw [Heap.size_push]; exact Nat.lt_succ_self _
 generalize hs1 : ({ s with heap:=s.heap.push { cls:=.type "dict",data:=.dict #[] } } : Shared) = s1 at *
 have hsz1 : s.heap.objs.size < s1.heap.objs.size:=by rw [← hs1]; exact hsz
 obtain ⟨ol,nl,el,cl,dn,dl⟩:=pl
 unfold Builtin.Dict.updateFrom
 refine wpAny_bind (wpAny_typeOf ⟨_,el,cl⟩ ?_)
 rw [if_pos (by decide)]
 refine wpAny_bind (getAttrQ_miss_list el cl dl dn lk_list_keys (by decide +kernel) hh (fun h2 tk2 kp=>?_) (by decide +kernel))
 rw [if_pos (by decide)]
 refine wpAny_bind (wpAny_rule ?_)
 have I2 : Inv X pins σ (Hs 0) { s1 with heap:=h2,toks:=tk2 }:=h0.kept kp
 have pl2 : h2.IsList p its.toArray:=⟨ol,kp _ _ el,cl,nl,dl⟩
 refine wpAny_bind (wpAny_pyIter_list pl2 ?_)
 have hsz2 : s.heap.objs.size < h2.objs.size:=by
  obtain ⟨on,en,_⟩:=hnT
  exact Heap.lt_size (kp _ _ en)
 have hHn : ∀ i,Hs i h2.objs.size = none:=fun i=>hs0 i _ (I.hok.fresh (Nat.le_of_lt hsz2)) (Nat.ne_of_gt hsz2)
 refine wpAny_pure ⟨plainId_quiet PySem.F.plain_dict_update_loop _,dict_loop (A:=A.in1) (Hs:=Hs) (xs:=vs) (p:=p) hh (by show A.units + 1 + 1 < cLine; omega) (Nat.ne_of_lt hsz2) hsd (fun i=>I2.fpOk (Nat.le_refl _) (hHn i)) hs (fun s' I'=>?_) vs.length 0 _ rfl (Nat.zero_le _) (I2.kept (t':=tk2) fun b o e=>Heap.get?_push_of_some _ e) ⟨_,Heap.get?_push_size _ rfl,rfl,rfl⟩⟩
 exact ⟨rfl,.ref s.heap.objs.size,_,I',rfl,q⟩
theorem call_dictL (hu : X.A.units + 3 < cLine) (hh : X.calm = true) : CallR X (.type "dict") (rDictL X.K):=by
 intro pins s σ H xs us Q I r h
 obtain ⟨p,vs,rfl,hq,h⟩:=h
 obtain ⟨u,rfl,rx⟩:=vals1 r
 cases rx
 have hf : H s.heap.objs.size = none:=I.hok.fresh (Nat.le_refl _)
 have hpd : p ≠ s.heap.objs.size:=by
  obtain ⟨its,rv,⟨o,n,e,_⟩,hz⟩:=I.list hq
  exact Nat.ne_of_lt (Heap.lt_size e)
 have hn : vs.length ≤ sizeLine:=by
  obtain ⟨its,rv,_,hz⟩:=I.list hq
  exact hz
 rcases h with ⟨kvs,al,q⟩ | ⟨kvs,al,q⟩
 ·refine run_dictL (Hs:=fun i=>upd H s.heap.objs.size (.dK (putAll [] (kvs.take i)))) hu (I.ok.hd hh) I hq s.heap.objs.size rfl (I.laid (a:=s.heap.objs.size) (o:=.dK []) (t':=s.toks) (fun _ _ q=>Heap.get?_push_of_some _ q) (Nat.le_refl _) (dk_empty s.heap I.big)) (fun i b hb hd=>by show upd H _ _ b = none; rw [upd_ne hd]; exact hb) (fun i _=>(Same.upd hf).seq hq) (fun i x hx=>?_) ?_
  ·obtain ⟨kv,hkv,c,rfl,hc⟩:=al.get hx
   have hi : i < vs.length:=(List.getElem?_eq_some_iff.mp hx).1
   refine ⟨c,_,_,rfl,(Same.upd hf).tup hc,?_⟩
   show DPut _ _ _ _ (upd H s.heap.objs.size (.dK (putAll [] (kvs.take (i + 1)))))
   rw [putAll_take hkv]
   have hl : (putAll [] (kvs.take i)).length < sizeLine:=by have:=putAll_len (kvs.take i) ([] : List (Key × V)); rw [List.length_take] at this; simp only [List.length_nil] at this; omega
   have r:=DPut.k (H:=upd H s.heap.objs.size (.dK (putAll [] (kvs.take i)))) (k:=kv.1) (v:=kv.2) upd_same hl
   rw [upd_upd] at r
   exact r
  ·show Q _ (upd H s.heap.objs.size (.dK (putAll [] (kvs.take vs.length))))
   rw [al.1,List.take_length]
   exact q _ hf
 ·refine run_dictL (Hs:=fun i=>upd H s.heap.objs.size (.dT (putAll [] (kvs.take i)))) hu (I.ok.hd hh) I hq s.heap.objs.size rfl (I.laid (a:=s.heap.objs.size) (o:=.dT []) (t':=s.toks) (fun _ _ q=>Heap.get?_push_of_some _ q) (Nat.le_refl _) (dt_empty s.heap I.big)) (fun i b hb hd=>by show upd H _ _ b = none; rw [upd_ne hd]; exact hb) (fun i _=>(Same.upd hf).seq hq) (fun i x hx=>?_) ?_
  ·obtain ⟨kv,hkv,c,b,rfl,hc,hb⟩:=al.get hx
   have hi : i < vs.length:=(List.getElem?_eq_some_iff.mp hx).1
   refine ⟨c,_,_,rfl,(Same.upd hf).tup hc,?_⟩
   show DPut _ _ _ _ (upd H s.heap.objs.size (.dT (putAll [] (kvs.take (i + 1)))))
   rw [putAll_take hkv]
   have hl : (putAll [] (kvs.take i)).length < sizeLine:=by have:=putAll_len (kvs.take i) ([] : List (List Key × V)); rw [List.length_take] at this; simp only [List.length_nil] at this; omega
   have r:=DPut.t (H:=upd H s.heap.objs.size (.dT (putAll [] (kvs.take i)))) (v:=kv.2) upd_same ((Same.upd hf) _ _ hb) hl
   rw [upd_upd] at r
   exact r
  ·show Q _ (upd H s.heap.objs.size (.dT (putAll [] (kvs.take vs.length))))
   rw [al.1,List.take_length]
   exact q _ hf
end
end L2
namespace L2
open PySem PySem.Spec PyProof.Rows
theorem Room.u1 {k : Nat} {A : Around} (r : Room k A) : A.units + 1 < cLine:=by have:=r.u200; omega
section
variable {X : Cx} {k : Nat} {x m f : Str} {ps : List Str} {sp : Sp} {E : XK} {C : Addr} {p pos pos' tpos apos : Pos} {e o i value : Expr} {es : List Expr} {ta tv td ty : TE} {t : TA} {CX : CXT} {P : Program} {w : World} {mg : Str→Option Value} {base : Heap} {K : PySem.W.Frag}
theorem qe_methD0 (K : PySem.W.Frag) (CX : CXT) (ps : List Str) {pl : Sem Bool} (he : QE X o ta) (hr : Room k X.A) (hx : Passes CX X E) (hP : X.prog = P:=by rfl) (hw : X.w = w:=by rfl) (hK : X.K = K:=by rfl) (hmg : X.mg = mg:=by rfl) (hbs : X.base = base:=by rfl)
  (ht : eval (.Call (.Attribute o m apos) [] [] pos) X.env = (do
   let ov ← eval o X.env
   standAt apos.atName
   let (f,first) ← holding [ov] (getMethod ov m pl)
   callWith pos f first (backTo pos (starEach [] X.env)) (backToKw pos (keywordEach [] X.env))):=by rfl) :
  QE X (.Call (.Attribute o m apos) [] [] pos) (tMethD CX P w K mg base k m ps E ta tNil):=by
 subst hP hw hK hmg hbs
 refine ⟨fun pins s σ H Q I h=>?_⟩
 refine PySem.W.methodCall_KW (pl:=pl) (thn (he.run pins s σ H _ I h) fun u s1 ⟨x,H1,I1,rx,a,C,dx,fs,sp,ex,ea,l,M,q⟩=>?_) ht
 obtain ⟨g,fd,F,c,hm,hb⟩:=M.ex
 subst ex
 obtain rfl : u = Value.ref a:=rx
 refine getmeth_ok I1 ea c hm l ?_
 exact PySem.W.callWith_K0 (first:=[.ref a]) I1.kIn hm.kp (run_fn (us:=[.ref a]) (vs:=[.ref a]) (dvs:=[]) F hr hb .nil hx I1 (.cons rfl .nil) q)
theorem qs_fldaugK (K : PySem.W.Frag) {op : Operator} {rd : V→V→Hp→VK→Prop} (ha : QE X o ta) (hv : QE X value tv) (hop : InOp X op rd) (hK : X.K = K:=by rfl) : QS X (.AugAssign (.Attribute o f tpos) op value pos) (sFldAug K ta tv rd f):=by subst hK; exact ⟨ps_fldaug ha.run hv.run hop⟩
theorem k_dict (K : PySem.W.Frag) (hu : X.A.units + 200 < cLine) (hh : X.calm = true) (hK : X.K = K:=by rfl) : CallR X (.type "dict") (rDictL K):=by subst hK; exact call_dictL (by omega) hh
theorem qe_dget (hu : X.A.units + 1 < cLine) (ho : QE X o td) (hi : QE X i ty) (hs : NoSl i) : QE X (.Subscript o i pos) (tDGet td ty):=⟨pe_dget hu ho.run hi.run hs⟩
theorem qc_din (hu : X.A.units + 1 < cLine) (hi : QE X i ty) (ho : QE X o td) : QC X .In i o (tDIn ty td):=⟨pc_din hu hi.run ho.run⟩
noncomputable def rAddP (K : PySem.W.Frag) : R2:=fun x y H Q=>rAddA K x y H Q ∨ ∃ (a b : Addr) (xs ys : List V),x = .ref a∧y = .ref b∧H a = some (.tup xs)∧H b = some (.tup ys)∧xs.length + ys.length ≤ sizeLine∧∀ p H',Same H H'→H' p = some (.tup (xs ++ ys))→Q (.ref p) H'
theorem op_addP : OpR X (binaryOp .Add) (rAddP X.K):=by
 refine op_addA.or ?_
 intro pins s σ H x y v u Q I rx ry h
 obtain ⟨a,b,xs,ys,rfl,rfl,ha,hb,hz,q⟩:=h
 have ha' : SqT X.K H a xs:=SqT.of ha
 have hb' : SqT X.K H b ys:=SqT.of hb
 by_cases hx : xs = []
 ·subst hx
  cases rx
  cases ry
  obtain ⟨its,r1,p1,_⟩:=I.tuple ha'
  obtain ⟨its2,r2,p2,_⟩:=I.tuple hb'
  cases r1
  obtain ⟨⟨cls,dd,data,sl⟩,ho,hc,n,hd⟩:=id p1
  obtain ⟨⟨cls2,dd2,data2,sl2⟩,ho2,hc2,n2,hd2⟩:=id p2
  simp only at hc hd hc2 hd2
  subst hc hd hc2 hd2
  exact concat_meets ⟨_,ho,rfl⟩ ⟨_,ho2,rfl⟩ noFill_tuple_add seq_tuple_add PySem.F.slot_tuple_add PySem.F.entry_tuple_add (PySem.F.args_tuple_add_2 _ _)
   (tuple_addW0 a b _ _ n n2 dd dd2 sl sl2 (by simp)) ⟨ho,ho2,⟨.ref b,H,I,rfl,q b H (Same.refl H) hb⟩⟩
 ·refine op_catT pins s σ H _ _ v u Q I rx ry ⟨a,b,xs,ys,rfl,rfl,ha',hb',hx,hz,fun e=>?_,fun _ p hp=>q p _ (fun c o e=>by rw [upd_ne (ne_of_none e hp)]; exact e) upd_same⟩
  subst e
  exact q a H (Same.refl H) (by rw [List.append_nil]; exact ha)
theorem k_addP (K : PySem.W.Frag) (hK : X.K = K:=by rfl) : OpR X (binaryOp .Add) (rAddP K):=by subst hK; exact op_addP
theorem s_addp {a b : Addr} {xs ys : List V} {H : Hp} {Q : VK} (ha : H a = some (.tup xs)) (hb : H b = some (.tup ys)) (hz : xs.length + ys.length ≤ sizeLine) (h : ∀ p H',Same H H'→H' p = some (.tup (xs ++ ys))→Q (.ref p) H') : rAddP K (.ref a) (.ref b) H Q:=.inr ⟨a,b,xs,ys,rfl,rfl,ha,hb,hz,h⟩
end
end L2
namespace L2
open PySem
noncomputable def RowT (K : PySem.W.Frag) (H : Hp) (v : V) (x : List Nat × Tr) : Prop:=∃ (a p : Addr) (u : V),v = .ref a∧SqT K H a [.ref p,u]∧H p = some (.tup (plV x.1))∧TrAt K H u x.2
theorem RowT.same {K : PySem.W.Frag} {H H' : Hp} (e : SameT H H') (v : V) (x : List Nat × Tr) (h : RowT K H v x) : RowT K H' v x:=by
 obtain ⟨a,p,u,r,q,qp,t⟩:=h
 exact ⟨a,p,u,r,e.tup q,(e p).1 _ qp,t.sameT e⟩
theorem putAll_snoc {κ : Type} [DecidableEq κ] (l : List (κ × V)) (kv : κ × V) (kvs : List (κ × V)) : putAll kvs (l ++ [kv]) = putK (putAll kvs l) kv.1 kv.2:=by
 unfold putAll
 rw [List.foldl_append]
 rfl
noncomputable def lastV {κ : Type} [DecidableEq κ] (l : List (κ × V)) (k : κ) : Option V:=(l.reverse.find? fun kv=>decide (kv.1 = k)).map (·.2)
theorem lastV_snoc {κ : Type} [DecidableEq κ] (l : List (κ × V)) (kv : κ × V) (k : κ) : lastV (l ++ [kv]) k = if kv.1 = k then some kv.2 else lastV l k:=by
 unfold lastV
 rw [List.reverse_append,List.reverse_singleton,List.singleton_append,List.find?_cons]
 by_cases h : kv.1 = k
 ·simp [h]
 ·simp [h]
theorem snoc_ind {α : Type} {P : List α→Prop} (h0 : P []) (h1 : ∀ l x,P l→P (l ++ [x])) (l : List α) : P l:=by
 rw [← l.reverse_reverse]
 induction l.reverse with
 | nil=>exact h0
 | cons x r ih=>rw [List.reverse_cons]; exact h1 _ _ ih
theorem valV_putAll {κ : Type} [DecidableEq κ] (l : List (κ × V)) (k : κ) : valV (putAll [] l) k = lastV l k:=by
 refine snoc_ind (P:=fun l=>valV (putAll [] l) k = lastV l k) rfl (fun l kv ih=>?_) l
 rw [putAll_snoc,lastV_snoc,valV_put,ih]
 by_cases h : kv.1 = k
 ·rw [if_pos h,if_pos h.symm]
 ·rw [if_neg h,if_neg (Ne.symm h)]
structure Wt where
 pl : List Nat
 ar : List (Str × Str × V)
 came : Bool
structure MS where
 rows : List Rx
 wait : List Wt
 things : List (Str × V)
 steps : Int
noncomputable def plI (pl : List Nat) : List Int:=pl.map fun i : Nat=>((i : Nat) : Int)
theorem plV_plI (pl : List Nat) : (plI pl).map V.int = plV pl:=by unfold plI plV; rw [List.map_map]; rfl
noncomputable def plK (pl : List Nat) : List Key:=pl.map fun i : Nat=>Sum.inl ((i : Nat) : Int)
theorem plK_kV (pl : List Nat) : (plK pl).map kV = plV pl:=by unfold plK plV; rw [List.map_map]; rfl
noncomputable def WtAt (K : PySem.W.Frag) (A : Addr→Prop) (H : Hp) (v : V) (x : Wt) : Prop:=∃ (a p e : Addr) (ev : List V),v = .ref a∧SqT K H a [.ref p,.ref e,.bl x.came]∧H p = some (.tup (plV x.pl))∧H e = some (.lst ev)∧Al (PrAt K H) ev x.ar∧¬ A e
theorem WtAt.same {K : PySem.W.Frag} {A : Addr→Prop} {H H' : Hp} (s : SameA A H H') (v : V) (x : Wt) (h : WtAt K A H v x) : WtAt K A H' v x:=by
 obtain ⟨a,p,e,ev,h1,h2,h3,h4,h5,h6⟩:=h
 exact ⟨a,p,e,ev,h1,s.1.tup h2,(s.1 p).1 _ h3,s.2 _ _ h6 h4,h5.mono (PrAt.same s.1),h6⟩
theorem WtAt.mono {K : PySem.W.Frag} {A B : Addr→Prop} {H : Hp} (s : ∀ b,B b→H b ≠ none→A b) (v : V) (x : Wt) (h : WtAt K A H v x) : WtAt K B H v x:=by
 obtain ⟨a,p,e,ev,h1,h2,h3,h4,h5,h6⟩:=h
 exact ⟨a,p,e,ev,h1,h2,h3,h4,h5,fun b=>h6 (s e b (by rw [h4]; simp))⟩
noncomputable def RwX (K : PySem.W.Frag) (A : Addr→Prop) (H : Hp) (v : V) (x : Rx) : Prop:=RwAt K A H v x∧∃ (a p o e : Addr),v = .ref a∧SqT K H a [.str x.wd,.ref p,.ref o,.ref e]∧H p = some (.tup (x.pl.map V.int))
theorem RwX.same {K : PySem.W.Frag} {A : Addr→Prop} {H H' : Hp} (s : SameA A H H') (v : V) (x : Rx) (h : RwX K A H v x) : RwX K A H' v x:=by
 obtain ⟨h1,a,p,o,e,r,q,t⟩:=h
 exact ⟨RwAt.same s v x h1,a,p,o,e,r,s.1.tup q,(s.1 p).1 _ t⟩
theorem RwX.mono {K : PySem.W.Frag} {A B : Addr→Prop} {H : Hp} (s : ∀ b,B b→H b ≠ none→A b) (v : V) (x : Rx) (h : RwX K A H v x) : RwX K B H v x:=⟨RwAt.mono s v x h.1,h.2⟩
noncomputable def RwO (K : PySem.W.Frag) (A : Addr→Prop) (H : Hp) (v : V) (y : Rx × Addr × Addr) : Prop:=∃ (a p : Addr) (ov ev : List V),v = .ref a∧SqT K H a [.str y.1.wd,.ref p,.ref y.2.1,.ref y.2.2]∧SqT K H p (y.1.pl.map V.int)∧H y.2.1 = some (.lst ov)∧Al (ThAt K H) ov y.1.ops∧H y.2.2 = some (.lst ev)∧Al (PrAt K H) ev y.1.ar∧¬ A y.2.1∧¬ A y.2.2
theorem RwO.same {K : PySem.W.Frag} {A : Addr→Prop} {H H' : Hp} (s : SameA A H H') (v : V) (y : Rx × Addr × Addr) (h : RwO K A H v y) : RwO K A H' v y:=by
 obtain ⟨a,p,ov,ev,h1,h2,h3,h4,h5,h6,h7,h8,h9⟩:=h
 exact ⟨a,p,ov,ev,h1,s.1.tup h2,s.1.tup h3,s.2 _ _ h8 h4,h5.mono (ThAt.same s.1),s.2 _ _ h9 h6,h7.mono (PrAt.same s.1),h8,h9⟩
theorem RwO.mono {K : PySem.W.Frag} {A B : Addr→Prop} {H : Hp} (s : ∀ b,B b→H b ≠ none→A b) (v : V) (y : Rx × Addr × Addr) (h : RwO K A H v y) : RwO K B H v y:=by
 obtain ⟨a,p,ov,ev,h1,h2,h3,h4,h5,h6,h7,h8,h9⟩:=h
 exact ⟨a,p,ov,ev,h1,h2,h3,h4,h5,h6,h7,fun b=>h8 (s _ b (by rw [h4]; simp)),fun b=>h9 (s _ b (by rw [h6]; simp))⟩
noncomputable def SepR (K : PySem.W.Frag) (A : Addr→Prop) (H : Hp) (rv : List V) (rs : List Rx) : Prop:=∃ ys : List (Rx × Addr × Addr),ys.map (·.1) = rs∧Al (RwO K A H) rv ys∧∀ (i j : Nat) (x y : Rx × Addr × Addr),ys[i]? = some x→ys[j]? = some y→i < j→x.2.1 ≠ y.2.1∧x.2.1 ≠ y.2.2∧x.2.2 ≠ y.2.1∧x.2.2 ≠ y.2.2
theorem SepR.nil {K : PySem.W.Frag} {A : Addr→Prop} {H : Hp} : SepR K A H [] []:=⟨[],rfl,.nil,fun i j x y h=>by simp at h⟩
theorem SepR.same {K : PySem.W.Frag} {A : Addr→Prop} {H H' : Hp} {rv : List V} {rs : List Rx} (h : SepR K A H rv rs) (s : SameA A H H') : SepR K A H' rv rs:=by
 obtain ⟨ys,e,al,d⟩:=h
 exact ⟨ys,e,al.mono (RwO.same s),d⟩
theorem SepR.mono {K : PySem.W.Frag} {A B : Addr→Prop} {H : Hp} {rv : List V} {rs : List Rx} (h : SepR K A H rv rs) (s : ∀ b,B b→H b ≠ none→A b) : SepR K B H rv rs:=by
 obtain ⟨ys,e,al,d⟩:=h
 exact ⟨ys,e,al.mono (RwO.mono s),d⟩
theorem SepR.add {K : PySem.W.Frag} {A : Addr→Prop} {H H' : Hp} {rv : List V} {rs : List Rx} {v : V} {y : Rx × Addr × Addr} (h : SepR K A H rv rs) (s : Same H H') (ho : H y.2.1 = none) (he : H y.2.2 = none) (q : RwO K A H' v y) : SepR K A H' (rv ++ [v]) (rs ++ [y.1]):=by
 obtain ⟨ys,er,al,d⟩:=h
 refine ⟨ys ++ [y],by rw [List.map_append,er]; rfl,(al.mono (RwO.same s.a)).snoc q,fun i j x z hi hj hij=>?_⟩
 have hjl : j < (ys ++ [y]).length:=(List.getElem?_eq_some_iff.mp hj).1
 rw [List.length_append,List.length_singleton] at hjl
 have hil : i < ys.length:=by omega
 rw [List.getElem?_append_left hil] at hi
 by_cases hjl2 : j < ys.length
 ·rw [List.getElem?_append_left hjl2] at hj
  exact d i j x z hi hj hij
 ·have ej : j = ys.length:=by omega
  rw [ej] at hj
  simp at hj
  obtain ⟨v',hv⟩ : ∃ v,rv[i]? = some v:=⟨_,List.getElem?_eq_getElem (by rw [al.1]; exact hil)⟩
  obtain ⟨x',hx',a2,p2,os2,es2,g1,g2,g3,g4,g5,g6,g7,g8,g9⟩:=al.get hv
  rw [hi] at hx'
  cases hx'
  rw [← hj]
  exact ⟨fun z=>(by rw [z,ho] at g4; cases g4),fun z=>(by rw [z,he] at g4; cases g4),fun z=>(by rw [z,ho] at g6; cases g6),fun z=>(by rw [z,he] at g6; cases g6)⟩
structure Ml where
 m : Addr
 dx : Addr
 fd : Addr
 rd : Addr
 wd : Addr
 td : Addr
noncomputable def Ml.A (L : Ml) (b : Addr) : Prop:=b = L.rd ∨ b = L.wd ∨ b = L.td
noncomputable def Ml.fs (L : Ml) (n : Int) : List (Str × V):=[("forms",.ref L.fd),("rows",.ref L.rd),("waiting",.ref L.wd),("things",.ref L.td),("steps",.int n)]
structure MAt (K : PySem.W.Frag) (HB : Hp) (C : Addr) (kvs : List (List Key × V)) (L : Ml) (H : Hp) (S : MS) : Prop where
 base : Same HB H
 nm : HB L.m = none
 nr : HB L.rd = none
 nw : HB L.wd = none
 nt : HB L.td = none
 ins : H L.m = some (.ins C L.dx (L.fs S.steps))
 frm : H L.fd = some (.dT kvs)
 rw : L.rd ≠ L.wd
 rt : L.rd ≠ L.td
 wt : L.wd ≠ L.td
 rows : ∃ rv,H L.rd = some (.lst rv)∧Al (RwX K (fun b=>L.A b ∨ HB b ≠ none) H) rv S.rows∧SepR K (fun b=>L.A b ∨ HB b ≠ none) H rv S.rows
 wait : ∃ wv,H L.wd = some (.lst wv)∧Al (WtAt K L.A H) wv S.wait
 things : ∃ tv,H L.td = some (.lst tv)∧Al (ThAt K H) tv S.things
noncomputable def SameM (L : Ml) (H H' : Hp) : Prop:=∀ b o,b ≠ L.m→¬ L.A b→H b = some o→H' b = some o
theorem SameM.refl (L : Ml) (H : Hp) : SameM L H H:=fun _ _ _ _ h=>h
theorem SameM.trans {L : Ml} {H H1 H2 : Hp} (a : SameM L H H1) (b : SameM L H1 H2) : SameM L H H2:=fun c o h1 h2 h=>b c o h1 h2 (a c o h1 h2 h)
theorem _root_.L2.Same.m {H H' : Hp} (e : Same H H') (L : Ml) : SameM L H H':=fun b o _ _ h=>e b o h
theorem SameM.trans' {L L' : Ml} {H H1 H2 : Hp} (a : SameM L H H1) (b : SameM L' H1 H2) (hm : L'.m = L.m) (hr : L'.rd = L.rd) (hw : L'.wd = L.wd) (ht : L'.td = L.td ∨ H L'.td = none) : SameM L H H2:=fun c o h1 h2 h=>by
 refine b c o (by rw [hm]; exact h1) ?_ (a c o h1 h2 h)
 rintro (z | z | z)
 ·exact h2 (.inl (z.trans hr))
 ·exact h2 (.inr (.inl (z.trans hw)))
 ·rcases ht with e | e
  ·exact h2 (.inr (.inr (z.trans e)))
  ·rw [← z,h] at e
   cases e
section
variable {K : PySem.W.Frag} {HB H H' : Hp} {C : Addr} {kvs : List (List Key × V)} {L : Ml} {S : MS}
theorem MAt.ne {o : HO} (M : MAt K HB C kvs L H S) {b : Addr} (h : H b = some o) (hi : ∀ c d f,o ≠ .ins c d f) (hl : ∀ xs,o ≠ .lst xs) : b ≠ L.m∧¬ L.A b:=by
 obtain ⟨rv,er,_⟩:=M.rows
 obtain ⟨wv,ew,_⟩:=M.wait
 obtain ⟨tv,et,_⟩:=M.things
 refine ⟨fun z=>?_,?_⟩
 ·rw [z,M.ins] at h; cases h; exact hi _ _ _ rfl
 ·rintro (z | z | z)
  ·rw [z,er] at h; cases h; exact hl _ rfl
  ·rw [z,ew] at h; cases h; exact hl _ rfl
  ·rw [z,et] at h; cases h; exact hl _ rfl
theorem MAt.a (M : MAt K HB C kvs L H S) (e : SameM L H H') : SameA L.A H H':=by
 refine ⟨fun b=>⟨fun xs h=>?_,fun o u h=>?_⟩,fun b xs n h=>?_⟩
 ·obtain ⟨h1,h2⟩:=M.ne h (fun _ _ _ z=>nomatch z) (fun _ z=>nomatch z)
  exact e b _ h1 h2 h
 ·obtain ⟨h1,h2⟩:=M.ne h (fun _ _ _ z=>nomatch z) (fun _ z=>nomatch z)
  exact e b _ h1 h2 h
 ·refine e b _ (fun z=>?_) n h
  rw [z,M.ins] at h
  cases h
theorem MAt.t (M : MAt K HB C kvs L H S) (e : SameM L H H') : SameT H H':=(M.a e).1
theorem MAt.outer (M : MAt K HB C kvs L H S) (e : SameM L H H') : Same HB H':=fun b o h=>by
 refine e b o (fun z=>?_) ?_ (M.base b o h)
 ·rw [z,M.nm] at h; cases h
 ·rintro (z | z | z)
  ·rw [z,M.nr] at h; cases h
  ·rw [z,M.nw] at h; cases h
  ·rw [z,M.nt] at h; cases h
theorem MAt.big (M : MAt K HB C kvs L H S) (e : SameM L H H') : SameA (fun b=>L.A b ∨ HB b ≠ none) H H':=(M.a e).mono fun _ h=>.inl h
theorem MAt.new (M : MAt K HB C kvs L H S) (e : Same H H') : MAt K HB C kvs L H' S:=by
 obtain ⟨rv,er,ar,sp⟩:=M.rows
 obtain ⟨wv,ew,aw⟩:=M.wait
 obtain ⟨tv,et,at_⟩:=M.things
 exact ⟨M.base.trans e,M.nm,M.nr,M.nw,M.nt,e _ _ M.ins,e _ _ M.frm,M.rw,M.rt,M.wt,⟨rv,e _ _ er,ar.mono (RwX.same e.a),sp.same e.a⟩,⟨wv,e _ _ ew,aw.mono (WtAt.same e.a)⟩,⟨tv,e _ _ et,at_.mono (ThAt.same e.t)⟩⟩
theorem SameM.upd {x : Addr} {o : HO} (hx : x = L.m ∨ L.A x) : SameM L H (upd H x o):=fun b o' h1 h2 h=>by
 rw [upd_ne (fun z=>?_)]
 ·exact h
 ·rw [z] at h1 h2
  rcases hx with e | e
  ·exact h1 e
  ·exact h2 e
theorem MAt.apart (M : MAt K HB C kvs L H S) : L.rd ≠ L.m∧L.wd ≠ L.m∧L.td ≠ L.m∧L.fd ≠ L.m∧L.fd ≠ L.rd∧L.fd ≠ L.wd∧L.fd ≠ L.td:=by
 obtain ⟨rv,er,_⟩:=M.rows
 obtain ⟨wv,ew,_⟩:=M.wait
 obtain ⟨tv,et,_⟩:=M.things
 exact ⟨ne_of er M.ins (fun z=>nomatch z),ne_of ew M.ins (fun z=>nomatch z),ne_of et M.ins (fun z=>nomatch z),ne_of M.frm M.ins (fun z=>nomatch z),ne_of M.frm er (fun z=>nomatch z),ne_of M.frm ew (fun z=>nomatch z),ne_of M.frm et (fun z=>nomatch z)⟩
theorem MAt.setSteps (M : MAt K HB C kvs L H S) (n : Int) : MAt K HB C kvs L (L2.upd H L.m (.ins C L.dx (L.fs n))) { S with steps:=n }:=by
 have e : SameM L H (L2.upd H L.m (.ins C L.dx (L.fs n))):=SameM.upd (.inl rfl)
 obtain ⟨a1,a2,a3,a4,a5,a6,a7⟩:=M.apart
 obtain ⟨rv,er,ar,sp⟩:=M.rows
 obtain ⟨wv,ew,aw⟩:=M.wait
 obtain ⟨tv,et,at_⟩:=M.things
 exact ⟨M.outer e,M.nm,M.nr,M.nw,M.nt,upd_same,by rw [upd_ne a4]; exact M.frm,M.rw,M.rt,M.wt,⟨rv,by rw [upd_ne a1]; exact er,ar.mono (RwX.same (M.big e)),sp.same (M.big e)⟩,⟨wv,by rw [upd_ne a2]; exact ew,aw.mono (WtAt.same (M.a e))⟩,⟨tv,by rw [upd_ne a3]; exact et,at_.mono (ThAt.same (M.t e))⟩⟩
theorem MAt.setRows (M : MAt K HB C kvs L H S) {rv : List V} {rs : List Rx} (al : Al (RwX K (fun b=>L.A b ∨ HB b ≠ none) H) rv rs) (sp : SepR K (fun b=>L.A b ∨ HB b ≠ none) H rv rs) : MAt K HB C kvs L (L2.upd H L.rd (.lst rv)) { S with rows:=rs }:=by
 have e : SameM L H (L2.upd H L.rd (.lst rv)):=SameM.upd (.inr (.inl rfl))
 obtain ⟨a1,a2,a3,a4,a5,a6,a7⟩:=M.apart
 obtain ⟨wv,ew,aw⟩:=M.wait
 obtain ⟨tv,et,at_⟩:=M.things
 exact ⟨M.outer e,M.nm,M.nr,M.nw,M.nt,by rw [upd_ne (Ne.symm a1)]; exact M.ins,by rw [upd_ne a5]; exact M.frm,M.rw,M.rt,M.wt,⟨rv,upd_same,al.mono (RwX.same (M.big e)),sp.same (M.big e)⟩,⟨wv,by rw [upd_ne (Ne.symm M.rw)]; exact ew,aw.mono (WtAt.same (M.a e))⟩,⟨tv,by rw [upd_ne (Ne.symm M.rt)]; exact et,at_.mono (ThAt.same (M.t e))⟩⟩
theorem MAt.setWait (M : MAt K HB C kvs L H S) {wv : List V} {ws : List Wt} (al : Al (WtAt K L.A H) wv ws) : MAt K HB C kvs L (L2.upd H L.wd (.lst wv)) { S with wait:=ws }:=by
 have e : SameM L H (L2.upd H L.wd (.lst wv)):=SameM.upd (.inr (.inr (.inl rfl)))
 obtain ⟨a1,a2,a3,a4,a5,a6,a7⟩:=M.apart
 obtain ⟨rv,er,ar,sp⟩:=M.rows
 obtain ⟨tv,et,at_⟩:=M.things
 exact ⟨M.outer e,M.nm,M.nr,M.nw,M.nt,by rw [upd_ne (Ne.symm a2)]; exact M.ins,by rw [upd_ne a6]; exact M.frm,M.rw,M.rt,M.wt,⟨rv,by rw [upd_ne M.rw]; exact er,ar.mono (RwX.same (M.big e)),sp.same (M.big e)⟩,⟨wv,upd_same,al.mono (WtAt.same (M.a e))⟩,⟨tv,by rw [upd_ne (Ne.symm M.wt)]; exact et,at_.mono (ThAt.same (M.t e))⟩⟩
theorem MAt.setThings (M : MAt K HB C kvs L H S) {tv : List V} {ts : List (Str × V)} (al : Al (ThAt K H) tv ts) : MAt K HB C kvs L (L2.upd H L.td (.lst tv)) { S with things:=ts }:=by
 have e : SameM L H (L2.upd H L.td (.lst tv)):=SameM.upd (.inr (.inr (.inr rfl)))
 obtain ⟨a1,a2,a3,a4,a5,a6,a7⟩:=M.apart
 obtain ⟨rv,er,ar,sp⟩:=M.rows
 obtain ⟨wv,ew,aw⟩:=M.wait
 exact ⟨M.outer e,M.nm,M.nr,M.nw,M.nt,by rw [upd_ne (Ne.symm a3)]; exact M.ins,by rw [upd_ne a7]; exact M.frm,M.rw,M.rt,M.wt,⟨rv,by rw [upd_ne M.rt]; exact er,ar.mono (RwX.same (M.big e)),sp.same (M.big e)⟩,⟨wv,by rw [upd_ne M.wt]; exact ew,aw.mono (WtAt.same (M.a e))⟩,⟨tv,upd_same,al.mono (ThAt.same (M.t e))⟩⟩
noncomputable def Ml.with (L : Ml) (t : Addr) : Ml:={ L with td:=t }
theorem MAt.swap (M : MAt K HB C kvs L H S) {H1 : Hp} {t : Addr} {tv : List V} {ts : List (Str × V)} (e0 : Same H H1) (ht : H t = none) (h1 : H1 t = some (.lst tv)) (al : Al (ThAt K H1) tv ts) : MAt K HB C kvs (L.with t) (L2.upd H1 L.m (.ins C L.dx ((L.with t).fs S.steps))) { S with things:=ts }∧SameM L H (L2.upd H1 L.m (.ins C L.dx ((L.with t).fs S.steps))):=by
 have M1:=M.new e0
 have e : SameM L H1 (L2.upd H1 L.m (.ins C L.dx ((L.with t).fs S.steps))):=SameM.upd (.inl rfl)
 obtain ⟨a1,a2,a3,a4,a5,a6,a7⟩:=M1.apart
 obtain ⟨rv0,er0,_⟩:=M.rows
 obtain ⟨wv0,ew0,_⟩:=M.wait
 obtain ⟨rv,er,ar,sp⟩:=M1.rows
 obtain ⟨wv,ew,aw⟩:=M1.wait
 have nm : t ≠ L.m:=fun z=>by rw [z,M.ins] at ht; cases ht
 have nr : L.rd ≠ t:=fun z=>by rw [← z,er0] at ht; cases ht
 have nw : L.wd ≠ t:=fun z=>by rw [← z,ew0] at ht; cases ht
 have nb : HB t = none:=by
  cases h : HB t with
  | none=>rfl
  | some o=>rw [M.base _ _ h] at ht; cases ht
 have s2 : ∀ B : Addr→Prop,SameA B H (L2.upd H1 L.m (.ins C L.dx ((L.with t).fs S.steps))):=fun B=>⟨e0.t.trans (M1.t e),fun b xs _ h=>by
  rw [upd_ne (fun z=>?_)]
  ·exact e0 _ _ h
  ·rw [z,M.ins] at h; cases h⟩
 obtain ⟨rv1,er1,ar1,sp1⟩:=M.rows
 obtain ⟨wv1,ew1,aw1⟩:=M.wait
 have hA : ∀ b,(L.with t).A b→H b ≠ none→L.A b:=fun b hb hn=>by
  rcases hb with z | z | z
  ·exact .inl z
  ·exact .inr (.inl z)
  ·rw [show b = t from z,ht] at hn; exact absurd rfl hn
 refine ⟨⟨M1.outer e,M.nm,M.nr,M.nw,nb,upd_same,(upd_ne (show L.fd ≠ L.m from a4)).trans M1.frm,M.rw,nr,nw,⟨rv1,(upd_ne (show L.rd ≠ L.m from a1)).trans (e0 _ _ er1),?_,?_⟩,⟨wv1,(upd_ne (show L.wd ≠ L.m from a2)).trans (e0 _ _ ew1),?_⟩,⟨tv,(upd_ne (show t ≠ L.m from nm)).trans h1,al.mono (ThAt.same (M1.t e))⟩⟩,(e0.m L).trans e⟩
 ·refine (ar1.mono (RwX.mono fun b hb hn=>?_)).mono (RwX.same (s2 _))
  rcases hb with z | z
  ·exact .inl (hA b z hn)
  ·exact .inr z
 ·refine (sp1.mono fun b hb hn=>?_).same (s2 _)
  rcases hb with z | z
  ·exact .inl (hA b z hn)
  ·exact .inr z
 ·exact (aw1.mono (WtAt.mono hA)).mono (WtAt.same (s2 _))
end
noncomputable def lookA (ar : List (Str × Str × V)) (z : Str) : Option (Str × V):=(ar.reverse.find? fun x=>decide (x.1 = z)).map (·.2)
theorem lookA_snoc (l : List (Str × Str × V)) (x : Str × Str × V) (z : Str) : lookA (l ++ [x]) z = if x.1 = z then some x.2 else lookA l z:=by
 unfold lookA
 rw [List.reverse_append,List.reverse_singleton,List.singleton_append,List.find?_cons]
 by_cases h : x.1 = z
 ·simp [h]
 ·simp [h]
theorem bound_of {K : PySem.W.Frag} {H : Hp} : ∀ (ev : List V) (ar : List (Str × Str × V)),Al (PrAt K H) ev ar→∃ kvs : List (Key × V),Al (fun v (kv : Key × V)=>∃ a,v = .ref a∧SqT K H a [kV kv.1,kv.2]) ev kvs ∧
  ∀ z : Str,(lastV kvs (Sum.inr z) = none∧lookA ar z = none) ∨ ∃ u th,lastV kvs (Sum.inr z) = some u∧lookA ar z = some th∧ThAt K H u th:=by
 intro ev
 refine snoc_ind (P:=fun ev=>∀ ar,Al (PrAt K H) ev ar→∃ kvs : List (Key × V),Al (fun v (kv : Key × V)=>∃ a,v = .ref a∧SqT K H a [kV kv.1,kv.2]) ev kvs ∧
  ∀ z : Str,(lastV kvs (Sum.inr z) = none∧lookA ar z = none) ∨ ∃ u th,lastV kvs (Sum.inr z) = some u∧lookA ar z = some th∧ThAt K H u th) ?_ ?_ ev
 ·intro ar al
  have : ar = []:=List.eq_nil_of_length_eq_zero al.1.symm
  subst this
  exact ⟨[],.nil,fun z=>.inl ⟨rfl,rfl⟩⟩
 ·intro l v ih ar al
  obtain ⟨l',v',ar',x,e1,rfl,al',a,u,rfl,q,t⟩:=al.last (by simp)
  obtain ⟨rfl,e2⟩:=List.append_inj' e1 rfl
  cases e2
  obtain ⟨kvs,ak,hk⟩:=ih ar' al'
  refine ⟨kvs ++ [(Sum.inr x.1,u)],ak.snoc ⟨a,rfl,q⟩,fun z=>?_⟩
  rw [lastV_snoc,lookA_snoc]
  by_cases hz : x.1 = z
  ·refine .inr ⟨u,x.2,?_,if_pos hz,t⟩
   rw [if_pos (by rw [hz])]
  ·rw [if_neg hz,if_neg (fun h=>hz (Sum.inr.inj h))]
   exact hk z
section
variable {g : TG} {tt : TT} {te : TE} {σ0 : St} {H1 : Hp} {D : Addr} {Q : VK}
theorem comp_tup {K : PySem.W.Frag} {a : Addr} {xs : List V} (Pv : Nat→List V→St→Hp→Prop) (h0 : Pv 0 [] σ0 (upd H1 D (.lst []))) (hl : ∀ i ys σ H,i ≤ xs.length→Pv i ys σ H→SqT K H a xs)
  (hs : ∀ i x ys σ H,xs[i]? = some x→H D = some (.lst ys)→Pv i ys σ H→CompT g tt te D (Pv (i + 1)) x σ H)
  (hd : ∀ ys σ H,H D = some (.lst ys)→Pv xs.length ys σ H→Q (.ref D) H) : CompW (Itt K a) g tt te σ0 H1 D Q:=by
 refine ⟨fun i m σ H=>m = xs.length - i∧i ≤ xs.length∧∃ ys,H D = some (.lst ys)∧Pv i ys σ H,⟨xs.length,by simp,Nat.zero_le _,[],upd_same,h0⟩,?_⟩
 rintro i m σ H ⟨rfl,hi,ys,hD,p⟩
 have q:=hl i ys σ H hi p
 by_cases hlt : i < xs.length
 ·refine .inr ⟨⟨xs,xs[i],q,by simp [hlt]⟩,fun σ2 H2=>∃ zs,H2 D = some (.lst zs)∧Pv (i + 1) zs σ2 H2,fun σ' H' p'=>⟨xs.length - (i + 1),by omega,rfl,hlt,p'⟩,fun x H' y=>?_⟩
  obtain ⟨e,y⟩:=y
  subst e
  exact hs i x ys σ _ (y xs q) hD p
 ·have e : i = xs.length:=by omega
  subst e
  exact .inl ⟨⟨xs,q,Nat.le_refl _⟩,hd ys σ H hD p⟩
end
noncomputable def noteT : Tr→Dt
 | .mk _ n _=>n
theorem tr_eta (t : Tr) : t = .mk t.wd (noteT t) t.ps:=by cases t; rfl
theorem plK_inj {a b : List Nat} (h : plK a = plK b) : a = b:=by
 unfold plK at h
 induction a generalizing b with
 | nil=>cases b with
  | nil=>rfl
  | cons y r=>simp at h
 | cons x l ih=>cases b with
  | nil=>simp at h
  | cons y r =>
   simp only [List.map_cons,List.cons.injEq] at h
   have h1 : x = y:=by have:=Sum.inl.inj h.1; omega
   rw [h1,ih h.2]
noncomputable def lastW (ws : List (List Nat × Tr)) (pl : List Nat) : Option Tr:=(ws.reverse.find? fun x=>decide (x.1 = pl)).map (·.2)
theorem lastW_snoc (l : List (List Nat × Tr)) (x : List Nat × Tr) (pl : List Nat) : lastW (l ++ [x]) pl = if x.1 = pl then some x.2 else lastW l pl:=by
 unfold lastW
 rw [List.reverse_append,List.reverse_singleton,List.singleton_append,List.find?_cons]
 by_cases h : x.1 = pl
 ·simp [h]
 ·simp [h]
theorem lastW_mem {ws : List (List Nat × Tr)} {pl : List Nat} {t : Tr} (h : lastW ws pl = some t) : (pl,t) ∈ ws:=by
 unfold lastW at h
 obtain ⟨x,hx,rfl⟩:=Option.map_eq_some_iff.mp h
 have h1:=List.find?_some hx
 have h2 : x.1 = pl:=of_decide_eq_true h1
 rw [← h2]
 exact List.mem_reverse.mp (List.mem_of_find?_eq_some hx)
theorem forms_of {K : PySem.W.Frag} {H : Hp} : ∀ (rows : List V) (ws : List (List Nat × Tr)),Al (RowT K H) rows ws→∃ kvs : List (List Key × V),Al (fun v (kv : List Key × V)=>∃ a b,v = .ref a∧SqT K H a [.ref b,kv.2]∧H b = some (.tup (kv.1.map kV))) rows kvs ∧
  ∀ pl : List Nat,(lastV kvs (plK pl) = none∧lastW ws pl = none) ∨ ∃ u t,lastV kvs (plK pl) = some u∧lastW ws pl = some t∧TrAt K H u t:=by
 intro rows
 refine snoc_ind (P:=fun rows=>∀ ws,Al (RowT K H) rows ws→∃ kvs : List (List Key × V),Al (fun v (kv : List Key × V)=>∃ a b,v = .ref a∧SqT K H a [.ref b,kv.2]∧H b = some (.tup (kv.1.map kV))) rows kvs ∧
  ∀ pl : List Nat,(lastV kvs (plK pl) = none∧lastW ws pl = none) ∨ ∃ u t,lastV kvs (plK pl) = some u∧lastW ws pl = some t∧TrAt K H u t) ?_ ?_ rows
 ·intro ws al
  have : ws = []:=List.eq_nil_of_length_eq_zero al.1.symm
  subst this
  exact ⟨[],.nil,fun z=>.inl ⟨rfl,rfl⟩⟩
 ·intro l v ih ws al
  obtain ⟨l',v',ws',x,e1,rfl,al',a,p,u,rfl,q,hp,t⟩:=al.last (by simp)
  obtain ⟨rfl,e2⟩:=List.append_inj' e1 rfl
  cases e2
  obtain ⟨kvs,ak,hk⟩:=ih ws' al'
  refine ⟨kvs ++ [(plK x.1,u)],ak.snoc ⟨a,p,rfl,q,by rw [plK_kV]; exact hp⟩,fun pl=>?_⟩
  rw [lastV_snoc,lastW_snoc]
  by_cases hz : x.1 = pl
  ·refine .inr ⟨u,x.2,?_,if_pos hz,t⟩
   rw [if_pos (by rw [hz])]
  ·rw [if_neg hz,if_neg (fun h=>hz (plK_inj h))]
   exact hk pl
end L2
namespace L2
open PySem PySem.Spec PyProof.Rows
noncomputable abbrev zk1 (h : Heap) (l1 : Addr) : Heap:=h.push (lit l1)
noncomputable abbrev zk2 (h : Heap) (l1 l2 : Addr) : Heap:=(zk1 h l1).push (lit l2)
noncomputable abbrev zk3 (h : Heap) (l1 l2 : Addr) : Heap:=(zk2 h l1 l2).push { cls:=.type "tuple",data:=.seq #[.ref h.objs.size,.ref (zk1 h l1).objs.size] }
noncomputable abbrev zk4 (h : Heap) (l1 l2 : Addr) : Heap:=(zk3 h l1 l2).push { cls:=.type "tuple",data:=.seq #[.none,.none] }
noncomputable abbrev zk5 (h : Heap) (l1 l2 : Addr) : Heap:=(zk4 h l1 l2).push { cls:=.type "zip",data:=.fields #[.none,.bool false,.bool false,.ref (zk2 h l1 l2).objs.size,.ref (zk3 h l1 l2).objs.size] }
theorem meets_zipLL (l1 l2 : Addr) (xs ys : Array Value) :
  Meets (Builtin.«zip.__new__» ⟨[.type "zip",.ref l1,.ref l2],[]⟩) (fun _ R s=>s.heap.IsList l1 xs∧s.heap.IsList l2 ys∧R (.ok (.ret (.ref (zk4 s.heap l1 l2).objs.size))) { s with heap:=zk5 s.heap l1 l2 }) :=
 .of_wp fun prog w A R s h=>by
  obtain ⟨hp,g,d,tk,os⟩:=s; obtain ⟨hl1,hl2,h⟩:=h
  have hsub:=sub_zip
  have q1 : Heap.IsList (Shared.heap ⟨hp,g,d,tk,os⟩) l1 xs:=hl1
  have q2 : Heap.IsList (Shared.heap ⟨hp.push { cls:=.type "list_iterator",data:=.fields #[.ref l1,.int 0 0] },g,d,tk,os⟩) l2 ys:=Heap.IsList.push hl2 _
  wp_walk using wpAny_pyIter_list q1,wpAny_pyIter_list q2
  exact ⟨_,rfl,h⟩
theorem call_zipLL {prog : Program} {w : World} {A : Around} {E : Value→Shared→Prop} {s : Shared} {l1 l2 : Addr} {xs ys : Array Value} {Q : Value→Shared→Prop} (hl1 : s.heap.IsList l1 xs) (hl2 : s.heap.IsList l2 ys)
  (h : ∀ h',IsZip h' (s.heap.objs.size + 4) (s.heap.objs.size + 2) (s.heap.objs.size + 3) .none→IsPair h' (s.heap.objs.size + 2) (.ref s.heap.objs.size) (.ref (s.heap.objs.size + 1)) →
   IsPair h' (s.heap.objs.size + 3) .none .none→h'.IsListIter s.heap.objs.size l1 0→h'.IsListIter (s.heap.objs.size + 1) l2 0→h'.objs.size = s.heap.objs.size + 5 →
   (∀ c o,s.heap.get? c = some o→h'.get? c = some o)→Q (.ref (s.heap.objs.size + 4)) { s with heap:=h' }) :
  wpAny (model prog w) A (call (.type "zip") [.ref l1,.ref l2]) Q E s:=by
 refine callType_new PySem.F.called_zip (by decide) (PySem.F.typeCall_zip_2 _ _) (PySem.F.newCall_zip_2 _ _) (fun obj=>PySem.F.args_object_init_3 obj _ _) PySem.F.entry_zip_new (meets_zipLL l1 l2 xs ys) ⟨hl1,hl2,?_⟩
 have y1 : (zk1 s.heap l1).objs.size = s.heap.objs.size + 1:=Heap.size_push ..
 have y2 : (zk2 s.heap l1 l2).objs.size = s.heap.objs.size + 2:=by rw [Heap.size_push,y1]
 have y3 : (zk3 s.heap l1 l2).objs.size = s.heap.objs.size + 3:=by rw [Heap.size_push,y2]
 have y4 : (zk4 s.heap l1 l2).objs.size = s.heap.objs.size + 4:=by rw [Heap.size_push,y3]
 have y5 : (zk5 s.heap l1 l2).objs.size = s.heap.objs.size + 5:=by rw [Heap.size_push,y4]
 have u5 : (zk5 s.heap l1 l2).get? (zk4 s.heap l1 l2).objs.size = some _:=Heap.get?_push_size _ rfl
 have u4 : (zk5 s.heap l1 l2).get? (zk3 s.heap l1 l2).objs.size = some _:=Heap.get?_push_of_some _ (Heap.get?_push_size _ rfl)
 have u3 : (zk5 s.heap l1 l2).get? (zk2 s.heap l1 l2).objs.size = some _:=Heap.get?_push_of_some _ (Heap.get?_push_of_some _ (Heap.get?_push_size _ rfl))
 have u2 : (zk5 s.heap l1 l2).get? (zk1 s.heap l1).objs.size = some _:=Heap.get?_push_of_some _ (Heap.get?_push_of_some _ (Heap.get?_push_of_some _ (Heap.get?_push_size _ rfl)))
 have u1 : (zk5 s.heap l1 l2).get? s.heap.objs.size = some _:=Heap.get?_push_of_some _ (Heap.get?_push_of_some _ (Heap.get?_push_of_some _ (Heap.get?_push_of_some _ (Heap.get?_push_size _ rfl))))
 show _∧_
 rw [y2,y3,y4] at u5
 rw [y1,y2] at u3
 rw [y3] at u4
 rw [y1] at u2
 rw [y4]
 exact ⟨⟨_,u5,rfl⟩,h _ u5 u3 u4 ⟨_,u1,rfl,rfl⟩ ⟨_,u2,rfl,rfl⟩ y5 fun c o x=>Heap.get?_push_of_some _ (Heap.get?_push_of_some _ (Heap.get?_push_of_some _ (Heap.get?_push_of_some _ (Heap.get?_push_of_some _ x))))⟩
noncomputable def JZl (K : PySem.W.Frag) (H0 : Hp) (z TI TO i1 i2 a b : Addr) (xs ys : List V) : Nat→List V→Hp→Heap→Prop:=fun i zs H h =>
 ZpSt h z TI TO i1 i2 i∧(IsPair h TI (.ref i1) (.ref i2)∧∃ o,h.get? TO = some o)∧h.IsListIter i1 a i∧h.IsListIter i2 b i∧(∀ c ∈ [z,TI,TO,i1,i2],H c = none)∧zs.length = i∧ZPairs H xs ys zs∧Same H0 H
theorem src_zipl {X : Cx} {pins : List (Addr × Obj)} {σ : St} {H0 : Hp} {z TI TO i1 i2 a b : Addr} {xs ys : List V} (fp : ∀ c ∈ [z,TI,TO,i1,i2],FpOk X pins H0 c) (D : ZB z TI TO i1 i2 a b) (ha : SqL X.K H0 a xs) (hb : SqL X.K H0 b ys) :
  Src X pins σ z "zip" (min xs.length ys.length) H0 (JZl X.K H0 z TI TO i1 i2 a b xs ys) where
 ty:=fun i zs H h j=>by
  obtain ⟨vs,e⟩:=j.1.obj
  exact ⟨_,e,rfl⟩
 nl:=by decide
 nolen:=zp_nolen
 nohint:=zp_nohint
 self:=fun A s zs H Q E j q=>by
  rcases j.1 with ⟨_,e,_⟩ | ⟨z,_⟩
  ·exact wpAny_pyIter_zip e q
  ·exact absurd z (Nat.lt_irrefl _)
 keep:=fun i zs H h h' S us us' h0 hS j k al=>by
  obtain ⟨j1,⟨j2,jT⟩,j3,j4,j5,j6,j7,j8⟩:=j
  have ne : ∀ c ∈ [z,TI,TO,i1,i2],c ≠ S:=fun c hc e=>by
   have:=j5 c hc
   rw [e,hS] at this
   cases this
  refine ⟨?_,⟨k _ _ (ne TI (by simp)) j2,let ⟨o,e⟩:=jT; ⟨o,k _ _ (ne TO (by simp)) e⟩⟩,j3.at fun o e=>k _ _ (ne i1 (by simp)) e,j4.at fun o e=>k _ _ (ne i2 (by simp)) e,fun c hc=>by rw [upd_ne (ne c hc)]; exact j5 c hc,j6,fun m y hy=>?_,j8.over h0⟩
  ·rcases j1 with ⟨z0,e,u,v,e2⟩ | ⟨z0,a0,oa,f1,e,ea,x1,x2,x3⟩
   ·exact .inl ⟨z0,k _ _ (ne z (by simp)) e,u,v,k _ _ (ne TO (by simp)) e2⟩
   ·by_cases hs : a0 = S
    ·subst hs
     obtain ⟨o,eo⟩:=al
     exact .inr ⟨z0,a0,o,f1,k _ _ (ne z (by simp)) e,eo,x1,x2,x3⟩
    ·exact .inr ⟨z0,a0,oa,f1,k _ _ (ne z (by simp)) e,k _ _ hs ea,x1,x2,x3⟩
  ·obtain ⟨t,x,y',e1,e2,e3,e4⟩:=j7 m y hy
   exact ⟨t,x,y',e1,e2,e3,by rw [upd_ne (ne_of e4 hS (by intro z; cases z))]; exact e4⟩
 fresh:=fun i zs H h j=>j.2.2.2.2.1 z (by simp)
 item:=fun A i s H zs E hh hi I j=>by
  obtain ⟨j1,⟨j2,jT⟩,j3,j4,j5,j6,j7,j8⟩:=j
  obtain ⟨its,rv,p,hz⟩:=I.list (j8.seq ha)
  obtain ⟨its2,rv2,p2,hz2⟩:=I.list (j8.seq hb)
  have g1:=rv.length
  have g2:=rv2.length
  have l1 : i < xs.length:=by omega
  have l2 : i < ys.length:=by omega
  have D1:=Draws.list (prog:=X.prog) (w:=X.w) (A:=A.in1) hh i1 a D.a1 its.toArray
  have D2:=Draws.list (prog:=X.prog) (w:=X.w) (A:=A.in1) hh i2 b D.b2 its2.toArray
  refine zp_next D1 D2 D.za j1 j2 jT ⟨j3,p.isList⟩ ⟨j4,p2.isList⟩ (by rw [List.size_toArray]; omega) (by rw [List.size_toArray]; omega) fun x y h' tk px py a1 aT a2 a3 a4 a5 a6=>?_
  have hx' : its[i]? = some x:=by simpa using px
  have hy' : its2[i]? = some y:=by simpa using py
  obtain ⟨u1,hu1,ru1⟩:=rv.get (List.getElem?_eq_getElem l1)
  obtain ⟨u2,hu2,ru2⟩:=rv2.get (List.getElem?_eq_getElem l2)
  rw [hx'] at hu1
  cases hu1
  rw [hy'] at hu2
  cases hu2
  have hf : H s.heap.objs.size = none:=I.hok.fresh (Nat.le_refl _)
  have fpH : ∀ c ∈ [z,TI,TO,i1,i2],FpOk X pins H c:=fun c hc=>(fp c hc).of (j5 c hc)
  have kk : ∀ c o,c ∉ [z,TI,TO,i1,i2]→s.heap.get? c = some o→h'.get? c = some o:=fun c o hc e=>by
   simp only [List.mem_cons,List.not_mem_nil,or_false,not_or] at hc
   exact a6 c o hc.1 hc.2.2.1 hc.2.2.2.1 hc.2.2.2.2 e
  have I2:=I.pairL (tk:=tk) (T:=s.heap.objs.size) (xs:=[xs[i],ys[i]]) (its:=[x,y]) fpH kk (Nat.le_refl _) (.cons ru1 (.cons ru2 .nil)) (by show 2 ≤ sizeLine; decide) ⟨_,a4,rfl,_,rfl⟩
  have sm : Same H (upd H s.heap.objs.size (.tup [xs[i],ys[i]])):=Same.upd hf
  have lt : ∀ {c o},s.heap.get? c = some o→c ≠ s.heap.objs.size:=fun e=>Nat.ne_of_lt (Heap.lt_size e)
  have nw : ∀ c ∈ [z,TI,TO,i1,i2],c ≠ s.heap.objs.size:=fun c hc=>by
   simp only [List.mem_cons,List.not_mem_nil,or_false] at hc
   rcases hc with rfl | rfl | rfl | rfl | rfl
   ·obtain ⟨_,e⟩:=j1.obj; exact lt e
   ·exact lt j2
   ·obtain ⟨_,e⟩:=jT; exact lt e
   ·obtain ⟨_,e,_⟩:=j3; exact lt e
   ·obtain ⟨_,e,_⟩:=j4; exact lt e
  refine ⟨_,.ref s.heap.objs.size,_,rfl,rfl,I2,⟨a1,⟨a6 _ _ D.TIz D.TITO D.TI1 D.TI2 j2,aT⟩,a2.1,a3.1,fun c hc=>by rw [upd_ne (nw c hc)]; exact j5 c hc,by simp [j6],fun m y hy=>?_,j8.trans sm⟩,fun S us e=>sm S _ e⟩
  by_cases hm : m < i
  ·rw [List.getElem?_append_left (by omega)] at hy
   obtain ⟨t,x,y',e1,e2,e3,e4⟩:=j7 m y hy
   exact ⟨t,x,y',e1,e2,e3,sm _ _ e4⟩
  ·have hlen:=(List.getElem?_eq_some_iff.mp hy).1
   rw [List.length_append,List.length_singleton] at hlen
   have : m = i:=by omega
   subst this
   rw [List.getElem?_append_right (by omega),j6,Nat.sub_self] at hy
   have hy : V.ref s.heap.objs.size = y:=by simpa using hy
   exact ⟨_,xs[m],ys[m],hy.symm,List.getElem?_eq_getElem l1,List.getElem?_eq_getElem l2,upd_same⟩
 done:=fun A s H zs E hh I j=>by
  obtain ⟨j1,⟨j2,jT⟩,j3,j4,j5,j6,j7,j8⟩:=j
  obtain ⟨its,rv,p,hz⟩:=I.list (j8.seq ha)
  obtain ⟨its2,rv2,p2,hz2⟩:=I.list (j8.seq hb)
  have g1:=rv.length
  have g2:=rv2.length
  have D1:=Draws.list (prog:=X.prog) (w:=X.w) (A:=A.in1) hh i1 a D.a1 its.toArray
  have D2:=Draws.list (prog:=X.prog) (w:=X.w) (A:=A.in1) hh i2 b D.b2 its2.toArray
  have fpH : ∀ c ∈ [z,TI,TO,i1,i2],FpOk X pins H c:=fun c hc=>(fp c hc).of (j5 c hc)
  refine zp_end D1 D2 D.za j1 j2 ⟨j3,p.isList⟩ ⟨j4,p2.isList⟩ (by simp only [List.size_toArray]; omega) fun h' tk kk=>⟨rfl,I.turnedL (fun c o hc e=>?_) fpH⟩
  simp only [List.mem_cons,List.not_mem_nil,or_false,not_or] at hc
  exact kk c o hc.1 hc.2.2.1 hc.2.2.2.1 hc.2.2.2.2 e
section
variable {X : Cx}
noncomputable def tListZl (K : PySem.W.Frag) (ta : TA) : TE:=fun σ H Q=>ta σ H fun vs H1=>∃ a b xs ys,vs = [.ref a,.ref b]∧SqL K H1 a xs∧SqL K H1 b ys ∧
 ∀ (S : Addr) (zs : List V) (H2 : Hp),H1 S = none→Same H1 H2→zs.length = min xs.length ys.length→ZPairs H2 xs ys zs→H2 S = some (.lst zs)→Q (.ref S) H2
theorem qe_list_ziplK (K : PySem.W.Frag) {e e2 : Expr} {ta : TA} {p p2 pos pos2 : Pos} (hg : Gl X "list") (hm : X.mg "list" = none) (hg2 : Gl X "zip") (hm2 : X.mg "zip" = none) (ha : QA X [e,e2] ta) (hK : X.K = K:=by rfl) (hc : X.calm = true:=by rfl)
  (hs : starEach [.Call (.Name "zip" p2) [e,e2] [] pos2] X.env = [(false,eval (.Call (.Name "zip" p2) [e,e2] [] pos2) X.env)]:=by rfl) (hs2 : starEach [e,e2] X.env = [(false,eval e X.env),(false,eval e2 X.env)]:=by rfl) (hs3 : starEach [e2] X.env = [(false,eval e2 X.env)]:=by rfl) :
  QE X (.Call (.Name "list" p) [.Call (.Name "zip" p2) [e,e2] [] pos2] [] pos) (tListZl K ta):=by
 subst hK
 refine ⟨fun pins s σ H Q I h=>?_⟩
 refine Call_ (ld_blt I hg hm boot_list' (PyProof.Rows.callWith_type1 ?_ hs rfl))
 rw [hs]
 show wpAny _ _ (spliced ((false,eval (.Call (.Name "zip" p2) [e,e2] [] pos2) X.env) :: [])) _ _ s
 refine Calls.spliced_cons ?_
 refine Call_ (ld_blt I hg2 hm2 PyProof.Rows.boot_zip (PyProof.Rows.callWith_type1 (thn (ha.run pos2 pins s σ H _ I h) fun us s1 ⟨vs,H1,I1,r1,q1⟩=>?_) (by rw [hs2,hs3]) (by rw [hs3]; rfl)))
 obtain ⟨a,b,xs,ys,e1,hq,hq2,q⟩:=q1
 subst e1
 obtain ⟨u,v,rfl,ru,rv⟩:=r1.two
 cases ru
 cases rv
 obtain ⟨its,rv,pl,hz⟩:=I1.list hq
 obtain ⟨its2,rv2,pl2,hz2⟩:=I1.list hq2
 have lt1 : a < s1.heap.objs.size:=by obtain ⟨o,e,_⟩:=pl.isList; exact Heap.lt_size e
 have lt2 : b < s1.heap.objs.size:=by obtain ⟨o,e,_⟩:=pl2.isList; exact Heap.lt_size e
 refine call_zipLL pl.isList pl2.isList fun h' a1 a2 a3 a4 a5 a6 hk=>?_
 refine Calls.spliced_nil ?_
 have fr : ∀ k,FpOk X pins H1 (s1.heap.objs.size + k):=fun k=>I1.fpOk (Nat.le_add_right _ _) (I1.hok.fresh (Nat.le_add_right _ _))
 have fp : ∀ c ∈ [s1.heap.objs.size + 4,s1.heap.objs.size + 2,s1.heap.objs.size + 3,s1.heap.objs.size,s1.heap.objs.size + 1],FpOk X pins H1 c:=fun c hc=>by
  simp only [List.mem_cons,List.not_mem_nil,or_false] at hc
  rcases hc with rfl | rfl | rfl | rfl | rfl
  ·exact fr 4
  ·exact fr 2
  ·exact fr 3
  ·exact fr 0
  ·exact fr 1
 have C:=src_zipl (X:=X) (pins:=pins) (σ:=σ) (H0:=H1) fp (zb_new lt1 lt2) hq hq2
 have I2 : Inv X pins σ H1 { s1 with heap:=h' }:=I1.kept (t':=s1.toks) hk
 refine call_list_src C (by omega) (I1.ok.hd hc) I2 ⟨.inl ⟨rfl,a1,_,_,a3⟩,⟨a2,_,a3⟩,a4,a5,fun c hc=>(fp c hc).1,rfl,fun j y hy=>by simp at hy,Same.refl _⟩ (fun S hge hS h2 k2=>?_) fun S H' zs hS hS' hl' hj=>?_
 ·have sm : Same H1 (upd H1 S (.lst [])):=Same.upd hS
  refine ⟨.inl ⟨rfl,k2 _ _ a1,_,_,k2 _ _ a3⟩,⟨k2 _ _ a2,_,k2 _ _ a3⟩,a4.at fun o e=>k2 _ _ e,a5.at fun o e=>k2 _ _ e,fun c hc=>?_,rfl,fun j y hy=>by simp at hy,sm⟩
  have hge : h'.objs.size ≤ S:=hge
  rw [upd_ne (show c ≠ S from fun z=>?_)]
  ·exact (fp c hc).1
  ·simp only [List.mem_cons,List.not_mem_nil,or_false] at hc
   rcases hc with rfl | rfl | rfl | rfl | rfl <;> exact absurd z (Nat.ne_of_lt (Nat.lt_of_lt_of_le (by omega) hge))
 ·obtain ⟨h,j⟩:=hj
  exact q S zs H' hS j.2.2.2.2.2.2.2 hl' j.2.2.2.2.2.2.1 hS'
theorem s_listzl {K : PySem.W.Frag} {ta : TA} {σ : St} {H : Hp} {Q : VK} (h : ta σ H fun vs H1=>∃ a b xs ys,vs = [.ref a,.ref b]∧SqL K H1 a xs∧SqL K H1 b ys ∧
 ∀ (S : Addr) (zs : List V) (H2 : Hp),H1 S = none→Same H1 H2→zs.length = min xs.length ys.length→ZPairs H2 xs ys zs→H2 S = some (.lst zs)→Q (.ref S) H2) : tListZl K ta σ H Q:=h
end
end L2
namespace L2
open PySem PySem.Spec PySem.Calls PySem.W PyProof.Rows
section
variable {X : Cx}
end
end L2
namespace K19
open PySem L2
inductive Sub : Tr→List Nat→Prop where
 | nil (t : Tr) : Sub t []
 | cons {w : Str} {n : Dt} {ts : List Tr} {j : Nat} {t : Tr} {r : List Nat} (h : ts[j]? = some t) (s : Sub t r) : Sub (.mk w n ts) (j :: r)
noncomputable def path : Tr→List Nat→List Tr
 | t,[]=>[t]
 | .mk w n ps,k :: r=>.mk w n ps :: (match ps[k]? with | some u=>path u r | none=>[])
theorem path_cons {w : Str} {n : Dt} {ts : List Tr} {j : Nat} {t : Tr} {r : List Nat} (h : ts[j]? = some t) : path (.mk w n ts) (j :: r) = .mk w n ts :: path t r:=by rw [path,h]
theorem path_len {t : Tr} {pl : List Nat} (s : Sub t pl) : (path t pl).length = pl.length + 1:=by
 induction s with
 | nil t=>cases t; rfl
 | cons h _ ih=>rw [path_cons h,List.length_cons,ih,List.length_cons]
theorem path_zero (t : Tr) (pl : List Nat) : (path t pl)[0]? = some t:=by
 cases t with
 | mk w n ps=>cases pl <;> rfl
theorem path_at {t : Tr} {pl : List Nat} (s : Sub t pl) : ∀ (i : Nat) (k : Nat),pl[i]? = some k→∃ w n ps u,(path t pl)[i]? = some (.mk w n ps)∧ps[k]? = some u∧(path t pl)[i + 1]? = some u:=by
 induction s with
 | nil t=>intro i k h; simp at h
 | @cons w n ts j u r h s ih =>
  intro i k hk
  rw [path_cons h]
  cases i with
  | zero =>
   have : j = k:=by simpa using hk
   subst this
   exact ⟨w,n,ts,u,rfl,h,by simpa using path_zero u r⟩
  | succ i =>
   obtain ⟨w',n',ps,u',a,b,c⟩:=ih i k (by simpa using hk)
   exact ⟨w',n',ps,u',by simpa using a,b,by simpa using c⟩
noncomputable def withAt : Tr→List Nat→Tr→Tr
 | _,[],f=>f
 | .mk w n ps,k :: r,f=>match ps[k]? with
  | some u=>.mk w n (ps.set k (withAt u r f))
  | none=>.mk w n ps
theorem with_cons {w : Str} {n : Dt} {ts : List Tr} {j : Nat} {t f : Tr} {r : List Nat} (h : ts[j]? = some t) : withAt (.mk w n ts) (j :: r) f = .mk w n (ts.set j (withAt t r f)):=by rw [withAt,h]
theorem with_nil (t f : Tr) : withAt t [] f = f:=by cases t; rfl
theorem with_path {t f : Tr} {pl : List Nat} (s : Sub t pl) : ∀ (m k : Nat) (w : Str) (n : Dt) (ps : List Tr) (u : Tr),pl[m]? = some k→(path t pl)[m]? = some (.mk w n ps)→(path t pl)[m + 1]? = some u→withAt (.mk w n ps) (pl.drop m) f = .mk w n (ps.set k (withAt u (pl.drop (m + 1)) f)):=by
 intro m k w n ps u hk hp hu
 obtain ⟨w',n',ps',u',a,b,c⟩:=path_at s m k hk
 rw [hp] at a
 cases a
 rw [hu] at c
 cases c
 have hl:=(List.getElem?_eq_some_iff.mp hk)
 obtain ⟨g,e⟩:=hl
 rw [List.drop_eq_getElem_cons g,e,with_cons b]
end K19
namespace K51
open PySem L2
noncomputable def top (i : Nat) : Stmt:=PySem.Challenge.pw_gapscribe_k51_one_gap_filled.main.body.getD i (.Pass ⟨0,0,0,0⟩)
noncomputable abbrev s_is_whole : Stmt:=top 6
noncomputable abbrev s_placed_forms : Stmt:=top 8
noncomputable abbrev s_has_part : Stmt:=top 9
noncomputable abbrev s_forms_down_to : Stmt:=top 10
noncomputable abbrev s_form_at : Stmt:=top 11
noncomputable abbrev s_with_part : Stmt:=top 12
noncomputable abbrev s_with_at : Stmt:=top 13
noncomputable abbrev s_refuse_no_gap : Stmt:=top 15
noncomputable abbrev s_is_finished : Stmt:=top 17
noncomputable abbrev s_names_bound : Stmt:=top 19
noncomputable abbrev s_are_numbers : Stmt:=top 24
noncomputable abbrev s_reckoned : Stmt:=top 25
noncomputable abbrev s_Machine_init : Stmt:=match top 26 with
 | .ClassDef _ _ _ b _ _ _ _ _ _ _=>b.getD 0 (.Pass ⟨0,0,0,0⟩)
 | s=>s
noncomputable abbrev s_Machine_make_steps : Stmt:=match top 26 with
 | .ClassDef _ _ _ b _ _ _ _ _ _ _=>b.getD 1 (.Pass ⟨0,0,0,0⟩)
 | s=>s
noncomputable abbrev s_Machine_new_row : Stmt:=match top 26 with
 | .ClassDef _ _ _ b _ _ _ _ _ _ _=>b.getD 2 (.Pass ⟨0,0,0,0⟩)
 | s=>s
noncomputable abbrev s_Machine_thing_of_form : Stmt:=match top 26 with
 | .ClassDef _ _ _ b _ _ _ _ _ _ _=>b.getD 3 (.Pass ⟨0,0,0,0⟩)
 | s=>s
noncomputable abbrev s_Machine_thing_of_parts : Stmt:=match top 26 with
 | .ClassDef _ _ _ b _ _ _ _ _ _ _=>b.getD 4 (.Pass ⟨0,0,0,0⟩)
 | s=>s
noncomputable abbrev s_Machine_thing_at_the_end : Stmt:=match top 26 with
 | .ClassDef _ _ _ b _ _ _ _ _ _ _=>b.getD 5 (.Pass ⟨0,0,0,0⟩)
 | s=>s
noncomputable abbrev s_Machine_come_to : Stmt:=match top 26 with
 | .ClassDef _ _ _ b _ _ _ _ _ _ _=>b.getD 6 (.Pass ⟨0,0,0,0⟩)
 | s=>s
noncomputable abbrev s_Machine_thing_of_leaf : Stmt:=match top 26 with
 | .ClassDef _ _ _ b _ _ _ _ _ _ _=>b.getD 7 (.Pass ⟨0,0,0,0⟩)
 | s=>s
noncomputable abbrev s_Machine_go_further : Stmt:=match top 26 with
 | .ClassDef _ _ _ b _ _ _ _ _ _ _=>b.getD 8 (.Pass ⟨0,0,0,0⟩)
 | s=>s
noncomputable abbrev s_Machine_taken_things : Stmt:=match top 26 with
 | .ClassDef _ _ _ b _ _ _ _ _ _ _=>b.getD 9 (.Pass ⟨0,0,0,0⟩)
 | s=>s
noncomputable abbrev s_Machine_is_function : Stmt:=match top 26 with
 | .ClassDef _ _ _ b _ _ _ _ _ _ _=>b.getD 10 (.Pass ⟨0,0,0,0⟩)
 | s=>s
noncomputable abbrev s_Machine_call : Stmt:=match top 26 with
 | .ClassDef _ _ _ b _ _ _ _ _ _ _=>b.getD 11 (.Pass ⟨0,0,0,0⟩)
 | s=>s
noncomputable abbrev s_Machine_go_within : Stmt:=match top 26 with
 | .ClassDef _ _ _ b _ _ _ _ _ _ _=>b.getD 12 (.Pass ⟨0,0,0,0⟩)
 | s=>s
noncomputable abbrev s_thing_now : Stmt:=top 28
noncomputable abbrev s_thing_of_row : Stmt:=top 29
noncomputable abbrev s_go_on : Stmt:=top 30
noncomputable abbrev s_law_cell : Stmt:=top 32
noncomputable abbrev s_law_mixed : Stmt:=top 33
noncomputable abbrev s_law_same : Stmt:=top 34
noncomputable abbrev s_law_names : Stmt:=top 35
noncomputable abbrev s_law_number : Stmt:=top 36
noncomputable abbrev s_law_odd : Stmt:=top 37
noncomputable abbrev s_law_leaf : Stmt:=top 38
noncomputable abbrev s_law_comes : Stmt:=top 39
noncomputable abbrev s_law_joined : Stmt:=top 40
noncomputable abbrev s_law_record : Stmt:=top 41
noncomputable abbrev s_law : Stmt:=top 42
structure Txt (K : PySem.W.Frag) (mg : Str→Option Value) : Prop where
 isinstance : mg "isinstance" = none
 int : mg "int" = none
 bool : mg "bool" = none
 reversed : mg "reversed" = none
 list : mg "list" = none
 enumerate : mg "enumerate" = none
 len : mg "len" = none
 zip : mg "zip" = none
 all : mg "all" = none
 tuple : mg "tuple" = none
 range : mg "range" = none
 str : mg "str" = none
 dict : mg "dict" = none
end K51
namespace K51
open PySem L2
structure Script (K : PySem.W.Frag) (H : Hp) (a : Addr) : Prop where
 ex : ∃ ns : List Int,SqL K H a (ns.map V.int)∧ns.length ≤ 63
theorem Script.same {K : PySem.W.Frag} {H H' : Hp} {a : Addr} (S : Script K H a) (h : Same H H') : Script K H' a:=by
 obtain ⟨ns,q,l⟩:=S.ex
 exact ⟨ns,h.seq q,l⟩
theorem big : 100000 ≤ sizeLine:=by decide
end K51
local macro_rules | `(tactic| walk_at "r1")=>`(tactic| (first | (with_reducible first | refine L2.s_seq ?_ | refine L2.s_asg ?_ | refine L2.s_ret ?_ | refine L2.s_ifS ?_ | refine L2.s_test ?_ | refine L2.s_op ?_ | refine L2.s_c ?_ | refine L2.s_cons ?_ | refine L2.s_nil ?_ | refine L2.s_call ?_ | refine L2.s_cb ?_ | refine L2.s_gname ?_ | refine L2.s_ex ?_ | refine L2.s_exi ?_ | refine L2.s_drop ?_ | refine L2.s_next ?_ | refine L2.s_un ?_ | refine L2.s_tB ?_ | refine L2.s_not ?_ | refine L2.s_and ?_ | refine L2.s_or ?_ | refine L2.s_andV ?_ | refine L2.s_orV ?_ | refine L2.s_notV ?_ | refine L2.s_vals ?_ | refine L2.s_tup ?_ | refine L2.s_lst ?_ | refine L2.s_bm ?_ | refine L2.s_bm0 ?_ | refine L2.s_sl ?_ | refine L2.s_po ?_ | refine L2.s_po0 ?_ | refine L2.s_gcons ?_ | refine L2.s_gnil ?_ | refine L2.s_gsub ?_ | refine L2.s_isN ?_ | refine L2.s_notN ?_ | refine L2.s_rI0 ?_ | refine L2.s_rU ?_ | refine L2.s_add_int ?_ | refine L2.s_lt ?_ | refine L2.s_le ?_ | refine L2.iteT ?_ | refine L2.iteF ?_ | refine L2.s_comp ?_ | refine L2.s_for ?_ | refine L2.s_rng1 ?_ | refine L2.s_rng3 ?_ | refine L2.s_exr ?_ | refine L2.s_iany ?_ | refine L2.s_irev ?_ | refine L2.s_ienum ?_ | refine L2.s_listen ?_ | refine L2.s_listrev ?_ | refine L2.s_izip ?_ | refine L2.s_ienumT ?_ | refine L2.s_listzp ?_ | refine L2.s_ipI ?_ | refine L2.s_yes ?_ | refine L2.s_turn ?_ | refine L2.s_int_b ?_ | refine L2.s_intb ?_ | refine L2.s_truth ?_ | refine L2.s_chain ?_ | refine L2.s_nt ?_ | refine L2.s_nf ?_) | ((with_reducible refine' L2.s_var ?e ?_); (case e=>exact rfl)) | ((with_reducible refine' L2.s_aug ?e ?_); (case e=>exact rfl)) | ((with_reducible refine' L2.s_eq ?e ?_); (case e=>exact rfl)) | ((with_reducible refine' L2.s_ne ?e ?_); (case e=>exact rfl)) | ((with_reducible refine' L2.s_neb ?e ?_); (case e=>exact rfl)) | ((with_reducible refine' L2.s_rI ?c ?_); (case c=>first | decide | exact ⟨by decide,by decide⟩ | exact ⟨by decide,by decide,by decide⟩)) | ((with_reducible refine' L2.s_mul_r ?a ?b ?_); (case a=>decide); (case b=>decide)) | ((with_reducible refine' L2.s_mul_l ?a ?b ?_); (case a=>decide); (case b=>decide)) | ((with_reducible refine' L2.s_exr3 ?e ?_); (case e=>decide))))
local macro_rules | `(tactic| walk_at "r")=>`(tactic| (repeat walk_at "r1"))
namespace K51
open PySem L2
section
variable {P : Program} {w : World} {K : PySem.W.Frag} {mg : Str→Option Value} {base : Heap}
noncomputable def sp_cell (K : PySem.W.Frag) : Sp:=fun vs H Q _=>∃ (a : Addr) (k : Int),vs = [.ref a,.int k]∧Script K H a∧0 ≤ k∧k ≤ 1000∧∀ z : Int,Q (.int z) H
theorem sc_law_cell : FnScope ["_law_script", "_law_k"] ["_law_script", "_law_k"] (defScope s_law_cell):=⟨rfl,rfl,rfl,by decide +kernel,rfl,by decide +kernel,by decide +kernel⟩
theorem ok_cell {f : Addr} {fd : FuncData} (F : Fun K "_law_cell" "_law_cell" s_law_cell f fd) (T : Txt K mg) : FnOk P w K mg base CX0 1 f fd ["_law_script", "_law_k"] (sp_cell K):=by
 refine F.okq sc_law_cell (fun vs H Q E h=>?_) (fun cdv A outer s H vs Q E hr h=>?_)
 ·obtain ⟨a,k,rfl,_⟩:=h
  rfl
 ·obtain ⟨a,k,rfl,S,h0,h9,q⟩:=h
  obtain ⟨ns,hS,hl⟩:=S.ex
  refine ⟨_,qss_cons (qs_if (qt_cmpR op_ltA (qv 1) (qe_callB (k_len K) (by rfl) T.len (by decide +kernel) (qa_cons (qv 0) qa_nil)) (nomark _)) (qss_one (qs_ret (qe_ix (k_ix K) (qv 0) (qv 1) (fun _ _=>rfl)))) (qss_nil))
   (qss_one (qs_ret (qe_op (k_add K) (qe_op op_mulA (qv 1) (qe_int)) (qe_int)))),?_⟩
  walk_at "r"
  refine s_len_lst hS ?_
  walk_at "r"
  refine ite2 (fun h=>?_) (fun h=>?_)
  ·have h1 : k < (ns.map V.int).length:=by simpa using h
   obtain ⟨v,hv,m⟩:=atI_in h0 h1
   obtain ⟨z,_,rfl⟩:=List.mem_map.mp m
   walk_at "r"
   exact s_ix_lst hS hv (q z)
  ·walk_at "r"
   exact q _
noncomputable def sp_mixed : Sp:=fun vs H Q _=>∃ (c k : Int),vs = [.int c,.int k]∧0 ≤ k∧k ≤ 1000∧∀ z : Int,0 ≤ z→z < 999999999999999989→Q (.int z) H
theorem sc_law_mixed : FnScope ["_law_cell_here", "_law_k"] ["_law_cell_here", "_law_k"] (defScope s_law_mixed):=⟨rfl,rfl,rfl,by decide +kernel,rfl,by decide +kernel,by decide +kernel⟩
theorem ok_mixed {f : Addr} {fd : FuncData} (F : Fun K "_law_mixed" "_law_mixed" s_law_mixed f fd) (T : Txt K mg) : FnOk P w K mg base CX0 1 f fd ["_law_cell_here", "_law_k"] sp_mixed:=by
 refine F.okq sc_law_mixed (fun vs H Q E h=>?_) (fun cdv A outer s H vs Q E hr h=>?_)
 ·obtain ⟨a,k,rfl,_⟩:=h
  rfl
 ·obtain ⟨a,k,rfl,h0,h9,q⟩:=h
  refine ⟨_,qss_one (qs_ret (qe_op op_mod (qe_op op_mulA (qe_op (k_add K) (qe_op (k_add K) (qv 0) (qe_op op_mulA (qe_int) (qv 1))) (qe_int)) (qe_int)) (qe_int))),?_⟩
  walk_at "r"
  exact q _ (Int.emod_nonneg _ (by decide)) (Int.emod_lt_of_pos _ (by decide))
noncomputable def sp_same (K : PySem.W.Frag) (n : Nat) : Sp:=fun vs H Q _=>∃ (x y : V) (d : Dt) (m : Nat),vs = [x,y]∧m < n∧IsD K H m x d∧IsD K H m y d∧DOk d∧∀ H',Same H H'→Q (.bl true) H'
theorem sc_law_same : FnScope ["_law_found", "_law_due", "_law_k"] ["_law_found", "_law_due"] (defScope s_law_same):=⟨rfl,rfl,rfl,by decide +kernel,rfl,by decide +kernel,by decide +kernel⟩
theorem ok_same {n : Nat} {f : Addr} {fd : FuncData} (F : Fun K "_law_same" "_law_same" s_law_same f fd) (T : Txt K mg) (C__law_same : Callee P w K mg base (n + 1) "_law_same" ["_law_found", "_law_due"] (sp_same K n)) : FnOk P w K mg base CX0 (n + 2) f fd ["_law_found", "_law_due"] (sp_same K (n + 1)):=by
 refine F.okq sc_law_same (fun vs H Q E h=>?_) (fun cdv A outer s H vs Q E hr h=>?_)
 ·obtain ⟨x,y,d,m,rfl,_⟩:=h
  rfl
 ·obtain ⟨x,y,d,m,rfl,hm,hx,hy,hd,q⟩:=h
  refine ⟨_,qss_cons (qs_if (QW.qt (qw_or (qt_val (qe_callB (k_isi K "bool") (by rfl) T.isinstance (by decide +kernel) (qa_cons (qv 0) (qa_cons (qe_bltn (v:=.ty "bool") (by rfl) T.bool (by decide +kernel) rfl) qa_nil)))) (qw_or1 (qt_val (qe_callB (k_isi K "bool") (by rfl) T.isinstance (by decide +kernel) (qa_cons (qv 1) (qa_cons (qe_bltn (v:=.ty "bool") (by rfl) T.bool (by decide +kernel) rfl) qa_nil))))))) (qss_one (qs_ret (qe_and (qe_callB (k_isi K "bool") (by rfl) T.isinstance (by decide +kernel) (qa_cons (qv 0) (qa_cons (qe_bltn (v:=.ty "bool") (by rfl) T.bool (by decide +kernel) rfl) qa_nil))) (qe_and (qe_callB (k_isi K "bool") (by rfl) T.isinstance (by decide +kernel) (qa_cons (qv 1) (qa_cons (qe_bltn (v:=.ty "bool") (by rfl) T.bool (by decide +kernel) rfl) qa_nil))) (qe_one (qe_cmpR (k_eq K hr.u200) (qv 0) (qv 1) (nomark _))))))) (qss_nil))
   (qss_cons (qs_if (QW.qt (qw_or (qt_val (qe_callB (k_isi K "list") (by rfl) T.isinstance (by decide +kernel) (qa_cons (qv 1) (qa_cons (qe_bltn (v:=.ty "list") (by rfl) T.list (by decide +kernel) rfl) qa_nil)))) (qw_or1 (qt_val (qe_callB (k_isi K "tuple") (by rfl) T.isinstance (by decide +kernel) (qa_cons (qv 1) (qa_cons (qe_bltn (v:=.ty "tuple") (by rfl) T.tuple (by decide +kernel) rfl) qa_nil))))))) (qss_cons (qs_if (QW.qt (qw_and (qt_not (qt_val (qe_callB (k_isi K "list") (by rfl) T.isinstance (by decide +kernel) (qa_cons (qv 0) (qa_cons (qe_bltn (v:=.ty "list") (by rfl) T.list (by decide +kernel) rfl) qa_nil))))) (qw_and1 (qt_not (qt_val (qe_callB (k_isi K "tuple") (by rfl) T.isinstance (by decide +kernel) (qa_cons (qv 0) (qa_cons (qe_bltn (v:=.ty "tuple") (by rfl) T.tuple (by decide +kernel) rfl) qa_nil)))))))) (qss_one (qs_ret (qe_bl))) (qss_nil))
   (qss_cons (qs_if (QW.qt (qw_or (qt_cmpR (k_ne K hr.u200) (qe_callB (k_isi K "list") (by rfl) T.isinstance (by decide +kernel) (qa_cons (qv 0) (qa_cons (qe_bltn (v:=.ty "list") (by rfl) T.list (by decide +kernel) rfl) qa_nil))) (qe_callB (k_isi K "list") (by rfl) T.isinstance (by decide +kernel) (qa_cons (qv 1) (qa_cons (qe_bltn (v:=.ty "list") (by rfl) T.list (by decide +kernel) rfl) qa_nil))) (nomark _)) (qw_or1 (qt_cmpR (k_ne K hr.u200) (qe_callB (k_len K) (by rfl) T.len (by decide +kernel) (qa_cons (qv 0) qa_nil)) (qe_callB (k_len K) (by rfl) T.len (by decide +kernel) (qa_cons (qv 1) qa_nil)) (nomark _))))) (qss_one (qs_ret (qe_bl))) (qss_nil))
   (qss_cons (qs_for PassesOwn.never rfl (qi_range1 rfl T.range (qa_cons (qe_callB (k_len K) (by rfl) T.len (by decide +kernel) (qa_cons (qv 1) qa_nil)) qa_nil)) (qg_name (i:=2) sc_law_same.nd rfl (Or.inl rfl)) (qss_one (qs_if (qt_not (qt_val (qe_fn C__law_same (hr.mono (by omega)) (qa_cons (qe_ix (k_ix K) (qv 0) (qv 2) (fun _ _=>rfl)) (qa_cons (qe_ix (k_ix K) (qv 1) (qv 2) (fun _ _=>rfl)) qa_nil))))) (qss_one (qs_ret (qe_bl))) (qss_nil))))
   (qss_one (qs_ret (qe_bl)))))) (qss_nil))
   (qss_cons (qs_if (qt_val (qe_callB (k_isi K "str") (by rfl) T.isinstance (by decide +kernel) (qa_cons (qv 1) (qa_cons (qe_bltn (v:=.ty "str") (by rfl) T.str (by decide +kernel) rfl) qa_nil)))) (qss_one (qs_ret (qe_and (qe_callB (k_isi K "str") (by rfl) T.isinstance (by decide +kernel) (qa_cons (qv 0) (qa_cons (qe_bltn (v:=.ty "str") (by rfl) T.str (by decide +kernel) rfl) qa_nil))) (qe_one (qe_cmpR (k_eq K hr.u200) (qv 0) (qv 1) (nomark _)))))) (qss_nil))
   (qss_cons (qs_if (qt_val (qe_callB (k_isi K "int") (by rfl) T.isinstance (by decide +kernel) (qa_cons (qv 1) (qa_cons (qe_bltn (v:=.ty "int") (by rfl) T.int (by decide +kernel) rfl) qa_nil)))) (qss_one (qs_ret (qe_and (qe_callB (k_isi K "int") (by rfl) T.isinstance (by decide +kernel) (qa_cons (qv 0) (qa_cons (qe_bltn (v:=.ty "int") (by rfl) T.int (by decide +kernel) rfl) qa_nil))) (qe_one (qe_cmpR (k_eq K hr.u200) (qv 0) (qv 1) (nomark _)))))) (qss_nil))
   (qss_one (qs_ret (qe_and (qe_cmp (qc_isN (qv 0))) (qe_one (qe_cmp (qc_isN (qv 1)))))))))),?_⟩
  have bg:=big
  cases hx with
  | flat hv =>
   cases hy with
   | flat _ =>
   cases x with
   | non =>
    walk_at "r"
    refine s_isi (b:=false) .non rfl ?_
    walk_at "r"
    refine s_isi (b:=false) .non rfl ?_
    walk_at "r"
    refine s_isi (b:=false) .non rfl ?_
    walk_at "r"
    refine s_isi (b:=false) .non rfl ?_
    walk_at "r"
    refine s_isi (b:=false) .non rfl ?_
    walk_at "r"
    refine s_isi (b:=false) .non rfl ?_
    walk_at "r"
    rw [decide_eq_true (Eq.refl _)]
    walk_at "r"
    rw [decide_eq_true (Eq.refl _)]
    walk_at "r"
    exact q H (Same.refl _)
   | bl b =>
    walk_at "r"
    refine s_isi (b:=true) (.bl b) rfl ?_
    walk_at "r"
    refine s_isi (b:=true) (.bl b) rfl ?_
    walk_at "r"
    refine s_isi (b:=true) (.bl b) rfl ?_
    walk_at "r"
    rw [decide_eq_true (Eq.refl _)]
    walk_at "r"
    exact q H (Same.refl _)
   | int b =>
    walk_at "r"
    refine s_isi (b:=false) (.int b) rfl ?_
    walk_at "r"
    refine s_isi (b:=false) (.int b) rfl ?_
    walk_at "r"
    refine s_isi (b:=false) (.int b) rfl ?_
    walk_at "r"
    refine s_isi (b:=false) (.int b) rfl ?_
    walk_at "r"
    refine s_isi (b:=false) (.int b) rfl ?_
    walk_at "r"
    refine s_isi (b:=true) (.int b) rfl ?_
    walk_at "r"
    refine s_isi (b:=true) (.int b) rfl ?_
    walk_at "r"
    rw [decide_eq_true (Eq.refl _)]
    walk_at "r"
    exact q H (Same.refl _)
   | str b =>
    walk_at "r"
    refine s_isi (b:=false) (.str b) rfl ?_
    walk_at "r"
    refine s_isi (b:=false) (.str b) rfl ?_
    walk_at "r"
    refine s_isi (b:=false) (.str b) rfl ?_
    walk_at "r"
    refine s_isi (b:=false) (.str b) rfl ?_
    walk_at "r"
    refine s_isi (b:=true) (.str b) rfl ?_
    walk_at "r"
    refine s_isi (b:=true) (.str b) rfl ?_
    walk_at "r"
    rw [decide_eq_true (Eq.refl _)]
    walk_at "r"
    exact q H (Same.refl _)
   | _=>exact absurd hv (by simp [flatV])
  | @tup k a vs ds qa la ha =>
   cases hy with
   | @tup _ c ws _ qc lc hc =>
   cases hd with
   | tup hl hds =>
   walk_at "r"
   refine s_isiT (b:=false) qa rfl ?_
   walk_at "r"
   refine s_isiT (b:=false) qc rfl ?_
   walk_at "r"
   refine s_isiT (b:=false) qc rfl ?_
   walk_at "r"
   refine s_isiT (b:=true) qc rfl ?_
   walk_at "r"
   refine s_isiT (b:=false) qa rfl ?_
   walk_at "r"
   refine s_isiT (b:=true) qa rfl ?_
   walk_at "r"
   refine s_isiT (b:=false) qa rfl ?_
   walk_at "r"
   refine s_isiT (b:=false) qc rfl ?_
   walk_at "r"
   rw [decide_eq_true (Eq.refl _)]
   walk_at "r"
   refine s_len_tup qa ?_
   walk_at "r"
   refine s_len_tup qc ?_
   walk_at "r"
   rw [la,lc,decide_eq_true (Eq.refl _)]
   walk_at "r"
   refine s_len_tup qc ?_
   walk_at "r"
   rw [lc]
   refine ⟨by omega,by omega,?_⟩
   refine for_range (n:=(ds.length : Int).toNat) (fun i σ' H'=>∃ v2,σ' = [some (.ref a),some (.ref c),v2]∧Same H H') ⟨none,rfl,Same.refl _⟩ ?_ ?_
   ·rintro i σ' H' hi ⟨v2,rfl,sm⟩
    have hi : i < ds.length:=by omega
    have e0 : (0 : Int) + (i : Int) = ((i : Nat) : Int):=by omega
    rw [e0]
    have hiv : i < vs.length:=by omega
    have hiw : i < ws.length:=by omega
    walk_at "r"
    refine s_ix_tup (sm.tup qa) (atI_nat (List.getElem?_eq_getElem hiv)) ?_
    walk_at "r"
    refine s_ix_tup (sm.tup qc) (atI_nat (List.getElem?_eq_getElem hiw)) ?_
    walk_at "r"
    refine ⟨vs[i],ws[i],ds[i],k,rfl,by omega,(ha i _ _ (List.getElem?_eq_getElem hiv) (List.getElem?_eq_getElem hi)).same sm,(hc i _ _ (List.getElem?_eq_getElem hiw) (List.getElem?_eq_getElem hi)).same sm,hds _ (List.getElem_mem hi),fun H2 s2=>?_⟩
    walk_at "r"
    exact ⟨_,rfl,sm.trans s2⟩
   ·rintro σ' H' ⟨v2,rfl,sm⟩
    walk_at "r"
    exact q H' sm
  | @lst k a vs ds qa la ha =>
   cases hy with
   | @lst _ c ws _ qc lc hc =>
   cases hd with
   | lst hl hds =>
   walk_at "r"
   refine s_isiL (b:=false) qa rfl ?_
   walk_at "r"
   refine s_isiL (b:=false) qc rfl ?_
   walk_at "r"
   refine s_isiL (b:=true) qc rfl ?_
   walk_at "r"
   refine s_isiL (b:=true) qa rfl ?_
   walk_at "r"
   refine s_isiL (b:=true) qa rfl ?_
   walk_at "r"
   refine s_isiL (b:=true) qc rfl ?_
   walk_at "r"
   rw [decide_eq_true (Eq.refl _)]
   walk_at "r"
   refine s_len_lst qa ?_
   walk_at "r"
   refine s_len_lst qc ?_
   walk_at "r"
   rw [la,lc,decide_eq_true (Eq.refl _)]
   walk_at "r"
   refine s_len_lst qc ?_
   walk_at "r"
   rw [lc]
   refine ⟨by omega,by omega,?_⟩
   refine for_range (n:=(ds.length : Int).toNat) (fun i σ' H'=>∃ v2,σ' = [some (.ref a),some (.ref c),v2]∧Same H H') ⟨none,rfl,Same.refl _⟩ ?_ ?_
   ·rintro i σ' H' hi ⟨v2,rfl,sm⟩
    have hi : i < ds.length:=by omega
    have e0 : (0 : Int) + (i : Int) = ((i : Nat) : Int):=by omega
    rw [e0]
    have hiv : i < vs.length:=by omega
    have hiw : i < ws.length:=by omega
    walk_at "r"
    refine s_ix_lst (sm.seq qa) (atI_nat (List.getElem?_eq_getElem hiv)) ?_
    walk_at "r"
    refine s_ix_lst (sm.seq qc) (atI_nat (List.getElem?_eq_getElem hiw)) ?_
    walk_at "r"
    refine ⟨vs[i],ws[i],ds[i],k,rfl,by omega,(ha i _ _ (List.getElem?_eq_getElem hiv) (List.getElem?_eq_getElem hi)).same sm,(hc i _ _ (List.getElem?_eq_getElem hiw) (List.getElem?_eq_getElem hi)).same sm,hds _ (List.getElem_mem hi),fun H2 s2=>?_⟩
    walk_at "r"
    exact ⟨_,rfl,sm.trans s2⟩
   ·rintro σ' H' ⟨v2,rfl,sm⟩
    walk_at "r"
    exact q H' sm
noncomputable def LETS : Str:="abcdefghijklmnopqrstuvwxyz_"
theorem lets_len : LETS.cps.toList.length = 27:=by decide +kernel
theorem lets_size : LETS.length ≤ sizeLine:=by decide +kernel
theorem catlen (u v : Str) : (u ++ v).length = u.length + v.length:=by
 show (u.cps ++ v.cps).size = _
 simp [Str.length]
theorem one_len (c : Nat) : (⟨#[c]⟩ : Str).length = 1:=rfl
noncomputable def sp_names : Sp:=fun vs H Q _=>∃ (a : Int),vs = [.int a,.int 3]∧∀ (p : Addr) (t0 t1 t2 : Str) (H' : Hp),Same H H'→H p = none→H' p = some (.lst [.str t0,.str t1,.str t2])→Q (.ref p) H'
theorem sc_law_names : FnScope ["_law_cell_here", "_law_many", "_law_signs", "_law_kept", "_law_size", "_law_at", "_law_names_here", "_law_k", "_law_word", "_law_j", "_law_step"] ["_law_cell_here", "_law_many"] (defScope s_law_names):=⟨rfl,rfl,rfl,by decide +kernel,rfl,by decide +kernel,by decide +kernel⟩
theorem three {α : Type} {xs : List α} (h : xs.length = 3) : ∃ a b c,xs = [a,b,c]:=by
 match xs,h with
 | [a,b,c],_=>exact ⟨a,b,c,rfl⟩
noncomputable def KEPT : List V:=[.str "let",.str "in",.str "if",.str "then",.str "else",.str "fn",.str "rec",.str "yes",.str "no"]
noncomputable def NmJ (H : Hp) (a : Int) (D p : Addr) (j : Nat) (σ' : St) (H' : Hp) : Prop:=∃ (v7 v8 v9 v10 : Option V) (ts : List Str),σ' = [some (.int a),some (.int 3),some (.str LETS),some (.ref D),some (.int (1 + a % 8)),some (.int (a / 8 % (1 + a % 8))),some (.ref p),v7,v8,v9,v10]∧H' D = some (.lst KEPT)∧H' p = some (.lst (ts.map V.str))∧ts.length = j∧Same H H'
theorem ok_names {f : Addr} {fd : FuncData} (F : Fun K "_law_names" "_law_names" s_law_names f fd) (T : Txt K mg) (C__law_mixed : Callee P w K mg base 1 "_law_mixed" ["_law_cell_here", "_law_k"] sp_mixed) : FnOk P w K mg base CX0 2 f fd ["_law_cell_here", "_law_many"] sp_names:=by
 refine F.okq sc_law_names (fun vs H Q E h=>?_) (fun cdv A outer s H vs Q E hr h=>?_)
 ·obtain ⟨a,rfl,_⟩:=h
  rfl
 ·obtain ⟨a0,rfl,q⟩:=h
  refine ⟨_,qss_cons (qs_set (i:=2) sc_law_names.nd rfl (Or.inl rfl) (qe_str))
   (qss_cons (qs_set (i:=3) sc_law_names.nd rfl (Or.inl rfl) (qe_lst (qa_consts (xs:=[.str "let",.str "in",.str "if",.str "then",.str "else",.str "fn",.str "rec",.str "yes",.str "no"]) rfl)))
   (qss_cons (qs_set (i:=0) sc_law_names.nd rfl (Or.inl rfl) (qe_fn C__law_mixed (hr.mono (by decide)) (qa_cons (qv 0) (qa_cons (qe_int) qa_nil))))
   (qss_cons (qs_set (i:=4) sc_law_names.nd rfl (Or.inl rfl) (qe_op (k_add K) (qe_int) (qe_op op_mod (qv 0) (qe_int))))
   (qss_cons (qs_set (i:=5) sc_law_names.nd rfl (Or.inl rfl) (qe_op op_mod (qe_op op_fdiv (qv 0) (qe_int)) (qv 4)))
   (qss_cons (qs_set (i:=6) sc_law_names.nd rfl (Or.inl rfl) (qe_lst (qa_nil)))
   (qss_cons (qs_for PassesOwn.never rfl (qi_range1 rfl T.range (qa_cons (qv 1) qa_nil)) (qg_name (i:=7) sc_law_names.nd rfl (Or.inl rfl)) (qss_cons (qs_set (i:=8) sc_law_names.nd rfl (Or.inl rfl) (qe_str))
   (qss_cons (qs_for PassesOwn.never rfl (qi_range1 rfl T.range (qa_cons (qv 4) qa_nil)) (qg_name (i:=9) sc_law_names.nd rfl (Or.inl rfl)) (qss_cons (qs_set (i:=10) sc_law_names.nd rfl (Or.inl rfl) (qe_op (k_add K) (qe_op op_fdiv (qe_op op_fdiv (qv 0) (qe_int)) (qe_op (k_add K) (qv 9) (qe_int))) (qe_op op_mulA (qe_int) (qv 9))))
   (qss_one (qs_set (i:=8) sc_law_names.nd rfl (Or.inl rfl) (qe_op (k_add K) (qv 8) (qe_ix (k_ix K) (qv 2) (qe_op op_mod (qe_op (k_add K) (qv 10) (qe_op op_mulA (qv 7) (qe_callTy k_int (by rfl) T.int (by decide +kernel) (qa_cons (qe_cmpR (k_eq K hr.u200) (qv 9) (qv 5) (nomark _)) qa_nil)))) (qe_int)) (fun _ _=>rfl)))))))
   (qss_cons (qs_if (qt_cmpR (k_in K) (qv 8) (qv 3) (by rfl)) (qss_one (qs_set (i:=8) sc_law_names.nd rfl (Or.inl rfl) (qe_op (k_add K) (qv 8) (qe_str)))) (qss_nil))
   (qss_one (qs_expr (qe_bmK K PySem.F.plainAttrs_list PySem.F.slot_list_append PySem.F.type_list_append mt_append (qv 6) (qa_cons (qv 8) qa_nil))))))))
   (qss_one (qs_ret (qv 6))))))))),?_⟩
  have bg:=big
  walk_at "r"
  refine ⟨by show 9 ≤ sizeLine; decide,fun D hD=>?_⟩
  walk_at "r"
  refine ⟨a0,3,rfl,by decide,by decide,fun a ha0 ha1=>?_⟩
  have hs0 : 0 ≤ a % 8:=Int.emod_nonneg a (by decide)
  have hs1 : a % 8 < 8:=Int.emod_lt_of_pos a (by decide)
  walk_at "r"
  refine s_rI (by show (0 : Int) < 1 + a % 8; omega) ?_
  walk_at "r"
  refine ⟨by show 0 ≤ sizeLine; decide,fun p hp=>?_⟩
  have hpD : D ≠ p:=fun z=>by rw [← z,upd_same] at hp; cases hp
  have hp0 : H p = none:=(Same.upd hD).free hp
  have sm0 : Same H (upd (upd H D (.lst KEPT)) p (.lst [])):=(Same.upd (o:=.lst KEPT) hD).put hp
  have hD0 : upd (upd H D (.lst KEPT)) p (.lst []) D = some (.lst KEPT):=by rw [upd_ne hpD]; exact upd_same
  walk_at "r"
  refine ⟨by decide,by decide,?_⟩
  refine for_range (n:=3) (NmJ H a D p) ⟨_,_,_,_,[],rfl,hD0,upd_same,rfl,sm0⟩ ?_ ?_
  ·rintro j σ' H2 hj ⟨v7,v8,v9,v10,ts,rfl,hD2,hp2,hl2,sm2⟩
   walk_at "r"
   refine ⟨by omega,by omega,?_⟩
   refine for_range (n:=(1 + a % 8).toNat) (fun k σ' H'=>∃ v9 v10 t,σ' = [some (.int a),some (.int 3),some (.str LETS),some (.ref D),some (.int (1 + a % 8)),some (.int (a / 8 % (1 + a % 8))),some (.ref p),some (.int (0 + j)),some (.str t),v9,v10]∧t.length = k∧H' = H2) ⟨_,_,Str.empty,rfl,rfl,rfl⟩ ?_ ?_
   ·rintro k σ' H3 hk ⟨v9',v10',t,rfl,hl3,rfl⟩
    walk_at "r"
    refine s_rI (by show (0 : Int) < 0 + k + 1∧(0 : Int) + k + 1 < 1073741824; omega) ?_
    walk_at "r"
    refine s_mul_r (by split <;> decide) (by split <;> decide) ?_
    walk_at "r"
    obtain ⟨c,hc,_⟩:=atI_in (xs:=LETS.cps.toList) (i:=(a / 64 / (0 + (k : Int) + 1) + 5 * (0 + (k : Int)) + (0 + (j : Int)) * (if decide (V.int (0 + (k : Int)) = V.int (a / 8 % (1 + a % 8))) = true then 1 else 0)) % 27) (Int.emod_nonneg _ (by decide)) (by rw [lets_len]; exact Int.emod_lt_of_pos _ (by decide))
    refine s_ix_str lets_size hc ?_
    refine s_add_str (by rw [one_len]; omega) ?_
    exact ⟨_,_,_,rfl,by rw [catlen,one_len]; omega,rfl⟩
   ·rintro σ' H3 ⟨v9',v10',t,rfl,hl3,rfl⟩
    walk_at "r"
    refine s_in_seq (.inl (SqL.of hD2)) rfl rfl ?_
    have fin : ∀ (t' : Str),NmJ H a D p (j + 1) [some (.int a),some (.int 3),some (.str LETS),some (.ref D),some (.int (1 + a % 8)),some (.int (a / 8 % (1 + a % 8))),some (.ref p),some (.int (0 + (j : Int))),some (.str t'),v9',v10'] (upd H3 p (.lst (ts.map V.str ++ [.str t']))):=fun t' =>
     ⟨_,_,_,_,ts ++ [t'],rfl,by rw [upd_ne hpD]; exact hD2,by rw [upd_same,List.map_append]; rfl,by simp [hl2],sm2.over hp0⟩
    walk_at "r"
    refine ite2 (fun _=>?_) (fun _=>?_)
    ·walk_at "r"
     have l1 : (Str.ofString "_").length = 1:=by decide +kernel
     refine s_add_str (by rw [l1]; omega) ?_
     walk_at "r"
     refine s_tyL (SqL.of hp2) ?_
     walk_at "r"
     refine s_app hp2 (by rw [List.length_map]; omega) ?_
     exact fin _
    ·walk_at "r"
     refine s_tyL (SqL.of hp2) ?_
     walk_at "r"
     refine s_app hp2 (by rw [List.length_map]; omega) ?_
     exact fin _
  ·rintro σ' H2 ⟨v7,v8,v9,v10,ts,rfl,hD2,hp2,hl2,sm2⟩
   obtain ⟨t0,t1,t2,rfl⟩:=three hl2
   walk_at "r"
   exact q p _ _ _ _ sm2 hp0 hp2
noncomputable def sp_num : Sp:=fun vs H Q _=>∃ c : Int,vs = [.int c]∧∀ z : Int,Q (.int z) H
theorem sc_law_number : FnScope ["_law_cell_here"] ["_law_cell_here"] (defScope s_law_number):=⟨rfl,rfl,rfl,by decide +kernel,rfl,by decide +kernel,by decide +kernel⟩
theorem ok_num {f : Addr} {fd : FuncData} (F : Fun K "_law_number" "_law_number" s_law_number f fd) (T : Txt K mg) : FnOk P w K mg base CX0 1 f fd ["_law_cell_here"] sp_num:=by
 refine F.okq sc_law_number (fun vs H Q E h=>?_) (fun cdv A outer s H vs Q E hr h=>?_)
 ·obtain ⟨c,rfl,_⟩:=h
  rfl
 ·obtain ⟨c,rfl,q⟩:=h
  refine ⟨_,qss_cons (qs_if (qt_cmpR (k_eq K hr.u200) (qe_op op_mod (qv 0) (qe_int)) (qe_int) (nomark _)) (qss_one (qs_ret (qe_op op_mod (qe_op op_fdiv (qv 0) (qe_int)) (qe_int)))) (qss_nil))
   (qss_cons (qs_if (qt_cmpR (k_eq K hr.u200) (qe_op op_mod (qv 0) (qe_int)) (qe_int) (nomark _)) (qss_one (qs_ret (qe_op op_sub (qe_op op_sub (qe_op op_pow (qe_int) (qe_int)) (qe_int)) (qe_op op_mod (qe_op op_fdiv (qv 0) (qe_int)) (qe_int))))) (qss_nil))
   (qss_one (qs_ret (qe_op op_mod (qe_op op_mulA (qv 0) (qe_int)) (qe_op op_pow (qe_int) (qe_int)))))),?_⟩
  walk_at "r"
  refine ite2 (fun h=>?_) (fun h=>?_)
  ·walk_at "r"
   exact q _
  walk_at "r"
  refine ite2 (fun h=>?_) (fun h=>?_)
  ·walk_at "r"
   exact q _
  walk_at "r"
  exact q _
theorem mul_ok {x : Str} (hx : x.length = 1) {n : Int} (h0 : 0 ≤ n) (h1 : n < 60) : MulOk x n:=by
 obtain ⟨k,rfl⟩ : ∃ k : Nat,n = (k : Int):=⟨n.toNat,by omega⟩
 unfold MulOk
 rw [hx]
 have hk : k < 60:=by omega
 clear h0 h1
 have all : ∀ k : Nat,k < 60→(decide ((k : Int) < -(2 ^ 63 : Int)) || decide ((k : Int) ≥ 2 ^ 63)) = false∧(¬ (k : Int) < 1→((k : Int) == 1 || (1 : Nat) == 0) = false→¬ (((1 : Nat) : Int) > (2 ^ 63 - 1) / (k : Int)))∧(¬ (k : Int) < 1→((k : Int) == 1 || (1 : Nat) == 0) = false→Builtin.Str.tooLong (1 * (k : Int).toNat) = false):=by decide +kernel
 exact all k hk
noncomputable def sp_lodd : Sp:=fun vs H Q _=>∃ c : Int,vs = [.int c]∧∀ t : Str,Q (.str t) H
noncomputable def SGN : Str:="!\"#$&'*+,-./0123456789:;<=>?@ABCDEFGHIJKLMNOPQRSTUVWXYZ[\\]^_`abcdefghijklmnopqrstuvwxyz{|}~"
theorem sc_law_odd : FnScope ["_law_cell_here", "_law_signs"] ["_law_cell_here"] (defScope s_law_odd):=⟨rfl,rfl,rfl,by decide +kernel,rfl,by decide +kernel,by decide +kernel⟩
theorem ok_lodd {f : Addr} {fd : FuncData} (F : Fun K "_law_odd" "_law_odd" s_law_odd f fd) (T : Txt K mg) : FnOk P w K mg base CX0 1 f fd ["_law_cell_here"] sp_lodd:=by
 refine F.okq sc_law_odd (fun vs H Q E h=>?_) (fun cdv A outer s H vs Q E hr h=>?_)
 ·obtain ⟨c,rfl,_⟩:=h
  rfl
 ·obtain ⟨c,rfl,q⟩:=h
  refine ⟨_,qss_cons (qs_set (i:=1) sc_law_odd.nd rfl (Or.inl rfl) (qe_str))
   (qss_one (qs_ret (qe_op (k_add K) (qe_str) (qe_op op_mulS (qe_ix (k_ix K) (qv 1) (qe_op op_mod (qv 0) (qe_callB (k_len K) (by rfl) T.len (by decide +kernel) (qa_cons (qv 1) qa_nil))) (fun _ _=>rfl)) (qe_op op_mod (qe_op op_fdiv (qv 0) (qe_int)) (qe_int)))))),?_⟩
  walk_at "r"
  have sz : SGN.length ≤ sizeLine:=by decide +kernel
  have sl : SGN.length = 91:=by decide +kernel
  refine s_len_str (z:=SGN) sz ?_
  refine s_rI (by rw [sl]; decide) ?_
  rw [sl]
  have cl : SGN.cps.toList.length = 91:=by decide +kernel
  obtain ⟨k,hk,_⟩:=atI_in (xs:=SGN.cps.toList) (i:=c % ((91 : Nat) : Int)) (Int.emod_nonneg _ (by decide)) (by rw [cl]; exact Int.emod_lt_of_pos _ (by decide))
  refine s_ix_str (z:=SGN) sz hk ?_
  walk_at "r"
  have h0 : 0 ≤ c / 97 % 60:=Int.emod_nonneg _ (by decide)
  have h1 : c / 97 % 60 < 60:=Int.emod_lt_of_pos _ (by decide)
  refine ⟨_,_,rfl,rfl,mul_ok rfl h0 h1,?_⟩
  refine s_add_str ?_ (q _)
  have h2:=PyProof.Rows.len_mul_one (y:=⟨#[k]⟩) (c:=k) (n:=c / 97 % 60) (N:=60) rfl (by omega)
  have h3 : (Str.ofString "=").length = 1:=by decide +kernel
  have h4 : 100 ≤ sizeLine:=by decide
  omega
noncomputable def LeafOk (wd : Str) (nv : V) : Prop:=(wd = "num"∧∃ i,nv = .int i) ∨ (wd = "truth"∧∃ b,nv = .bl b) ∨ (wd = "name"∧∃ z,nv = .str z) ∨ (wd = "odd"∧∃ z,nv = .str z) ∨ (wd = "gap"∧nv = .non)
theorem LeafOk.flat {wd : Str} {nv : V} (h : LeafOk wd nv) : flatV nv = true:=by
 rcases h with ⟨_,_,rfl⟩ | ⟨_,_,rfl⟩ | ⟨_,_,rfl⟩ | ⟨_,_,rfl⟩ | ⟨_,rfl⟩ <;> rfl
noncomputable def sp_lleaf (K : PySem.W.Frag) : Sp:=fun vs H Q _=>∃ (c o : Int) (p : Addr) (t0 t1 t2 : Str),vs = [.int c,.int o,.ref p]∧SqL K H p [.str t0,.str t1,.str t2]∧∀ v wd nv H',Same H H'→TrAt K H' v (.mk wd (.flat nv) [])→LeafOk wd nv→Q v H'
theorem sc_law_leaf : FnScope ["_law_cell_here", "_law_other", "_law_names_here", "_law_word"] ["_law_cell_here", "_law_other", "_law_names_here"] (defScope s_law_leaf):=⟨rfl,rfl,rfl,by decide +kernel,rfl,by decide +kernel,by decide +kernel⟩
theorem ok_lleaf {f : Addr} {fd : FuncData} (F : Fun K "_law_leaf" "_law_leaf" s_law_leaf f fd) (T : Txt K mg) (C__law_number : Callee P w K mg base 1 "_law_number" ["_law_cell_here"] sp_num) (C__law_odd : Callee P w K mg base 1 "_law_odd" ["_law_cell_here"] sp_lodd) : FnOk P w K mg base CX0 2 f fd ["_law_cell_here", "_law_other", "_law_names_here"] (sp_lleaf K):=by
 refine F.okq sc_law_leaf (fun vs H Q E h=>?_) (fun cdv A outer s H vs Q E hr h=>?_)
 ·obtain ⟨c,o,p,t0,t1,t2,rfl,_⟩:=h
  rfl
 ·obtain ⟨c,o,p,t0,t1,t2,rfl,hp,q⟩:=h
  refine ⟨_,qss_cons (qs_set (i:=3) sc_law_leaf.nd rfl (Or.inl rfl) (qe_ix (k_ix K) (qe_lst (qa_consts (xs:=[.str "num",.str "gap",.str "name",.str "num",.str "truth",.str "name",.str "odd"]) rfl)) (qe_op op_mod (qv 0) (qe_int)) (fun _ _=>rfl)))
   (qss_cons (qs_if (qt_cmpR (k_eq K hr.u200) (qv 3) (qe_str) (nomark _)) (qss_one (qs_ret (qe_tup (qa_cons (qe_str) (qa_cons (qe_fn C__law_number (hr.mono (by decide)) (qa_cons (qv 1) qa_nil)) (qa_cons (qe_tup (qa_nil)) qa_nil)))))) (qss_nil))
   (qss_cons (qs_if (qt_cmpR (k_eq K hr.u200) (qv 3) (qe_str) (nomark _)) (qss_one (qs_ret (qe_tup (qa_cons (qe_str) (qa_cons (qe_cmpR (k_eq K hr.u200) (qe_op op_mod (qv 1) (qe_int)) (qe_int) (nomark _)) (qa_cons (qe_tup (qa_nil)) qa_nil)))))) (qss_nil))
   (qss_cons (qs_if (qt_cmpR (k_eq K hr.u200) (qv 3) (qe_str) (nomark _)) (qss_one (qs_ret (qe_tup (qa_cons (qe_str) (qa_cons (qe_ix (k_ix K) (qv 2) (qe_op op_mod (qv 1) (qe_callB (k_len K) (by rfl) T.len (by decide +kernel) (qa_cons (qv 2) qa_nil))) (fun _ _=>rfl)) (qa_cons (qe_tup (qa_nil)) qa_nil)))))) (qss_nil))
   (qss_cons (qs_if (qt_cmpR (k_eq K hr.u200) (qv 3) (qe_str) (nomark _)) (qss_one (qs_ret (qe_tup (qa_cons (qe_str) (qa_cons (qe_fn C__law_odd (hr.mono (by decide)) (qa_cons (qv 1) qa_nil)) (qa_cons (qe_tup (qa_nil)) qa_nil)))))) (qss_nil))
   (qss_one (qs_ret (qe_tup (qa_cons (qe_str) (qa_cons (qe_non) (qa_cons (qe_tup (qa_nil)) qa_nil)))))))))),?_⟩
  have fin : ∀ (wd : Str) (nv : V) (H4 : Hp),Same H H4→LeafOk wd nv→∀ p1,H4 p1 = none→([V.str wd,nv,.ref p1] : List V).length ≤ sizeLine∧∀ p2,upd H4 p1 (.tup []) p2 = none→Q (.ref p2) (upd (upd H4 p1 (.tup [])) p2 (.tup [.str wd,nv,.ref p1])):=by
   intro wd nv H4 s4 ok p1 h1
   refine ⟨by show 3 ≤ sizeLine; decide,fun p2 h2=>?_⟩
   have s5:=s4.put (o:=.tup []) h1
   have s6 : Same (upd H4 p1 (.tup [])) (upd (upd H4 p1 (.tup [])) p2 (.tup [.str wd,nv,.ref p1])):=Same.upd h2
   exact q _ wd nv _ (s5.trans s6) (.mk (vs:=[]) (SqT.of upd_same) (.inl ⟨ok.flat,rfl⟩) (SqT.of (s6 _ _ upd_same)) rfl (fun j v t e _=>by simp at e)) ok
  walk_at "r"
  refine ⟨by show 7 ≤ sizeLine; decide,fun p0 h0=>?_⟩
  walk_at "r"
  obtain ⟨v,hv,m⟩:=atI_in (xs:=([.str "num",.str "gap",.str "name",.str "num",.str "truth",.str "name",.str "odd"] : List V)) (i:=c % 7) (Int.emod_nonneg _ (by decide)) (Int.emod_lt_of_pos _ (by decide))
  refine s_ix_lst (SqL.of upd_same) hv ?_
  have s1 : Same H (upd H p0 (.lst [.str "num",.str "gap",.str "name",.str "num",.str "truth",.str "name",.str "odd"])):=Same.upd h0
  revert s1
  generalize upd H p0 _ = H1
  intro s1
  obtain ⟨wd,rfl⟩ : ∃ wd,v = V.str wd:=by
   simp only [List.mem_cons,List.not_mem_nil,or_false] at m
   rcases m with h | h | h | h | h | h | h <;> exact ⟨_,h⟩
  walk_at "r"
  refine ite2 (fun _=>?_) (fun _=>?_)
  ·walk_at "r"
   refine ⟨o,rfl,fun z=>?_⟩
   walk_at "r"
   refine ⟨by show 0 ≤ sizeLine; decide,fun p1 h1=>?_⟩
   walk_at "r"
   exact fin "num" (.int z) _ s1 (.inl ⟨rfl,_,rfl⟩) p1 h1
  walk_at "r"
  refine ite2 (fun _=>?_) (fun _=>?_)
  ·walk_at "r"
   refine ⟨by show 0 ≤ sizeLine; decide,fun p1 h1=>?_⟩
   walk_at "r"
   exact fin "truth" (.bl _) _ s1 (.inr (.inl ⟨rfl,_,rfl⟩)) p1 h1
  walk_at "r"
  refine ite2 (fun _=>?_) (fun _=>?_)
  ·walk_at "r"
   refine s_len_lst (s1.seq hp) ?_
   obtain ⟨v,hv,m⟩:=atI_in (xs:=([.str t0,.str t1,.str t2] : List V)) (i:=o % 3) (Int.emod_nonneg _ (by decide)) (Int.emod_lt_of_pos _ (by decide))
   obtain ⟨z,rfl⟩ : ∃ z,v = V.str z:=by
    simp only [List.mem_cons,List.not_mem_nil,or_false] at m
    rcases m with h | h | h <;> exact ⟨_,h⟩
   refine s_rI (by show (0 : Int) < 3; decide) ?_
   refine s_ix_lst (s1.seq hp) hv ?_
   walk_at "r"
   refine ⟨by show 0 ≤ sizeLine; decide,fun p1 h1=>?_⟩
   walk_at "r"
   exact fin "name" (.str z) _ s1 (.inr (.inr (.inl ⟨rfl,_,rfl⟩))) p1 h1
  walk_at "r"
  refine ite2 (fun _=>?_) (fun _=>?_)
  ·walk_at "r"
   refine ⟨o,rfl,fun z=>?_⟩
   walk_at "r"
   refine ⟨by show 0 ≤ sizeLine; decide,fun p1 h1=>?_⟩
   walk_at "r"
   exact fin "odd" (.str z) _ s1 (.inr (.inr (.inr (.inl ⟨rfl,_,rfl⟩)))) p1 h1
  walk_at "r"
  refine ⟨by show 0 ≤ sizeLine; decide,fun p1 h1=>?_⟩
  walk_at "r"
  exact fin "gap" .non _ s1 (.inr (.inr (.inr (.inr ⟨rfl,rfl⟩)))) p1 h1
end
end K51
namespace K51
open PySem L2
noncomputable def partsA (wd : Str) : Option (List Int):=if wd ∈ (["plus", "minus", "less", "call"] : List Str) then some [1,0] else if wd ∈ (["if", "let"] : List Str) then some [0] else none
noncomputable def WA : List Str:=["gap", "fn", "rec", "if"]
structure Mc (K : PySem.W.Frag) (C : Addr) : Prop where
 cl : Cls K C
 nf : NoAttr K C "forms"
 nr : NoAttr K C "rows"
 nw : NoAttr K C "waiting"
 nt : NoAttr K C "things"
 ns : NoAttr K C "steps"
theorem fs_forms (L : Ml) (n : Int) : (L.fs n).lookup ("forms" : Str) = some (V.ref L.fd):=rfl
theorem fs_rows (L : Ml) (n : Int) : (L.fs n).lookup ("rows" : Str) = some (V.ref L.rd):=rfl
theorem fs_wait (L : Ml) (n : Int) : (L.fs n).lookup ("waiting" : Str) = some (V.ref L.wd):=rfl
theorem fs_things (L : Ml) (n : Int) : (L.fs n).lookup ("things" : Str) = some (V.ref L.td):=rfl
theorem fs_steps (L : Ml) (n : Int) : (L.fs n).lookup ("steps" : Str) = some (V.int n):=rfl
theorem fs_put (L : Ml) (n k : Int) : putF "steps" (.int k) (L.fs n) = L.fs k:=rfl
theorem fs_td (L : Ml) (n : Int) (t : Addr) : putF "things" (.ref t) (L.fs n) = (L.with t).fs n:=rfl
theorem fs_no (L : Ml) (n : Int) : (L.fs n).lookup ("make_steps" : Str) = none∧(L.fs n).lookup ("new_row" : Str) = none∧(L.fs n).lookup ("thing_of_leaf" : Str) = none∧(L.fs n).lookup ("come_to" : Str) = none∧(L.fs n).lookup ("go_further" : Str) = none∧(L.fs n).lookup ("taken_things" : Str) = none∧(L.fs n).lookup ("thing_at_the_end" : Str) = none∧(L.fs n).lookup ("thing_of_form" : Str) = none:=⟨rfl,rfl,rfl,rfl,rfl,rfl,rfl,rfl⟩
theorem flat_strs {ws : List Str} : (ws.map V.str).all flatV = true:=by rw [List.all_map]; exact List.all_eq_true.mpr fun _ _=>rfl
theorem in_dec {t : Str} {ws : List Str} : inV (.str t) (ws.map V.str) = decide (t ∈ ws):=by
 unfold inV
 rw [List.any_map]
 by_cases hm : t ∈ ws
 ·rw [decide_eq_true hm]
  exact List.any_eq_true.mpr ⟨t,hm,by show (t == t) = true; simp⟩
 ·rw [decide_eq_false hm]
  exact Bool.eq_false_iff.mpr fun h=>by
   obtain ⟨x,hx,e⟩:=List.any_eq_true.mp h
   have e : (x == t) = true:=e
   have e : x = t:=by simpa using e
   exact hm (by rw [← e]; exact hx)
end K51
namespace K51
open PySem L2
section
variable {P : Program} {w : World} {K : PySem.W.Frag} {mg : Str→Option Value} {base : Heap}
noncomputable def sp_make (K : PySem.W.Frag) (C : Addr) : Sp:=fun vs H Q _=>∃ (n : Int) (HB : Hp) (kvs : List (List Key × V)) (L : Ml) (S : MS),vs = [.ref L.m,.int n]∧MAt K HB C kvs L H S∧S.steps + n ≤ 500∧∀ H',SameM L H H'→MAt K HB C kvs L H' { S with steps:=S.steps + n }→Q .non H'
theorem sc_Machine_make_steps : FnScope ["self", "many"] ["self", "many"] (defScope s_Machine_make_steps):=⟨rfl,rfl,rfl,by decide +kernel,rfl,by decide +kernel,by decide +kernel⟩
theorem ok_make {C : Addr} {f : Addr} {fd : FuncData} (F : Fun K "make_steps" "Machine.make_steps" s_Machine_make_steps f fd) (T : Txt K mg) (O : Mc K C) (G_MOST_STEPS : Glob mg "MOST_STEPS" (.int 500)) : FnOk P w K mg base CX0 1 f fd ["self", "many"] (sp_make K C):=by
 refine F.okq sc_Machine_make_steps (fun vs H Q E h=>?_) (fun cdv A outer s H vs Q E hr h=>?_)
 ·obtain ⟨n,HB,kvs,L,S,rfl,_⟩:=h
  rfl
 ·obtain ⟨n,HB,kvs,L,S,rfl,M,hn,q⟩:=h
  refine ⟨_,qss_cons (qs_fldaugK K (qv 0) (qv 1) in_add)
   (qss_one (qs_if (qt_cmpR op_gt (qe_fldK K (qv 0)) (qe_gl G_MOST_STEPS) (nomark _)) (qss_one (qs_dead)) (qss_nil))),?_⟩
  walk_at "r"
  refine ⟨_,rfl,L.m,C,L.dx,_,_,rfl,M.ins,O.cl,O.ns,fs_steps L S.steps,_,rfl,?_⟩
  refine ⟨_,_,rfl,rfl,L.dx,_,M.ins,by show 5 < 1000; decide,?_⟩
  rw [fs_put]
  have M1:=M.setSteps (S.steps + n)
  have e1 : SameM L H (upd H L.m (.ins C L.dx (L.fs (S.steps + n)))):=SameM.upd (.inl rfl)
  revert M1 e1
  generalize upd H L.m (.ins C L.dx (L.fs (S.steps + n))) = H1
  intro M1 e1
  walk_at "r"
  refine ⟨_,rfl,L.m,C,L.dx,_,_,rfl,M1.ins,O.cl,O.ns,fs_steps L (S.steps + n),?_⟩
  walk_at "r"
  rw [decide_eq_false (by omega)]
  walk_at "r"
  exact q _ e1 M1
noncomputable def sp_newrow (K : PySem.W.Frag) (C : Addr) : Sp:=fun vs H Q _=>∃ (wd : Str) (p o e : Addr) (pl : List Nat) (ov ev : List V) (ops : List (Str × V)) (ar : List (Str × Str × V)) (HB : Hp) (kvs : List (List Key × V)) (L : Ml) (S : MS),vs = [.ref L.m,.str wd,.ref p,.ref o,.ref e]∧MAt K HB C kvs L H S∧H p = some (.tup (plV pl))∧SqL K H o ov∧Al (ThAt K H) ov ops∧SqL K H e ev∧Al (PrAt K H) ev ar∧S.rows.length < 10000 ∧
 ∀ v H',SameM L H H'→MAt K HB C kvs L H' { S with rows:=S.rows ++ [⟨wd,plI pl,ops,if wd ∈ WA then ar else []⟩] }→ThAt K H' v ("row",.int (S.rows.length : Nat))→Q v H'
theorem sc_Machine_new_row : FnScope ["self", "word", "place", "operands", "around", "kept"] ["self", "word", "place", "operands", "around"] (defScope s_Machine_new_row):=⟨rfl,rfl,rfl,by decide +kernel,rfl,by decide +kernel,by decide +kernel⟩
theorem viaV {t : TE} {σ : St} {H : Hp} {Q : VK} (R : V→Hp→Prop) (h2 : ∀ x H',R x H'→Q x H') (h1 : ∀ Q' : VK,(∀ x H',R x H'→Q' x H')→t σ H Q') : t σ H Q:=h1 Q h2
theorem ok_newrow {C : Addr} {f : Addr} {fd : FuncData} (F : Fun K "new_row" "Machine.new_row" s_Machine_new_row f fd) (T : Txt K mg) (O : Mc K C) {aw : Addr} (G_WORDS_WITH_AROUND : Glob mg "WORDS_WITH_AROUND" (.ref aw)) (hwa : ∀ H,SqT K H aw (WA.map V.str)) : FnOk P w K mg base CX0 1 f fd ["self", "word", "place", "operands", "around"] (sp_newrow K C):=by
 refine F.okq sc_Machine_new_row (fun vs H Q E h=>?_) (fun cdv A outer s H vs Q E hr h=>?_)
 ·obtain ⟨wd,p,o,e,pl,ov,ev,ops,ar,HB,kvs,L,S,rfl,_⟩:=h
  rfl
 ·obtain ⟨wd,p,o,e,pl,ov,ev,ops,ar,HB,kvs,L,S,rfl,M,hp,ho,alo,he,ale,hz,q⟩:=h
  refine ⟨_,qss_cons (qs_set (i:=5) sc_Machine_new_row.nd rfl (Or.inl rfl) (qe_ifExp (qt_cmpR (k_in K) (qv 1) (qe_gl G_WORDS_WITH_AROUND) (by rfl)) (qe_callTy (k_list K) (by rfl) T.list (by decide +kernel) (qa_cons (qv 4) qa_nil)) (qe_lst (qa_nil))))
   (qss_cons (qs_expr (qe_bmK K PySem.F.plainAttrs_list PySem.F.slot_list_append PySem.F.type_list_append mt_append (qe_fldK K (qv 0)) (qa_cons (qe_tup (qa_cons (qv 1) (qa_cons (qv 2) (qa_cons (qe_callTy (k_list K) (by rfl) T.list (by decide +kernel) (qa_cons (qv 3) qa_nil)) (qa_cons (qv 5) qa_nil))))) qa_nil)))
   (qss_one (qs_ret (qe_tup (qa_cons (qe_str) (qa_cons (qe_op op_sub (qe_callB (k_len K) (by rfl) T.len (by decide +kernel) (qa_cons (qe_fldK K (qv 0)) qa_nil)) (qe_int)) qa_nil)))))),?_⟩
  have bg:=big
  walk_at "r"
  have kept : Al (PrAt K H) (if wd ∈ WA then ev else []) (if wd ∈ WA then ar else []):=by
   by_cases hw : wd ∈ WA
   ·rw [if_pos hw,if_pos hw]; exact ale
   ·rw [if_neg hw,if_neg hw]; exact .nil
  refine viaV (R:=fun x H'=>∃ k,x = .ref k∧H k = none∧H' = upd H k (.lst (if wd ∈ WA then ev else []))) ?_ (fun Q' hQ=>?_)
  ·rintro _ _ ⟨k,rfl,hk,rfl⟩
   have s1 : Same H (upd H k (.lst (if wd ∈ WA then ev else []))):=Same.upd hk
   have e1 : upd H k (.lst (if wd ∈ WA then ev else [])) k = some (.lst (if wd ∈ WA then ev else [])):=upd_same
   revert s1 e1 kept
   generalize (if wd ∈ WA then ev else []) = kv
   generalize (if wd ∈ WA then ar else []) = ka at q ⊢
   generalize upd H k (.lst kv) = H1
   intro kept s1 e1
   have M1:=M.new s1
   obtain ⟨rv,er,arr,spr⟩:=M1.rows
   walk_at "r"
   refine ⟨_,rfl,L.m,C,L.dx,_,_,rfl,M1.ins,O.cl,O.nr,fs_rows L S.steps,?_⟩
   refine s_tyL (SqL.of er) ?_
   walk_at "r"
   refine ⟨_,ov,rfl,.inl (s1.seq ho),fun o2 ho2=>?_⟩
   have s2 : Same H1 (upd H1 o2 (.lst ov)):=Same.upd ho2
   have e2 : upd H1 o2 (.lst ov) o2 = some (.lst ov):=upd_same
   have e12:=s2 _ _ e1
   revert s2 e2 e12
   generalize upd H1 o2 (.lst ov) = H2
   intro s2 e2 e12
   walk_at "r"
   refine ⟨by show 4 ≤ sizeLine; decide,fun r hr=>?_⟩
   have s3 : Same H2 (upd H2 r (.tup [.str wd,.ref p,.ref o2,.ref k])):=Same.upd hr
   have e3 : upd H2 r (.tup [.str wd,.ref p,.ref o2,.ref k]) r = some (.tup [.str wd,.ref p,.ref o2,.ref k]):=upd_same
   revert s3 e3
   generalize upd H2 r (.tup [.str wd,.ref p,.ref o2,.ref k]) = H3
   intro s3 e3
   have s13:=s2.trans s3
   have s03:=s1.trans s13
   have M3:=M.new s03
   have hrl : rv.length = S.rows.length:=arr.1
   walk_at "r"
   refine s_app (s13 _ _ er) (by omega) ?_
   obtain ⟨rv0,er0,_,sp0⟩:=M.rows
   obtain ⟨wv0,ew0,_⟩:=M.wait
   obtain ⟨tv0,et0,_⟩:=M.things
   have nb : ∀ b,H b = none→¬ (L.A b ∨ HB b ≠ none):=by
    intro b hb hx
    rcases hx with (z | z | z) | z
    ·rw [z,er0] at hb; cases hb
    ·rw [z,ew0] at hb; cases hb
    ·rw [z,et0] at hb; cases hb
    ·cases h : HB b with
     | none=>exact z h
     | some ob=>rw [M.base _ _ h] at hb; cases hb
   have rw4 : RwO K (fun b=>L.A b ∨ HB b ≠ none) H3 (.ref r) (⟨wd,plI pl,ops,ka⟩,o2,k):=⟨r,p,ov,kv,rfl,SqT.of e3,by rw [plV_plI]; exact SqT.of (s03 _ _ hp),s3 _ _ e2,alo.mono (ThAt.same s03.t),s3 _ _ e12,kept.mono (PrAt.same s03.t),nb _ (s1.free ho2),nb _ hk⟩
   have sp4 : SepR K (fun b=>L.A b ∨ HB b ≠ none) H3 (rv ++ [.ref r]) (S.rows ++ [⟨wd,plI pl,ops,ka⟩]):=SepR.add (H:=H) (by rw [show rv = rv0 from by have h:=s1 _ _ er0; rw [er] at h; cases h; rfl]; exact sp0) s03 (s1.free ho2) hk rw4
   have M4:=M3.setRows (rv:=rv ++ [.ref r]) (rs:=S.rows ++ [⟨wd,plI pl,ops,ka⟩]) ((arr.mono (RwX.same s13.a)).snoc ⟨⟨r,p,o2,k,ov,kv,rfl,SqT.of e3,by rw [plV_plI]; exact SqT.of (s03 _ _ hp),s3 _ _ e2,alo.mono (ThAt.same s03.t),s3 _ _ e12,kept.mono (PrAt.same s03.t),nb _ (s1.free ho2),nb _ hk⟩,r,p,o2,k,rfl,SqT.of e3,by rw [plV_plI]; exact s03 _ _ hp⟩) sp4
   have e4 : SameM L H (upd H3 L.rd (.lst (rv ++ [.ref r]))):=(s03.m L).trans (SameM.upd (.inr (.inl rfl)))
   have er4 : upd H3 L.rd (.lst (rv ++ [.ref r])) L.rd = some (.lst (rv ++ [.ref r])):=upd_same
   revert M4 e4 er4
   generalize upd H3 L.rd (.lst (rv ++ [.ref r])) = H4
   intro M4 e4 er4
   walk_at "r"
   refine ⟨_,rfl,L.m,C,L.dx,_,_,rfl,M4.ins,O.cl,O.nr,fs_rows L S.steps,?_⟩
   walk_at "r"
   refine s_len_lst (SqL.of er4) ?_
   walk_at "r"
   refine ⟨by show 2 ≤ sizeLine; decide,fun t ht=>?_⟩
   have e5 : (((rv ++ [V.ref r]).length : Nat) : Int) - 1 = ((S.rows.length : Nat) : Int):=by rw [List.length_append,List.length_singleton]; omega
   rw [e5]
   have s5 : Same H4 (upd H4 t (.tup [.str "row",.int (S.rows.length : Nat)])):=Same.upd ht
   exact q _ _ (e4.trans (s5.m L)) (M4.new s5) ⟨rfl,t,rfl,SqT.of upd_same⟩
  ·unfold tIf
   walk_at "r"
   refine s_in_seq (.inr (hwa _)) rfl flat_strs ?_
   rw [if_neg Bool.false_ne_true,in_dec]
   refine ⟨_,rfl,?_⟩
   refine ite2 (fun h=>?_) (fun h=>?_)
   ·have h : wd ∈ WA:=of_decide_eq_true h
    walk_at "r"
    refine ⟨_,ev,rfl,.inl he,fun k hk=>?_⟩
    exact hQ _ _ ⟨k,rfl,hk,by rw [if_pos h]⟩
   ·have h : ¬ wd ∈ WA:=fun x=>h (decide_eq_true x)
    walk_at "r"
    refine ⟨by show 0 ≤ sizeLine; decide,fun k hk=>?_⟩
    exact hQ _ _ ⟨k,rfl,hk,by rw [if_neg h]⟩
noncomputable def leafS (S : MS) (wd : Str) (nv : V) (pl : List Nat) (ar : List (Str × Str × V)) : (Str × V) × MS :=
 if wd ∈ (["num", "truth"] : List Str) then ((wd,nv),S)
 else match (match nv with | .str z=>if wd = "name" then lookA ar z else none | _=>none) with
  | some th=>(th,S)
  | none=>(("row",.int (S.rows.length : Nat)),{ S with rows:=S.rows ++ [⟨wd,plI pl,[],if wd ∈ WA then ar else []⟩] })
noncomputable def sp_leaf (K : PySem.W.Frag) (C : Addr) : Sp:=fun vs H Q _=>∃ (wd : Str) (nv : V) (p e : Addr) (pl : List Nat) (ev : List V) (ar : List (Str × Str × V)) (HB : Hp) (kvs : List (List Key × V)) (L : Ml) (S : MS),vs = [.ref L.m,.str wd,nv,.ref p,.ref e]∧MAt K HB C kvs L H S∧H p = some (.tup (plV pl))∧SqL K H e ev∧Al (PrAt K H) ev ar∧S.rows.length < 10000∧(wd ∈ (["num", "truth"] : List Str)→flatV nv = true)∧(wd = "name"→∃ z,nv = .str z) ∧
 ∀ v H',SameM L H H'→MAt K HB C kvs L H' (leafS S wd nv pl ar).2→ThAt K H' v (leafS S wd nv pl ar).1→Q v H'
theorem sc_Machine_thing_of_leaf : FnScope ["self", "word", "note", "place", "around", "bound"] ["self", "word", "note", "place", "around"] (defScope s_Machine_thing_of_leaf):=⟨rfl,rfl,rfl,by decide +kernel,rfl,by decide +kernel,by decide +kernel⟩
theorem ok_leaf {C : Addr} {f : Addr} {fd : FuncData} (F : Fun K "thing_of_leaf" "Machine.thing_of_leaf" s_Machine_thing_of_leaf f fd) (T : Txt K mg) (O : Mc K C) (MR : MethX CX0 P w K mg base 1 C "new_row" ["self", "word", "place", "operands", "around"] (sp_newrow K C)) : FnOk P w K mg base CX0 2 f fd ["self", "word", "note", "place", "around"] (sp_leaf K C):=by
 refine F.okq sc_Machine_thing_of_leaf (fun vs H Q E h=>?_) (fun cdv A outer s H vs Q E hr h=>?_)
 ·obtain ⟨wd,nv,p,e,pl,ev,ar,HB,kvs,L,S,rfl,_⟩:=h
  rfl
 ·obtain ⟨wd,nv,p,e,pl,ev,ar,HB,kvs,L,S,rfl,M,hp,he,ale,hz,hf,hnm,q⟩:=h
  refine ⟨_,qss_cons (qs_if (qt_cmpR (k_in K) (qv 1) (qe_tup (qa_cons (qe_str) (qa_cons (qe_str) qa_nil))) (by rfl)) (qss_one (qs_ret (qe_tup (qa_cons (qv 1) (qa_cons (qv 2) qa_nil))))) (qss_nil))
   (qss_cons (qs_set (i:=5) sc_Machine_thing_of_leaf.nd rfl (Or.inl rfl) (qe_callTy (k_dict K hr.u200 rfl) (by rfl) T.dict (by decide +kernel) (qa_cons (qv 4) qa_nil)))
   (qss_cons (qs_if (QW.qt (qw_and (qt_cmpR (k_eq K hr.u200) (qv 1) (qe_str) (nomark _)) (qw_and1 (qt_cmp (qc_din hr.u1 (qv 2) (qv 5)))))) (qss_one (qs_ret (qe_dget hr.u1 (qv 5) (qv 2) (fun _ _=>rfl)))) (qss_nil))
   (qss_one (qs_ret (qe_methD (k:=1) K CX0 ["self", "word", "place", "operands", "around"] (qv 0) (hr.mono (by decide)) pass0 (qa_cons (qv 1) (qa_cons (qv 3) (qa_cons (qe_lst (qa_nil)) (qa_cons (qv 4) qa_nil))))))))),?_⟩
  have bg:=big
  unfold leafS at q
  walk_at "r"
  refine ⟨by show 2 ≤ sizeLine; decide,fun p1 h1=>?_⟩
  refine s_in_seq (.inr (SqT.of upd_same)) rfl rfl ?_
  have s1 : Same H (upd H p1 (.tup [.str "num",.str "truth"])):=Same.upd h1
  rw [if_neg Bool.false_ne_true,show inV (.str wd) [.str "num",.str "truth"] = decide (wd ∈ (["num", "truth"] : List Str)) from in_dec (ws:=["num", "truth"])]
  revert s1
  generalize upd H p1 (.tup [.str "num",.str "truth"]) = H1
  intro s1
  walk_at "r"
  refine ite2 (fun h=>?_) (fun h=>?_)
  ·have h : wd ∈ (["num", "truth"] : List Str):=of_decide_eq_true h
   rw [if_pos h] at q
   walk_at "r"
   refine ⟨by show 2 ≤ sizeLine; decide,fun p2 h2=>?_⟩
   have s2:=s1.put (o:=.tup [.str wd,nv]) h2
   exact q _ _ (s2.m L) (M.new s2) ⟨hf h,p2,rfl,SqT.of upd_same⟩
  have h : ¬ wd ∈ (["num", "truth"] : List Str):=fun x=>h (decide_eq_true x)
  rw [if_neg h] at q
  walk_at "r"
  obtain ⟨bk,alk,look⟩:=bound_of (K:=K) (H:=H1) ev ar (ale.mono (PrAt.same s1.t))
  refine ⟨e,ev,rfl,s1.seq he,.inl ⟨bk,alk,fun d hd=>?_⟩⟩
  have s2 : Same H1 (upd H1 d (.dK (putAll [] bk))):=Same.upd hd
  have e2 : upd H1 d (.dK (putAll [] bk)) d = some (.dK (putAll [] bk)):=upd_same
  revert s2 e2
  generalize upd H1 d (.dK (putAll [] bk)) = H2
  intro s2 e2
  have s02:=s1.trans s2
  have M2:=M.new s02
  have row : (match nv with | .str z=>if wd = "name" then lookA ar z else none | _=>none) = none→∀ l,H2 l = none→sp_newrow K C [.ref L.m,.str wd,.ref p,.ref l,.ref e] (upd H2 l (.lst [])) Q E0:=by
   intro hn l hl
   rw [hn] at q
   have s3:=s02.put (o:=.lst []) hl
   refine ⟨wd,p,l,e,pl,[],ev,[],ar,HB,kvs,L,S,rfl,M.new s3,s3 _ _ hp,SqL.of upd_same,.nil,s3.seq he,ale.mono (PrAt.same s3.t),hz,fun v H' e' M' t'=>q v H' ((s3.m L).trans e') M' t'⟩
  walk_at "r"
  by_cases hw : wd = "name"
  ·subst hw
   obtain ⟨z,rfl⟩:=hnm rfl
   rw [decide_eq_true (Eq.refl _)]
   refine iteT ?_
   refine ⟨_,rfl,_,rfl,d,_,rfl,DGet.k (k:=Sum.inr z) e2,?_⟩
   rw [valV_putAll]
   rcases look z with ⟨l1,l2⟩ | ⟨u,th,l1,l2,t⟩
   ·rw [l1]
    refine ⟨false,rfl,?_⟩
    refine iteF ?_
    walk_at "r"
    refine ⟨_,rfl,L.m,C,L.dx,_,_,rfl,M2.ins,(fs_no L S.steps).2.1,MR,?_⟩
    walk_at "r"
    refine ⟨by show 0 ≤ sizeLine; decide,fun l hl=>?_⟩
    walk_at "r"
    exact row (by simp [l2]) l hl
   ·rw [l1]
    refine ⟨true,rfl,?_⟩
    refine iteT ?_
    walk_at "r"
    refine ⟨_,rfl,_,rfl,d,u,rfl,?_,?_⟩
    ·rw [← l1,← valV_putAll]
     exact DGet.k (k:=Sum.inr z) e2
    ·have e : (match V.str z with | .str z=>if ("name" : Str) = "name" then lookA ar z else none | _=>none) = some th:=by simp [l2]
     rw [e] at q
     exact q _ _ (s02.m L) M2 (ThAt.same s2.t _ _ t)
  ·rw [decide_eq_false (fun h=>hw (V.str.inj h))]
   walk_at "r"
   refine ⟨_,rfl,L.m,C,L.dx,_,_,rfl,M2.ins,(fs_no L S.steps).2.1,MR,?_⟩
   walk_at "r"
   refine ⟨by show 0 ≤ sizeLine; decide,fun l hl=>?_⟩
   walk_at "r"
   refine row ?_ l hl
   cases nv <;> simp [hw]
noncomputable def dtV : Dt→V
 | .flat v=>v
 | _=>.non
noncomputable def comeS (S : MS) (wd : Str) (d : Dt) (pl : List Nat) (ar : List (Str × Str × V)) : MS :=
 let S1:=if wd = "gap" then S else { S with steps:=S.steps + 1 }
 match partsA wd with
 | some ns=>{ S1 with wait:=(S1.wait ++ [⟨pl,ar,true⟩]) ++ ns.map fun n=>⟨pl ++ [n.toNat],ar,false⟩ }
 | none=>{ (leafS S1 wd (dtV d) pl ar).2 with things:=(leafS S1 wd (dtV d) pl ar).2.things ++ [(leafS S1 wd (dtV d) pl ar).1] }
noncomputable def NoteOk (wd : Str) (d : Dt) : Prop:=(wd ∈ (["num", "truth"] : List Str)→∃ v,d = .flat v)∧(wd = "name"→∃ z,d = .flat (.str z))
noncomputable def sp_come (K : PySem.W.Frag) (C : Addr) : Sp:=fun vs H Q _=>∃ (p e : Addr) (pl : List Nat) (ev : List V) (ar : List (Str × Str × V)) (HB : Hp) (kvs : List (List Key × V)) (L : Ml) (S : MS) (v : V) (wd : Str) (d : Dt) (ts : List Tr),vs = [.ref L.m,.ref p,.ref e]∧MAt K HB C kvs L H S∧H p = some (.tup (plV pl))∧H e = some (.lst ev)∧Al (PrAt K H) ev ar∧¬ L.A e∧valV kvs (plK pl) = some v∧TrAt K H v (.mk wd d ts)∧NoteOk wd d∧pl.length ≤ 2000∧S.rows.length < 9000∧S.wait.length < 9000∧S.things.length < 9000∧S.steps + 1 ≤ 500 ∧
 ∀ H',SameM L H H'→MAt K HB C kvs L H' (comeS S wd d pl ar)→Q .non H'
theorem nd_Machine_come_to_1 : (["number", "around", "place"] : List Str).Nodup:=by decide +kernel
theorem sc_Machine_come_to : FnScope ["self", "place", "around", "word", "note"] ["self", "place", "around"] (defScope s_Machine_come_to):=⟨rfl,rfl,rfl,by decide +kernel,rfl,by decide +kernel,by decide +kernel⟩
theorem partsA_nn {wd : Str} {ns : List Int} (h : partsA wd = some ns) : ns.length ≤ 2∧∀ n ∈ ns,0 ≤ n:=by
 unfold partsA at h
 split at h
 ·cases h; exact ⟨by decide,by decide⟩
 split at h
 ·cases h; exact ⟨by decide,by decide⟩
 ·cases h
theorem leaf_note {K : PySem.W.Frag} {H : Hp} {S : MS} {wd : Str} {nv : V} {d : Dt} {pl : List Nat} {ar : List (Str × Str × V)} (h : IsN K H nv d) (hn : NoteOk wd d) : leafS S wd nv pl ar = leafS S wd (dtV d) pl ar:=by
 rcases h with ⟨_,rfl⟩ | ⟨a,vs,rfl,_,_,rfl⟩
 ·rfl
 ·have h1 : ¬ wd ∈ (["num", "truth"] : List Str):=fun x=>by obtain ⟨v,e⟩:=hn.1 x; cases e
  unfold leafS
  rw [if_neg h1,if_neg h1]
  rfl
theorem leaf_things (S : MS) (wd : Str) (nv : V) (pl : List Nat) (ar : List (Str × Str × V)) : (leafS S wd nv pl ar).2.things = S.things:=by
 unfold leafS
 split
 ·rfl
 split <;> rfl
theorem ok_come {C : Addr} {f : Addr} {fd : FuncData} (F : Fun K "come_to" "Machine.come_to" s_Machine_come_to f fd) (T : Txt K mg) (O : Mc K C) {ap : Addr} {pk : List (Str × V)} (G_PARTS_AWAITED : Glob mg "PARTS_AWAITED" (.ref ap)) (hpa : DkK P w K ap pk) (hpk : ∀ wd,(lookD pk wd).isSome = (partsA wd).isSome∧∀ ns,partsA wd = some ns→∃ b,lookD pk wd = some (.ref b)∧∀ H,SqT K H b (ns.map V.int))
  (MS_ : MethX CX0 P w K mg base 1 C "make_steps" ["self", "many"] (sp_make K C)) (MLf : MethX CX0 P w K mg base 2 C "thing_of_leaf" ["self", "word", "note", "place", "around"] (sp_leaf K C)) : FnOk P w K mg base CX0 3 f fd ["self", "place", "around"] (sp_come K C):=by
 refine F.okq sc_Machine_come_to (fun vs H Q E h=>?_) (fun cdv A outer s H vs Q E hr h=>?_)
 ·obtain ⟨p,e,pl,ev,ar,HB,kvs,L,S,v,wd,d,ts,rfl,_⟩:=h
  rfl
 ·obtain ⟨p,e,pl,ev,ar,HB,kvs,L,S,v,wd,d,ts,rfl,M,hp,he,ale,nA,hv,ht,nok,hpl,z1,z2,z3,z4,q⟩:=h
  refine ⟨_,qss_cons (qs_asg (qe_slice (k_sl K) (qe_dget hr.u1 (qe_fldK K (qv 0)) (qv 1) (fun _ _=>rfl)) (qo_none) (qo_some (qe_int))) (qg_tupK K (n:=2) rfl (qgs_cons (qg_name (i:=3) sc_Machine_come_to.nd rfl (Or.inl rfl)) (qgs_cons (qg_name (i:=4) sc_Machine_come_to.nd rfl (Or.inl rfl)) (qgs_nil)))))
   (qss_cons (qs_if (qt_cmpR (k_ne K hr.u200) (qv 3) (qe_str) (nomark _)) (qss_one (qs_expr (qe_methD (k:=1) K CX0 ["self", "many"] (qv 0) (hr.mono (by decide)) pass0 (qa_cons (qe_int) qa_nil)))) (qss_nil))
   (qss_one (qs_if (qt_cmpR (k_inD P w K) (qv 3) (qe_gl G_PARTS_AWAITED) (by rfl)) (qss_cons (qs_expr (qe_bmK K PySem.F.plainAttrs_list PySem.F.slot_list_append PySem.F.type_list_append mt_append (qe_fldK K (qv 0)) (qa_cons (qe_tup (qa_cons (qv 1) (qa_cons (qv 2) (qa_cons (qe_bl) qa_nil)))) qa_nil)))
   (qss_one (qs_expr (qe_bmK K PySem.F.plainAttrs_list PySem.F.slot_list_extend PySem.F.type_list_extend mt_extend (qe_fldK K (qv 0)) (qa_cons (qe_comp (N:=["number", "around", "place"]) (σ0:=capSt 1 [2,1]) rfl (cscope_fn rfl (by decide +kernel) (by decide +kernel) (by decide +kernel)) (qi_anyK K (qe_ix (k_ixD P w K) (qe_gl G_PARTS_AWAITED) (qv 3) (fun _ _=>rfl))) (takes_in rfl (by rfl)) (fun _ _ _ _=>qg_name (i:=0) nd_Machine_come_to_1 rfl (Or.inl rfl)) (fun _ _ _ _=>qts_nil) (fun _ _ _ _=>qe_tup (qa_cons (qe_op (k_addP K) (qv 2) (qe_tup (qa_cons (qv 0) qa_nil))) (qa_cons (qv 1) (qa_cons (qe_bl) qa_nil))))) qa_nil))))) (qss_one (qs_expr (qe_bmK K PySem.F.plainAttrs_list PySem.F.slot_list_append PySem.F.type_list_append mt_append (qe_fldK K (qv 0)) (qa_cons (qe_methD (k:=2) K CX0 ["self", "word", "note", "place", "around"] (qv 0) (hr.mono (by decide)) pass0 (qa_cons (qv 3) (qa_cons (qv 4) (qa_cons (qv 1) (qa_cons (qv 2) qa_nil))))) qa_nil))))))),?_⟩
  have bg:=big
  cases ht with
  | @mk b pp _ nv _ vs _ qb hn qpp hl hch =>
  walk_at "r"
  refine ⟨_,rfl,L.m,C,L.dx,_,_,rfl,M.ins,O.cl,O.nf,fs_forms L S.steps,_,rfl,L.fd,.ref b,rfl,?_,?_⟩
  ·rw [← hv]
   refine DGet.t M.frm ?_
   rw [plK_kV]
   exact hp
  walk_at "r"
  refine .inr (.inr ⟨b,_,rfl,qb,by show ¬(HT.sIx 3 0 none = 0∧HT.sIx 3 3 (some 2) = 3); decide,fun p1 h1=>?_⟩)
  rw [show cutV [V.str wd,nv,.ref pp] none (some 2) = [V.str wd,nv] from rfl]
  have s1 : Same H (upd H p1 (.tup [.str wd,nv])):=Same.upd h1
  have e1 : upd H p1 (.tup [.str wd,nv]) p1 = some (.tup [.str wd,nv]):=upd_same
  have hp1:=s1 _ _ hp
  have he1:=s1 _ _ he
  have M1:=M.new s1
  have hn1 : IsN K (upd H p1 (.tup [.str wd,nv])) nv d:=hn.same s1.t
  revert s1 e1 hp1 he1 M1 hn1
  generalize upd H p1 (.tup [.str wd,nv]) = H1
  intro s1 e1 hp1 he1 M1 hn1
  refine s_gtup (SqT.of e1) rfl ?_
  refine s_gcons ?_
  refine s_gname ?_
  refine s_gcons ?_
  refine s_gname ?_
  refine s_gnil ?_
  with_reducible refine s_seq ?_
  obtain ⟨S1,hS1⟩ : ∃ S1,S1 = (if wd = "gap" then S else { S with steps:=S.steps + 1 }):=⟨_,rfl⟩
  refine via (t:=tIfS _ _ _) (R:=fun H2=>SameM L H1 H2∧MAt K HB C kvs L H2 S1) ?_ (fun Y hY=>?_)
  ·rintro H2 ⟨m2,M2⟩
   have a2:=M1.a m2
   have t2:=M1.t m2
   have hp2:=(t2 p).1 _ hp1
   have he2:=a2.2 _ _ nA he1
   have ale2 : Al (PrAt K H2) ev ar:=ale.mono (PrAt.same (s1.t.trans t2))
   have m02 : SameM L H H2:=(s1.m L).trans m2
   have hn2 : IsN K H2 nv d:=hn1.same t2
   obtain ⟨y1,y2,y3⟩ : S1.rows = S.rows∧S1.wait = S.wait∧S1.things = S.things:=by
    rw [hS1]
    split <;> exact ⟨rfl,rfl,rfl⟩
   have q : ∀ H',SameM L H H'→MAt K HB C kvs L H' (match partsA wd with
    | some ns=>{ S1 with wait:=(S1.wait ++ [⟨pl,ar,true⟩]) ++ ns.map fun n=>⟨pl ++ [n.toNat],ar,false⟩ }
    | none=>{ (leafS S1 wd (dtV d) pl ar).2 with things:=(leafS S1 wd (dtV d) pl ar).2.things ++ [(leafS S1 wd (dtV d) pl ar).1] })→Q .non H':=by
    intro H' e' M'
    refine q H' e' ?_
    unfold comeS
    rw [← hS1]
    exact M'
   walk_at "r"
   refine ⟨wd,ap,pk,rfl,rfl,hpa,?_⟩
   rw [(hpk wd).1]
   cases hpw : partsA wd with
   | none =>
    rw [hpw] at q
    walk_at "r"
    refine iteF ?_
    walk_at "r"
    obtain ⟨tv,et,att⟩:=M2.things
    refine ⟨_,rfl,L.m,C,L.dx,_,_,rfl,M2.ins,O.cl,O.nt,fs_things L S1.steps,?_⟩
    refine s_tyL (SqL.of et) ?_
    walk_at "r"
    refine ⟨_,rfl,L.m,C,L.dx,_,_,rfl,M2.ins,(fs_no L S1.steps).2.2.1,MLf,?_⟩
    walk_at "r"
    refine ⟨wd,nv,p,e,pl,ev,ar,HB,kvs,L,S1,rfl,M2,hp2,SqL.of he2,ale2,by rw [y1]; omega,(fun x=>by
     obtain ⟨v,rfl⟩:=nok.1 x
     rcases hn2 with ⟨h,_⟩ | ⟨a,vs,_,_,_,h⟩
     ·exact h
     ·cases h),(fun x=>by
     obtain ⟨z,rfl⟩:=nok.2 x
     rcases hn2 with ⟨_,h⟩ | ⟨a,vs,_,_,_,h⟩
     ·injection h with h; exact ⟨z,h.symm⟩
     ·cases h),fun v H3 e3 M3 t3=>?_⟩
    rw [leaf_note hn2 nok] at M3 t3
    obtain ⟨tv3,et3,at3⟩:=M3.things
    have hl3 : tv3.length = S.things.length:=by rw [at3.1,leaf_things,y3]
    walk_at "r"
    refine s_app et3 (by omega) ?_
    have M4:=M3.setThings (at3.snoc t3)
    walk_at "r"
    exact q _ (m02.trans (e3.trans (SameM.upd (.inr (.inr (.inr rfl)))))) M4
   | some ns =>
    rw [hpw] at q
    obtain ⟨nl,nn⟩:=partsA_nn hpw
    obtain ⟨bt,hbt,qbt⟩:=(hpk wd).2 ns hpw
    walk_at "r"
    refine iteT ?_
    walk_at "r"
    obtain ⟨wv,ew,aw⟩:=M2.wait
    have hwl : wv.length = S.wait.length:=by rw [aw.1,y2]
    refine ⟨_,rfl,L.m,C,L.dx,_,_,rfl,M2.ins,O.cl,O.nw,fs_wait L S1.steps,?_⟩
    refine s_tyL (SqL.of ew) ?_
    walk_at "r"
    refine ⟨by show 3 ≤ sizeLine; decide,fun r hr'=>?_⟩
    have s3 : Same H2 (upd H2 r (.tup [.ref p,.ref e,.bl true])):=Same.upd hr'
    have e3 : upd H2 r (.tup [.ref p,.ref e,.bl true]) r = some (.tup [.ref p,.ref e,.bl true]):=upd_same
    revert s3 e3
    generalize upd H2 r (.tup [.ref p,.ref e,.bl true]) = H3
    intro s3 e3
    walk_at "r"
    refine s_app (s3 _ _ ew) (by omega) ?_
    have M3:=M2.new s3
    have M4:=M3.setWait (wv:=wv ++ [.ref r]) (ws:=S1.wait ++ [⟨pl,ar,true⟩]) ((aw.mono (WtAt.same s3.a)).snoc ⟨r,p,e,ev,rfl,SqT.of e3,s3 _ _ hp2,s3 _ _ he2,ale2.mono (PrAt.same s3.t),nA⟩)
    have m34 : SameM L H3 (upd H3 L.wd (.lst (wv ++ [.ref r]))):=SameM.upd (.inr (.inr (.inl rfl)))
    have ew4 : upd H3 L.wd (.lst (wv ++ [.ref r])) L.wd = some (.lst (wv ++ [.ref r])):=upd_same
    revert M4 m34 ew4
    generalize upd H3 L.wd (.lst (wv ++ [.ref r])) = H4
    intro M4 m34 ew4
    have t4:=M3.t m34
    have hp4:=(t4 p).1 _ (s3 _ _ hp2)
    have he4:=(M3.a m34).2 _ _ nA (s3 _ _ he2)
    have ale4 : Al (PrAt K H4) ev ar:=ale2.mono (PrAt.same (s3.t.trans t4))
    have m04 : SameM L H H4:=m02.trans ((s3.m L).trans m34)
    walk_at "r"
    refine ⟨_,rfl,L.m,C,L.dx,_,_,rfl,M4.ins,O.cl,O.nw,fs_wait L S1.steps,?_⟩
    refine s_tyL (SqL.of ew4) ?_
    walk_at "r"
    refine ⟨ap,pk,wd,.ref bt,rfl,rfl,hpa,hbt,.inr (.inl ⟨bt,rfl,⟨_,qbt _⟩,fun D hD=>?_⟩)⟩
    obtain ⟨rv4,er4,_⟩:=M4.rows
    obtain ⟨tv4,et4,_⟩:=M4.things
    have nD : ¬ L.A D:=by
     rintro (z | z | z)
     ·rw [z,er4] at hD; cases hD
     ·rw [z,ew4] at hD; cases hD
     ·rw [z,et4] at hD; cases hD
    refine comp_tup (K:=K) (a:=bt) (xs:=ns.map V.int) (Pv:=fun i ys σ' H'=>∃ kv,σ' = [kv,some (.ref e),some (.ref p)]∧Al (WtAt K (fun b=>L.A b ∨ b = D) H') ys ((ns.take i).map fun n=>⟨pl ++ [n.toNat],ar,false⟩)∧Same H4 H') ⟨none,rfl,.nil,Same.upd hD⟩ (fun i ys σ' H' _ _=>qbt _) ?_ ?_
    ·rintro i x ys σ' H5 hx hys ⟨kv,rfl,al5,s5⟩
     rw [List.getElem?_map] at hx
     obtain ⟨n,hni,rfl⟩:=Option.map_eq_some_iff.mp hx
     have hin : i < ns.length:=(List.getElem?_eq_some_iff.mp hni).1
     have n0:=nn n (List.mem_of_getElem? hni)
     obtain ⟨k,rfl⟩ : ∃ k : Nat,n = (k : Int):=⟨n.toNat,by omega⟩
     have hyl : ys.length ≤ 2:=by rw [al5.1,List.length_map,List.length_take]; omega
     walk_at "r"
     refine ⟨by show 1 ≤ sizeLine; decide,fun p6 h6=>?_⟩
     have s6 : Same H5 (upd H5 p6 (.tup [.int (k : Nat)])):=Same.upd h6
     have e6 : upd H5 p6 (.tup [.int (k : Nat)]) p6 = some (.tup [.int (k : Nat)]):=upd_same
     revert s6 e6
     generalize upd H5 p6 (.tup [.int (k : Nat)]) = H6
     intro s6 e6
     refine s_addp (s6 _ _ (s5 _ _ hp4)) e6 (by unfold plV; rw [List.length_map,List.length_singleton]; omega) fun p7 H7 s7 e7=>?_
     walk_at "r"
     refine ⟨by show 3 ≤ sizeLine; decide,fun p8 h8=>?_⟩
     have s8 : Same H7 (upd H7 p8 (.tup [.ref p7,.ref e,.bl false])):=Same.upd h8
     have e8 : upd H7 p8 (.tup [.ref p7,.ref e,.bl false]) p8 = some (.tup [.ref p7,.ref e,.bl false]):=upd_same
     revert s8 e8
     generalize upd H7 p8 (.tup [.ref p7,.ref e,.bl false]) = H8
     intro s8 e8
     have s58:=s6.trans (s7.trans s8)
     have s48:=s5.trans s58
     refine ⟨_,s58 _ _ hys,by omega,_,upd_same,?_⟩
     have hD8:=s58 _ _ hys
     have sA : SameA (fun b=>L.A b ∨ b = D) H8 (upd H8 D (.lst (ys ++ [.ref p8]))):=SameA.set hD8 (.inr rfl)
     have nED : e ≠ D:=fun z=>by rw [← z,he4] at hD; cases hD
     ·refine ⟨_,rfl,?_,s48.over hD⟩
      rw [List.take_add_one,hni,Option.toList_some,List.map_append,List.map_singleton]
      refine (al5.mono fun v x h=>WtAt.same sA v x (WtAt.same s58.a v x h)).snoc (WtAt.same sA _ _ ⟨p8,p7,e,ev,rfl,SqT.of e8,?_,s48 _ _ he4,ale4.mono (PrAt.same s48.t),fun h=>h.elim nA nED⟩)
      have e9:=s8 _ _ e7
      show H8 p7 = some (.tup (plV (pl ++ [((k : Nat) : Int).toNat])))
      rw [show plV (pl ++ [((k : Nat) : Int).toNat]) = plV pl ++ [.int ((k : Nat) : Int)] by unfold plV; rw [List.map_append]; simp]
      exact e9
    ·rintro ys σ' H5 hys ⟨kv,rfl,al5,s5⟩
     rw [List.length_map,List.take_length] at al5
     have al5:=al5.mono (WtAt.mono (B:=L.A) fun b hb _=>.inl hb)
     walk_at "r"
     have hyl : ys.length ≤ 2:=by rw [al5.1,List.length_map]; omega
     refine ⟨L.wd,D,_,ys,rfl,rfl,s5 _ _ ew4,hys,by rw [List.length_append,List.length_singleton]; omega,?_⟩
     have M5:=M4.new s5
     obtain ⟨wv5,ew5,aw5⟩:=M5.wait
     have ew5' : wv5 = wv ++ [.ref r]:=by rw [s5 _ _ ew4] at ew5; cases ew5; rfl
     subst ew5'
     have M6:=M5.setWait (aw5.append al5)
     walk_at "r"
     exact q _ (m04.trans ((s5.m L).trans (SameM.upd (.inr (.inr (.inl rfl)))))) M6
  ·walk_at "r"
   by_cases hg : wd = "gap"
   ·rw [decide_eq_true (by rw [hg])]
    walk_at "r"
    exact hY _ ⟨SameM.refl _ _,by rw [hS1,if_pos hg]; exact M1⟩
   ·rw [decide_eq_false (fun h=>hg (V.str.inj h))]
    walk_at "r"
    refine ⟨_,rfl,L.m,C,L.dx,_,_,rfl,M1.ins,(fs_no L S.steps).1,MS_,?_⟩
    walk_at "r"
    refine ⟨1,HB,kvs,L,S,rfl,M1,z4,fun H2 e2 M2=>?_⟩
    walk_at "r"
    exact hY _ ⟨e2,by rw [hS1,if_neg hg]; exact M2⟩
theorem cutV_back (xs : List V) (n : Nat) (h0 : 0 < n) (h : n ≤ xs.length) : cutV xs (some (-(n : Int))) none = xs.drop (xs.length - n)∧cutV xs none (some (-(n : Int))) = xs.take (xs.length - n):=by
 unfold cutV
 have e : ∀ d,HT.sIx xs.length d (some (-(n : Int))) = xs.length - n:=by
  intro d
  show (if (-(n : Int)) < 0 then ((-(n : Int)) + (xs.length : Int)).toNat else min (-(n : Int)).toNat xs.length) = _
  rw [if_pos (by omega)]
  omega
 rw [e,e,HT.sIx_none,HT.sIx_none,Nat.sub_zero,List.drop_zero]
 refine ⟨?_,rfl⟩
 rw [List.take_of_length_le (by rw [List.length_drop]; omega)]
noncomputable def sp_taken (K : PySem.W.Frag) (C : Addr) : Sp:=fun vs H Q _=>∃ (n : Nat) (th last : List (Str × V)) (HB : Hp) (kvs : List (List Key × V)) (L : Ml) (S : MS),vs = [.ref L.m,.int (n : Nat)]∧MAt K HB C kvs L H S∧0 < n∧S.things = th ++ last∧last.length = n ∧
 ∀ (l t : Addr) (lv : List V) (H' : Hp),SameM L H H'→MAt K HB C kvs (L.with t) H' { S with things:=th }→H t = none→H' l = some (.lst lv)→Al (ThAt K H') lv last→H l = none→l ≠ t→Q (.ref l) H'
theorem sc_Machine_taken_things : FnScope ["self", "many", "taken"] ["self", "many"] (defScope s_Machine_taken_things):=⟨rfl,rfl,rfl,by decide +kernel,rfl,by decide +kernel,by decide +kernel⟩
theorem ok_taken {C : Addr} {f : Addr} {fd : FuncData} (F : Fun K "taken_things" "Machine.taken_things" s_Machine_taken_things f fd) (T : Txt K mg) (O : Mc K C) : FnOk P w K mg base CX0 1 f fd ["self", "many"] (sp_taken K C):=by
 refine F.okq sc_Machine_taken_things (fun vs H Q E h=>?_) (fun cdv A outer s H vs Q E hr h=>?_)
 ·obtain ⟨n,th,last,HB,kvs,L,S,rfl,_⟩:=h
  rfl
 ·obtain ⟨n,th,last,HB,kvs,L,S,rfl,M,n0,hS,hln,q⟩:=h
  refine ⟨_,qss_cons (qs_set (i:=2) sc_Machine_taken_things.nd rfl (Or.inl rfl) (qe_slice (k_sl K) (qe_fldK K (qv 0)) (qo_some (qe_un un_neg (qv 1))) (qo_none)))
   (qss_cons (qs_fldK K (qv 0) (qe_slice (k_sl K) (qe_fldK K (qv 0)) (qo_none) (qo_some (qe_un un_neg (qv 1)))))
   (qss_one (qs_ret (qv 2)))),?_⟩
  obtain ⟨tv,et,att⟩:=M.things
  have hlt : tv.length = th.length + n:=by rw [att.1,hS,List.length_append,hln]
  obtain ⟨c1,c2⟩:=cutV_back tv n n0 (by omega)
  have e0 : tv.length - n = th.length:=by omega
  rw [e0] at c1 c2
  rw [hS] at att
  walk_at "r"
  refine ⟨_,rfl,L.m,C,L.dx,_,_,rfl,M.ins,O.cl,O.nt,fs_things L S.steps,?_⟩
  walk_at "r"
  refine s_sl_lst (SqL.of et) fun l hl=>?_
  rw [c1]
  have s1 : Same H (upd H l (.lst (tv.drop th.length))):=Same.upd hl
  have e1 : upd H l (.lst (tv.drop th.length)) l = some (.lst (tv.drop th.length)):=upd_same
  revert s1 e1
  generalize upd H l (.lst (tv.drop th.length)) = H1
  intro s1 e1
  have M1:=M.new s1
  walk_at "r"
  refine ⟨_,rfl,L.m,C,L.dx,_,_,rfl,M1.ins,O.cl,O.nt,fs_things L S.steps,?_⟩
  walk_at "r"
  refine s_sl_lst (SqL.of (s1 _ _ et)) fun t ht=>?_
  rw [c2]
  have s2 : Same H1 (upd H1 t (.lst (tv.take th.length))):=Same.upd ht
  have e2 : upd H1 t (.lst (tv.take th.length)) t = some (.lst (tv.take th.length)):=upd_same
  revert s2 e2
  generalize upd H1 t (.lst (tv.take th.length)) = H2
  intro s2 e2
  have s02:=s1.trans s2
  have M2:=M.new s02
  have hlt' : l ≠ t:=fun z=>by rw [← z,e1] at ht; cases ht
  have ht0:=s1.free ht
  have a1 : Al (ThAt K H2) (tv.take th.length) th:=⟨by rw [List.length_take]; omega,fun j v x f1 f2=>by
   have hj : j < th.length:=(List.getElem?_eq_some_iff.mp f2).1
   rw [List.getElem?_take_of_lt hj] at f1
   exact ThAt.same s02.t _ _ (att.2 j v x f1 (by rw [List.getElem?_append_left hj]; exact f2))⟩
  have a2 : Al (ThAt K H2) (tv.drop th.length) last:=⟨by rw [List.length_drop]; omega,fun j v x f1 f2=>by
   rw [List.getElem?_drop] at f1
   exact ThAt.same s02.t _ _ (att.2 (th.length + j) v x f1 (by rw [List.getElem?_append_right (by omega),Nat.add_sub_cancel_left]; exact f2))⟩
  obtain ⟨M3,e3⟩:=M.swap s02 ht0 e2 a1
  refine ⟨_,rfl,L.m,C,L.dx,_,rfl,M2.ins,O.cl,O.nt,by show 5 < 1000; decide,?_⟩
  rw [fs_td]
  have nlm : l ≠ L.m:=fun z=>by rw [z,M.ins] at hl; cases hl
  walk_at "r"
  refine q l t _ _ e3 M3 ht0 ((upd_ne nlm).trans (s2 _ _ e1)) (a2.mono (ThAt.same ?_)) hl hlt'
  exact M2.t (SameM.upd (.inl rfl))
theorem dec_str (a b : Str) : decide (V.str a = V.str b) = decide (a = b):=by
 by_cases h : a = b
 ·rw [decide_eq_true h,decide_eq_true (by rw [h])]
 ·rw [decide_eq_false h,decide_eq_false (fun x=>h (V.str.inj x))]
noncomputable def numsB (ops : List (Str × V)) : Bool:=ops.all fun x=>decide (x.1 = ("num" : Str))
noncomputable def sp_nums (K : PySem.W.Frag) : Sp:=fun vs H Q _=>∃ (o : Addr) (ov : List V) (ops : List (Str × V)),vs = [.ref o]∧H o = some (.lst ov)∧Al (ThAt K H) ov ops∧ops.length ≤ 1000∧∀ H',Same H H'→Q (.bl (numsB ops)) H'
theorem nd_are_numbers_1 : (["thing"] : List Str).Nodup:=by decide +kernel
theorem sc_are_numbers : FnScope ["things"] ["things"] (defScope s_are_numbers):=⟨rfl,rfl,rfl,by decide +kernel,rfl,by decide +kernel,by decide +kernel⟩
theorem ok_nums {f : Addr} {fd : FuncData} (F : Fun K "are_numbers" "are_numbers" s_are_numbers f fd) (T : Txt K mg) : FnOk P w K mg base CX0 1 f fd ["things"] (sp_nums K):=by
 refine F.okq sc_are_numbers (fun vs H Q E h=>?_) (fun cdv A outer s H vs Q E hr h=>?_)
 ·obtain ⟨o,ov,ops,rfl,_⟩:=h
  rfl
 ·obtain ⟨o,ov,ops,rfl,ho,al,hl,q⟩:=h
  refine ⟨_,qss_one (qs_ret (qe_callB (k_all K rfl) (by rfl) T.all (by decide +kernel) (qa_cons (qe_comp (N:=["thing"]) (σ0:=capSt 1 []) rfl (cscope_fn rfl (by decide +kernel) (by decide +kernel) (by decide +kernel)) (qi_anyK K (qv 0)) (takes_in rfl (by rfl)) (fun _ _ _ _=>qg_name (i:=0) nd_are_numbers_1 rfl (Or.inl rfl)) (fun _ _ _ _=>qts_nil) (fun _ _ _ _=>qe_cmpR (k_eq K hr.u200) (qe_ix (k_ix K) (qv 0) (qe_int) (fun _ _=>rfl)) (qe_str) (nomark _))) qa_nil))),?_⟩
  have bg:=big
  have hlen:=al.1
  walk_at "r"
  refine .inl ⟨o,rfl,⟨_,SqL.of ho⟩,fun D hD=>?_⟩
  refine comp_list (K:=K) (a:=o) (xs:=ov) (Pv:=fun i ys σ' H'=>∃ kv,σ' = [kv]∧ys = ((ops.take i).map fun x : Str × V=>decide (x.1 = ("num" : Str))).map V.bl∧Same H H') ⟨none,rfl,rfl,Same.upd hD⟩ ?_ ?_ ?_
  ·rintro i ys σ' H' _ ⟨kv,_,_,sm⟩
   exact SqL.of (sm _ _ ho)
  ·rintro i x ys σ' H' hx hys ⟨kv,rfl,rfl,sm⟩
   obtain ⟨y,hy,_,a,rfl,qa⟩:=al.get hx
   have hi : i < ov.length:=(List.getElem?_eq_some_iff.mp hx).1
   walk_at "r"
   refine s_ix_tup (sm.tup qa) rfl ?_
   walk_at "r"
   rw [dec_str]
   refine ⟨_,hys,by rw [List.length_map,List.length_map,List.length_take]; omega,_,upd_same,_,rfl,?_,sm.over hD⟩
   rw [List.take_add_one,hy,Option.toList_some,List.map_append,List.map_append]
   rfl
  ·rintro ys σ' H' hys ⟨kv,rfl,rfl,sm⟩
   walk_at "r"
   refine ⟨D,_,rfl,SqL.of hys,?_⟩
   walk_at "r"
   have q':=q H' sm
   rw [hlen,List.take_length]
   unfold numsB at q'
   rw [List.all_map]
   exact q'
noncomputable def recT (wd : Str) (i j : Int) : Str × V:=if wd = "plus" then ("num",.int (i + j)) else if wd = "minus" then ("num",.int (i - j)) else ("truth",.bl (decide (i < j)))
noncomputable def sp_reck (K : PySem.W.Frag) : Sp:=fun vs H Q _=>∃ (wd : Str) (i j : Int),vs = [.str wd,.int i,.int j]∧∀ v H',Same H H'→ThAt K H' v (recT wd i j)→Q v H'
theorem sc_reckoned : FnScope ["word", "left", "right"] ["word", "left", "right"] (defScope s_reckoned):=⟨rfl,rfl,rfl,by decide +kernel,rfl,by decide +kernel,by decide +kernel⟩
theorem ok_reck {f : Addr} {fd : FuncData} (F : Fun K "reckoned" "reckoned" s_reckoned f fd) (T : Txt K mg) : FnOk P w K mg base CX0 1 f fd ["word", "left", "right"] (sp_reck K):=by
 refine F.okq sc_reckoned (fun vs H Q E h=>?_) (fun cdv A outer s H vs Q E hr h=>?_)
 ·obtain ⟨wd,i,j,rfl,_⟩:=h
  rfl
 ·obtain ⟨wd,i,j,rfl,q⟩:=h
  refine ⟨_,qss_cons (qs_if (qt_cmpR (k_eq K hr.u200) (qv 0) (qe_str) (nomark _)) (qss_one (qs_ret (qe_tup (qa_cons (qe_str) (qa_cons (qe_op (k_add K) (qv 1) (qv 2)) qa_nil))))) (qss_nil))
   (qss_cons (qs_if (qt_cmpR (k_eq K hr.u200) (qv 0) (qe_str) (nomark _)) (qss_one (qs_ret (qe_tup (qa_cons (qe_str) (qa_cons (qe_op op_sub (qv 1) (qv 2)) qa_nil))))) (qss_nil))
   (qss_one (qs_ret (qe_tup (qa_cons (qe_str) (qa_cons (qe_cmpR op_ltA (qv 1) (qv 2) (nomark _)) qa_nil)))))),?_⟩
  unfold recT at q
  walk_at "r"
  rw [dec_str]
  refine ite2 (fun h=>?_) (fun h=>?_)
  ·have h : wd = "plus":=of_decide_eq_true h
   rw [if_pos h] at q
   walk_at "r"
   refine ⟨by show 2 ≤ sizeLine; decide,fun p hp=>?_⟩
   exact q _ _ (Same.upd hp) ⟨rfl,p,rfl,SqT.of upd_same⟩
  have h : ¬ wd = "plus":=fun x=>h (decide_eq_true x)
  rw [if_neg h] at q
  walk_at "r"
  rw [dec_str]
  refine ite2 (fun h=>?_) (fun h=>?_)
  ·have h : wd = "minus":=of_decide_eq_true h
   rw [if_pos h] at q
   walk_at "r"
   refine ⟨by show 2 ≤ sizeLine; decide,fun p hp=>?_⟩
   exact q _ _ (Same.upd hp) ⟨rfl,p,rfl,SqT.of upd_same⟩
  have h : ¬ wd = "minus":=fun x=>h (decide_eq_true x)
  rw [if_neg h] at q
  walk_at "r"
  refine ⟨by show 2 ≤ sizeLine; decide,fun p hp=>?_⟩
  exact q _ _ (Same.upd hp) ⟨rfl,p,rfl,SqT.of upd_same⟩
noncomputable def sp_placed (K : PySem.W.Frag) : Sp:=fun vs H Q _=>∃ (v : V) (t : Tr),vs = [v]∧TrAt K H v t∧t.size ≤ 2000∧∀ (p : Addr) (rows : List V) (H' : Hp),Same H H'→H p = none→H' p = some (.lst rows)→Al (RowT K H') rows (walk [] t)→Q (.ref p) H'
theorem sc_placed_forms : FnScope ["tree", "told", "waiting", "pair", "number", "part"] ["tree"] (defScope s_placed_forms):=⟨rfl,rfl,rfl,by decide +kernel,rfl,by decide +kernel,by decide +kernel⟩
noncomputable def PlJ (K : PySem.W.Frag) (H : Hp) (v : V) (t : Tr) (pt pw : Addr) (m : Nat) (σ : St) (H' : Hp) : Prop:=∃ (v3 v4 v5 : Option V) (tv wv : List V) (dn st : List (List Nat × Tr)),σ = [some v,some (.ref pt),some (.ref pw),v3,v4,v5]∧H' pt = some (.lst tv)∧H' pw = some (.lst wv) ∧
 Al (RowT K H') tv dn∧Al (RowT K H') wv st∧dn ++ todo st = walk [] t∧m = load st∧Same H H'
theorem ok_placed {f : Addr} {fd : FuncData} (F : Fun K "placed_forms" "placed_forms" s_placed_forms f fd) (T : Txt K mg) : FnOk P w K mg base CX0 1 f fd ["tree"] (sp_placed K):=by
 refine F.okq sc_placed_forms (fun vs H Q E h=>?_) (fun cdv A outer s H vs Q E hr h=>?_)
 ·obtain ⟨v,t,rfl,_⟩:=h
  rfl
 ·obtain ⟨v,t,rfl,ht,hz,q⟩:=h
  refine ⟨_,qss_cons (qs_set (i:=1) sc_placed_forms.nd rfl (Or.inl rfl) (qe_lst (qa_nil)))
   (qss_cons (qs_set (i:=2) sc_placed_forms.nd rfl (Or.inl rfl) (qe_lst (qa_cons (qe_tup (qa_cons (qe_tup (qa_nil)) (qa_cons (qv 0) qa_nil))) qa_nil)))
   (qss_cons (qs_while PassesOwn.never (qt_truthK K (qv 2) (by intro _; rfl)) (qss_cons (qs_set (i:=3) sc_placed_forms.nd rfl (Or.inl rfl) (qe_bm0K K PySem.F.plainAttrs_list PySem.F.slot_list_pop PySem.F.type_list_pop mt_pop (qv 2)))
   (qss_cons (qs_expr (qe_bmK K PySem.F.plainAttrs_list PySem.F.slot_list_append PySem.F.type_list_append mt_append (qv 1) (qa_cons (qv 3) qa_nil)))
   (qss_one (qs_for PassesOwn.never rfl (qi_revK K rfl T.reversed (qa_cons (qe_list_enumerateK K (by rfl) T.list (by rfl) T.enumerate (qa_cons (qe_ix (k_ix K) (qe_ix (k_ix K) (qv 3) (qe_int) (fun _ _=>rfl)) (qe_int) (fun _ _=>rfl)) qa_nil)) qa_nil)) (qg_tupK K (n:=2) rfl (qgs_cons (qg_name (i:=4) sc_placed_forms.nd rfl (Or.inl rfl)) (qgs_cons (qg_name (i:=5) sc_placed_forms.nd rfl (Or.inl rfl)) (qgs_nil)))) (qss_one (qs_expr (qe_bmK K PySem.F.plainAttrs_list PySem.F.slot_list_append PySem.F.type_list_append mt_append (qv 2) (qa_cons (qe_tup (qa_cons (qe_op (k_addP K) (qe_ix (k_ix K) (qv 3) (qe_int) (fun _ _=>rfl)) (qe_tup (qa_cons (qv 4) qa_nil))) (qa_cons (qv 5) qa_nil))) qa_nil)))))))))
   (qss_one (qs_ret (qv 1))))),?_⟩
  have bg:=big
  walk_at "r"
  refine ⟨by show 0 ≤ sizeLine; decide,fun pt hpt=>?_⟩
  walk_at "r"
  refine ⟨by show 0 ≤ sizeLine; decide,fun p0 hp0=>?_⟩
  walk_at "r"
  refine ⟨by show 2 ≤ sizeLine; decide,fun p1 hp1=>?_⟩
  walk_at "r"
  refine ⟨by show 1 ≤ sizeLine; decide,fun pw hpw=>?_⟩
  walk_at "r"
  have s0 : Same (upd H pt (.lst [])) _:=((Same.upd (o:=.tup []) hp0).put (o:=.tup [.ref p0,v]) hp1).put (o:=.lst [.ref p1]) hpw
  have s1 : Same (upd (upd H pt (.lst [])) p0 (.tup [])) _:=(Same.upd (o:=.tup [.ref p0,v]) hp1).put (o:=.lst [.ref p1]) hpw
  have s2:=Same.upd (o:=.lst [.ref p1]) hpw
  have sH:=(Same.upd (o:=.lst []) hpt).trans s0
  have ept:=s0 pt _ upd_same
  have epw : upd (upd (upd (upd H pt (.lst [])) p0 (.tup [])) p1 (.tup [.ref p0,v])) pw (.lst [.ref p1]) pw = some (.lst [.ref p1]):=upd_same
  have ep0:=s1 p0 _ upd_same
  have ep1:=s2 p1 _ upd_same
  have npw : pt ≠ pw:=fun z=>by rw [z] at ept; rw [upd_same] at ept; cases ept
  have hpw0 : H pw = none:=((Same.upd (o:=.lst []) hpt).trans ((Same.upd (o:=.tup []) hp0).put (o:=.tup [.ref p0,v]) hp1)).free hpw
  refine ⟨PlJ K H v t pt pw,⟨_,none,none,none,[],[.ref p1],[],[([],t)],rfl,ept,epw,.nil,Al.nil.snoc ⟨p1,p0,v,rfl,SqT.of ep1,ep0,ht.same sH⟩,by simp [todo],rfl,sH⟩,?_⟩
  rintro m σ' H' ⟨v3,v4,v5,tv,wv,dn,st,rfl,et,ew,al1,al2,hw,rfl,sm⟩
  have hdl : dn.length + load st = t.size:=by
   have:=congrArg List.length hw
   rw [List.length_append,walk_len] at this
   exact this
  have htl : tv.length = dn.length:=al1.1
  walk_at "r"
  refine s_tru_lst (SqL.of ew) ?_
  by_cases hwv : wv = []
  ·subst hwv
   have hst : st = []:=List.eq_nil_of_length_eq_zero al2.1.symm
   subst hst
   refine iteF ?_
   walk_at "r"
   rw [todo_nil,List.append_nil] at hw
   rw [hw] at al1
   exact q pt tv H' sm hpt et al1
  obtain ⟨wv',tp,st',x,rfl,rfl,al3,hrow⟩:=al2.last hwv
  have hne : (!(wv' ++ [tp]).isEmpty) = true:=by simp
  rw [hne]
  refine iteT ?_
  obtain ⟨pl,tx⟩:=x
  have hx : (pl,tx) ∈ walk [] t:=by rw [← hw,todo_pop]; simp
  have hpl : pl.length ≤ 2000:=by have:=walk_depth [] t _ hx; simp at this; omega
  have hload:=load_pop st' (pl,tx)
  have hll:=load_len (st' ++ (kids pl 0 tx.ps).reverse)
  refine ⟨fun σ2 H2=>∃ m',m' < load (st' ++ [(pl,tx)])∧PlJ K H v t pt pw m' σ2 H2,fun _ _ h=>h,?_⟩
  walk_at "r"
  refine s_tyL (SqL.of ew) ?_
  refine s_pop ew ?_
  have t1 : SameT H' (upd H' pw (.lst wv')):=SameT.set ew
  have et2 : upd H' pw (.lst wv') pt = some (.lst tv):=by rw [upd_ne npw]; exact et
  walk_at "r"
  refine s_tyL (SqL.of et2) ?_
  walk_at "r"
  refine s_app et2 (by omega) ?_
  have t2 : SameT H' (upd (upd H' pw (.lst wv')) pt (.lst (tv ++ [tp]))):=t1.trans (SameT.set et2)
  have et3 : upd (upd H' pw (.lst wv')) pt (.lst (tv ++ [tp])) pt = some (.lst (tv ++ [tp])):=upd_same
  have ew3 : upd (upd H' pw (.lst wv')) pt (.lst (tv ++ [tp])) pw = some (.lst wv'):=by rw [upd_ne npw.symm,upd_same]
  have sm3 : Same H (upd (upd H' pw (.lst wv')) pt (.lst (tv ++ [tp]))):=(sm.over hpw0).over hpt
  revert t2 et3 ew3 sm3
  generalize upd (upd H' pw (.lst wv')) pt (.lst (tv ++ [tp])) = H3
  intro t2 et3 ew3 sm3
  have hrow3:=RowT.same t2 _ _ hrow
  obtain ⟨a,p,u,rfl,qa,qp,hu⟩:=id hrow3
  cases hu with
  | @mk b pp wd nv n vs ts qb hn qpp hl hch =>
  walk_at "r"
  refine s_ix_tup qa rfl ?_
  walk_at "r"
  refine s_ix_tup qb rfl ?_
  walk_at "r"
  refine ⟨pp,vs,rfl,qpp,fun S ys H4 hS s4 hl4 hpairs hS4=>?_⟩
  walk_at "r"
  refine ⟨S,ys,rfl,SqL.of hS4,?_⟩
  have nSp : pw ≠ S:=ne_of_none ew3 hS
  have nSt : pt ≠ S:=ne_of_none et3 hS
  have al4 : Al (RowT K H4) wv' st':=al3.mono (RowT.same (t2.trans s4.t))
  have hkl : (kids pl 0 ts).length = ys.length:=by rw [kids_len]; omega
  refine for_rev (K:=K) (a:=S) (xs:=ys) (fun j σ5 H5=>∃ (v4 v5 : Option V) (wv5 : List V),σ5 = [some v,some (.ref pt),some (.ref pw),some (.ref a),v4,v5]∧H5 pt = some (.lst (tv ++ [.ref a]))∧H5 pw = some (.lst wv5)∧H5 S = some (.lst ys)∧Al (RowT K H5) wv5 (st' ++ ((kids pl 0 ts).drop (ys.length - j)).reverse)∧SameT H4 H5∧Same H H5)
   ⟨_,_,wv',rfl,s4 _ _ et3,s4 _ _ ew3,hS4,by rw [Nat.sub_zero,List.drop_of_length_le (by omega)]; simpa using al4,SameT.refl _,sm3.trans s4⟩ ?_ ?_ ?_
  ·rintro j σ5 H5 _ ⟨_,_,_,_,_,_,e,_⟩
   exact SqL.of e
  ·rintro i y σ5 H5 hi hy ⟨v4',v5',wv5,rfl,e5t,e5w,e5s,al5,t5,sm5⟩
   obtain ⟨tt,xw,rfl,hxw,htt⟩:=hpairs _ _ hy
   have htt5:=(t5 tt).1 _ htt
   walk_at "r"
   refine s_gtup (SqT.of htt5) rfl ?_
   walk_at "r"
   refine s_tyL (SqL.of e5w) ?_
   walk_at "r"
   have T5 : SameT H3 H5:=s4.t.trans t5
   refine s_ix_tup (T5.tup qa) rfl ?_
   walk_at "r"
   refine ⟨by show 1 ≤ sizeLine; decide,fun p6 h6=>?_⟩
   refine s_addp (((T5.trans (SameT.new h6)) p).1 _ qp) upd_same (by show (plV pl).length + 1 ≤ sizeLine; unfold plV; rw [List.length_map]; omega) fun r H7 s7 q7=>?_
   walk_at "r"
   refine ⟨by show 2 ≤ sizeLine; decide,fun p7 h7=>?_⟩
   walk_at "r"
   have s57 : Same H5 H7:=(Same.upd h6).trans s7
   have s58:=s57.put (o:=.tup [.ref r,xw]) h7
   have hlw : wv5.length = st'.length + ((kids pl 0 ts).drop (ys.length - i)).length:=by have:=al5.1; simp at this ⊢; omega
   have hlk : (st' ++ (kids pl 0 ts).reverse).length = st'.length + ys.length:=by rw [List.length_append,List.length_reverse,hkl]
   have hll' : (st' ++ (kids pl 0 ts).reverse).length ≤ 2000:=by
    have h1 : load (st' ++ (kids pl 0 (Tr.mk wd n ts).ps).reverse) < load (st' ++ [(pl,Tr.mk wd n ts)]):=hload
    have h2 : (st' ++ (kids pl 0 (Tr.mk wd n ts).ps).reverse).length ≤ load (st' ++ (kids pl 0 (Tr.mk wd n ts).ps).reverse):=hll
    have h3 : (Tr.mk wd n ts).ps = ts:=rfl
    rw [h3] at h1 h2
    omega
   have hdr : ((kids pl 0 ts).drop (ys.length - i)).length ≤ ys.length:=by rw [List.length_drop]; omega
   refine s_app (s58 _ _ e5w) (by omega) ?_
   have e8w:=s58 _ _ e5w
   have t9 : SameT H5 (upd (upd H7 p7 (.tup [.ref r,xw])) pw (.lst (wv5 ++ [.ref p7]))):=s58.t.trans (SameT.set e8w)
   obtain ⟨tk,htk,hat⟩ : ∃ tk,ts[ys.length - 1 - i]? = some tk∧TrAt K H3 xw tk:=by
    have hj:=(List.getElem?_eq_some_iff.mp hxw).1
    have hj' : ys.length - 1 - i < ts.length:=by omega
    exact ⟨_,List.getElem?_eq_getElem hj',hch _ _ _ hxw (List.getElem?_eq_getElem hj')⟩
   have hkid : (kids pl 0 ts)[ys.length - 1 - i]? = some (pl ++ [ys.length - 1 - i],tk):=by
    rw [kids_get,htk]
    simp
   refine ⟨_,_,wv5 ++ [.ref p7],rfl,?_,upd_same,?_,?_,t5.trans t9,(sm5.trans s58).over hpw0⟩
   ·rw [upd_ne npw]; exact s58 _ _ e5t
   ·rw [upd_ne nSp.symm]; exact s58 _ _ e5s
   ·rw [drop_step hkl hi hkid,← List.append_assoc]
    refine (al5.mono (RowT.same t9)).snoc ⟨p7,r,xw,rfl,(SameT.set e8w).tup (SqT.of upd_same),?_,hat.sameT (T5.trans t9)⟩
    have q9:=(((SameT.new (o:=.tup [.ref r,xw]) h7).trans (SameT.set (o:=.lst (wv5 ++ [.ref p7])) e8w)) r).1 _ q7
    have e : plV (pl ++ [ys.length - 1 - i]) = plV pl ++ [.int ((ys.length - 1 - i : Nat) : Int)]:=by unfold plV; rw [List.map_append]; rfl
    show upd _ _ _ r = some (.tup (plV (pl ++ [ys.length - 1 - i])))
    rw [e]
    exact q9
  ·rintro σ5 H5 ⟨v4',v5',wv5,rfl,e5t,e5w,e5s,al5,t5,sm5⟩
   rw [Nat.sub_self,List.drop_zero] at al5
   refine ⟨_,hload,_,_,_,tv ++ [.ref a],wv5,dn ++ [(pl,.mk wd n ts)],_,rfl,e5t,e5w,?_,al5,?_,rfl,sm5⟩
   ·exact (al1.mono (RowT.same (t2.trans (s4.t.trans t5)))).snoc (RowT.same (s4.t.trans t5) _ _ hrow3)
   ·rw [← hw,todo_pop,List.append_assoc]
    rfl
noncomputable def isFnT (rs : List Rx) (x : Str × V) : Bool:=match x with
 | (w,.int k)=>decide (w = "row") && (match rs[k.toNat]? with | some r=>decide (r.wd ∈ (["fn", "rec"] : List Str)) | none=>false)
 | _=>false
noncomputable def RowOk (rs : List Rx) (x : Str × V) : Prop:=x.1 = "row"→∃ k : Nat,x.2 = .int (k : Nat)∧k < rs.length
noncomputable def sp_fin (K : PySem.W.Frag) : Sp:=fun vs H Q _=>∃ (v : V) (x : Str × V) (r : Addr) (rv : List V) (A : Addr→Prop) (rs : List Rx),vs = [v,.ref r]∧ThAt K H v x∧x.1 = "row"∧RowOk rs x∧H r = some (.lst rv)∧Al (RwAt K A H) rv rs∧∀ H',Same H H'→Q (.bl (isFnT rs x)) H'
theorem sc_is_finished : FnScope ["thing", "rows"] ["thing", "rows"] (defScope s_is_finished):=⟨rfl,rfl,rfl,by decide +kernel,rfl,by decide +kernel,by decide +kernel⟩
theorem ok_fin {f : Addr} {fd : FuncData} (F : Fun K "is_finished" "is_finished" s_is_finished f fd) (T : Txt K mg) : FnOk P w K mg base CX0 1 f fd ["thing", "rows"] (sp_fin K):=by
 refine F.okq sc_is_finished (fun vs H Q E h=>?_) (fun cdv A outer s H vs Q E hr h=>?_)
 ·obtain ⟨v,x,r,rv,A,rs,rfl,_⟩:=h
  rfl
 ·obtain ⟨v,x,r,rv,B,rs,rfl,hx,hw,ok,er,al,q⟩:=h
  refine ⟨_,qss_one (qs_ret (qe_or (qe_cmpR (k_ne K hr.u200) (qe_ix (k_ix K) (qv 0) (qe_int) (fun _ _=>rfl)) (qe_str) (nomark _)) (qe_one (qe_cmpR (k_in K) (qe_ix (k_ix K) (qe_ix (k_ix K) (qv 1) (qe_ix (k_ix K) (qv 0) (qe_int) (fun _ _=>rfl)) (fun _ _=>rfl)) (qe_int) (fun _ _=>rfl)) (qe_tup (qa_cons (qe_str) (qa_cons (qe_str) qa_nil))) (by rfl))))),?_⟩
  obtain ⟨hf,a,rfl,qa⟩:=hx
  obtain ⟨k,ek,hk⟩:=ok hw
  obtain ⟨xw,xv⟩:=x
  have hw : xw = "row":=hw
  have ek : xv = .int (k : Nat):=ek
  subst hw ek
  have hkr : k < rv.length:=by rw [al.1]; exact hk
  obtain ⟨y,hy,a2,p2,o2,e2,ov,ev,h1,h2,_⟩:=al.get (List.getElem?_eq_getElem hkr)
  have ef : isFnT rs ("row",.int (k : Nat)) = decide (y.wd ∈ (["fn", "rec"] : List Str)):=by
   unfold isFnT
   simp only [Int.toNat_natCast,hy,decide_true,Bool.true_and]
  rw [ef] at q
  walk_at "r"
  refine s_ix_tup qa rfl ?_
  walk_at "r"
  rw [decide_eq_true (Eq.refl _)]
  walk_at "r"
  refine s_ix_tup qa rfl ?_
  walk_at "r"
  refine s_ix_lst (SqL.of er) (atI_nat (List.getElem?_eq_getElem hkr)) ?_
  rw [h1]
  walk_at "r"
  refine s_ix_tup h2 rfl ?_
  walk_at "r"
  refine ⟨by show 2 ≤ sizeLine; decide,fun p1 hp1=>?_⟩
  refine s_in_seq (.inr (SqT.of upd_same)) rfl rfl ?_
  rw [if_neg Bool.false_ne_true,show inV (.str y.wd) [.str "fn",.str "rec"] = decide (y.wd ∈ (["fn", "rec"] : List Str)) from in_dec (ws:=["fn", "rec"])]
  exact q _ (Same.upd hp1)
noncomputable def boundN (wd : Str) (d : Dt) (n : Int) : List Str :=
 if wd = "fn" then (match d with | .flat (.str z)=>[z] | _=>[])
 else if wd = "rec" then (match d with | .tup [.flat (.str y),.flat (.str z)]=>[y,z] | _=>[])
 else if wd = "let"∧n = 1 then (match d with | .flat (.str z)=>[z] | _=>[])
 else []
noncomputable def BindOk (wd : Str) (d : Dt) : Prop:=(wd = "fn" ∨ wd = "let"→∃ z,d = .flat (.str z))∧(wd = "rec"→∃ y z,d = .tup [.flat (.str y),.flat (.str z)])
noncomputable def sp_bound (K : PySem.W.Frag) : Sp:=fun vs H Q _=>∃ (v : V) (wd : Str) (d : Dt) (ts : List Tr) (n : Int),vs = [v,.int n]∧TrAt K H v (.mk wd d ts)∧BindOk wd d∧∀ l H',Same H H'→H l = none→H' l = some (.lst ((boundN wd d n).map V.str))→Q (.ref l) H'
theorem sc_names_bound : FnScope ["form", "number"] ["form", "number"] (defScope s_names_bound):=⟨rfl,rfl,rfl,by decide +kernel,rfl,by decide +kernel,by decide +kernel⟩
theorem ok_bound {f : Addr} {fd : FuncData} (F : Fun K "names_bound" "names_bound" s_names_bound f fd) (T : Txt K mg) : FnOk P w K mg base CX0 1 f fd ["form", "number"] (sp_bound K):=by
 refine F.okq sc_names_bound (fun vs H Q E h=>?_) (fun cdv A outer s H vs Q E hr h=>?_)
 ·obtain ⟨v,wd,d,ts,n,rfl,_⟩:=h
  rfl
 ·obtain ⟨v,wd,d,ts,n,rfl,ht,ok,q⟩:=h
  refine ⟨_,qss_cons (qs_if (qt_cmpR (k_eq K hr.u200) (qe_ix (k_ix K) (qv 0) (qe_int) (fun _ _=>rfl)) (qe_str) (nomark _)) (qss_one (qs_ret (qe_lst (qa_cons (qe_ix (k_ix K) (qv 0) (qe_int) (fun _ _=>rfl)) qa_nil)))) (qss_nil))
   (qss_cons (qs_if (qt_cmpR (k_eq K hr.u200) (qe_ix (k_ix K) (qv 0) (qe_int) (fun _ _=>rfl)) (qe_str) (nomark _)) (qss_one (qs_ret (qe_callTy (k_list K) (by rfl) T.list (by decide +kernel) (qa_cons (qe_ix (k_ix K) (qv 0) (qe_int) (fun _ _=>rfl)) qa_nil)))) (qss_nil))
   (qss_cons (qs_if (QW.qt (qw_and (qt_cmpR (k_eq K hr.u200) (qe_ix (k_ix K) (qv 0) (qe_int) (fun _ _=>rfl)) (qe_str) (nomark _)) (qw_and1 (qt_cmpR (k_eq K hr.u200) (qv 1) (qe_int) (nomark _))))) (qss_one (qs_ret (qe_lst (qa_cons (qe_ix (k_ix K) (qv 0) (qe_int) (fun _ _=>rfl)) qa_nil)))) (qss_nil))
   (qss_one (qs_ret (qe_lst (qa_nil)))))),?_⟩
  cases ht with
  | @mk b pp _ nv _ vs _ qb hn qpp hl hch =>
  have flat : ∀ z,d = .flat (.str z)→nv = .str z:=by
   intro z e
   rcases hn with ⟨_,h⟩ | ⟨_,_,_,_,_,h⟩
   ·rw [e] at h; injection h with h; exact h.symm
   ·rw [e] at h; cases h
  unfold boundN at q
  walk_at "r"
  refine s_ix_tup qb rfl ?_
  walk_at "r"
  rw [dec_str]
  refine ite2 (fun h=>?_) (fun h=>?_)
  ·have h : wd = "fn":=of_decide_eq_true h
   obtain ⟨z,rfl⟩:=ok.1 (.inl h)
   have:=flat z rfl
   subst this
   rw [if_pos h] at q
   walk_at "r"
   refine s_ix_tup qb rfl ?_
   walk_at "r"
   refine ⟨by show 1 ≤ sizeLine; decide,fun l hl'=>?_⟩
   exact q l _ (Same.upd hl') hl' upd_same
  have h : ¬ wd = "fn":=fun x=>h (decide_eq_true x)
  rw [if_neg h] at q
  walk_at "r"
  refine s_ix_tup qb rfl ?_
  walk_at "r"
  rw [dec_str]
  refine ite2 (fun h=>?_) (fun h=>?_)
  ·have h : wd = "rec":=of_decide_eq_true h
   obtain ⟨y,z,rfl⟩:=ok.2 h
   rw [if_pos h] at q
   obtain ⟨a,us,rfl,qa,hus⟩ : ∃ a us,nv = .ref a∧SqT K H a us∧us = [.str y,.str z]:=by
    rcases hn with ⟨_,h⟩ | ⟨a,us,e,qa,_,h⟩
    ·cases h
    ·refine ⟨a,us,e,qa,?_⟩
     injection h with h
     match us,h with
     | [u1,u2],h =>
      simp only [List.map_cons,List.map_nil,List.cons.injEq,Dt.flat.injEq,and_true] at h
      rw [h.1,h.2]
   subst hus
   walk_at "r"
   refine s_ix_tup qb rfl ?_
   walk_at "r"
   refine ⟨a,_,rfl,.inr qa,fun l hl'=>?_⟩
   exact q l _ (Same.upd hl') hl' upd_same
  have h : ¬ wd = "rec":=fun x=>h (decide_eq_true x)
  rw [if_neg h] at q
  walk_at "r"
  refine s_ix_tup qb rfl ?_
  walk_at "r"
  rw [dec_str]
  by_cases hlet : wd = "let"
  ·rw [decide_eq_true hlet]
   walk_at "r"
   by_cases hn1 : n = 1
   ·rw [decide_eq_true (by rw [hn1])]
    obtain ⟨z,rfl⟩:=ok.1 (.inr hlet)
    have:=flat z rfl
    subst this
    rw [if_pos ⟨hlet,hn1⟩] at q
    walk_at "r"
    refine s_ix_tup qb rfl ?_
    walk_at "r"
    refine ⟨by show 1 ≤ sizeLine; decide,fun l hl'=>?_⟩
    exact q l _ (Same.upd hl') hl' upd_same
   ·rw [decide_eq_false (fun h=>hn1 (V.int.inj h))]
    rw [if_neg (fun h=>hn1 h.2)] at q
    walk_at "r"
    refine ⟨by show 0 ≤ sizeLine; decide,fun l hl'=>?_⟩
    exact q l _ (Same.upd hl') hl' upd_same
  ·rw [decide_eq_false hlet]
   rw [if_neg (fun h=>hlet h.1)] at q
   walk_at "r"
   refine ⟨by show 0 ≤ sizeLine; decide,fun l hl'=>?_⟩
   exact q l _ (Same.upd hl') hl' upd_same
noncomputable def sp_isfn (K : PySem.W.Frag) (C : Addr) : Sp:=fun vs H Q _=>∃ (v : V) (x : Str × V) (HB : Hp) (kvs : List (List Key × V)) (L : Ml) (S : MS),vs = [.ref L.m,v]∧MAt K HB C kvs L H S∧ThAt K H v x∧RowOk S.rows x∧∀ H',Same H H'→Q (.bl (isFnT S.rows x)) H'
theorem sc_Machine_is_function : FnScope ["self", "thing"] ["self", "thing"] (defScope s_Machine_is_function):=⟨rfl,rfl,rfl,by decide +kernel,rfl,by decide +kernel,by decide +kernel⟩
theorem ok_isfn {C : Addr} {f : Addr} {fd : FuncData} (F : Fun K "is_function" "Machine.is_function" s_Machine_is_function f fd) (T : Txt K mg) (O : Mc K C) (C_is_finished : Callee P w K mg base 1 "is_finished" ["thing", "rows"] (sp_fin K)) : FnOk P w K mg base CX0 2 f fd ["self", "thing"] (sp_isfn K C):=by
 refine F.okq sc_Machine_is_function (fun vs H Q E h=>?_) (fun cdv A outer s H vs Q E hr h=>?_)
 ·obtain ⟨v,x,HB,kvs,L,S,rfl,_⟩:=h
  rfl
 ·obtain ⟨v,x,HB,kvs,L,S,rfl,M,hx,ok,q⟩:=h
  refine ⟨_,qss_one (qs_ret (qe_and (qe_cmpR (k_eq K hr.u200) (qe_ix (k_ix K) (qv 1) (qe_int) (fun _ _=>rfl)) (qe_str) (nomark _)) (qe_one (qe_fn C_is_finished (hr.mono (by decide)) (qa_cons (qv 1) (qa_cons (qe_fldK K (qv 0)) qa_nil)))))),?_⟩
  obtain ⟨hf,a,rfl,qa⟩:=id hx
  obtain ⟨rv,er,ar,spr⟩:=M.rows
  walk_at "r"
  refine s_ix_tup qa rfl ?_
  walk_at "r"
  rw [dec_str]
  by_cases hw : x.1 = "row"
  ·rw [decide_eq_true hw]
   walk_at "r"
   refine ⟨_,rfl,L.m,C,L.dx,_,_,rfl,M.ins,O.cl,O.nr,fs_rows L S.steps,?_⟩
   walk_at "r"
   exact ⟨_,x,L.rd,rv,_,S.rows,rfl,hx,hw,ok,er,ar.mono fun v x h=>h.1,q⟩
  ·rw [decide_eq_false hw]
   have e : isFnT S.rows x = false:=by
    unfold isFnT
    split
    ·simp only at hw
     rw [decide_eq_false hw]
     rfl
    ·rfl
   rw [e] at q
   walk_at "r"
   exact q H (Same.refl _)
noncomputable def zipA (ns : List Str) (xs : List (Str × V)) : List (Str × Str × V):=ns.zip xs
noncomputable def inS (S : MS) (wd : Str) (d : Dt) (pl : List Nat) (n : Nat) (ar : List (Str × Str × V)) (xs : List (Str × V)) : MS:={ S with wait:=S.wait ++ [⟨pl ++ [n],ar ++ zipA (boundN wd d n) xs,false⟩] }
noncomputable def sp_within (K : PySem.W.Frag) (C : Addr) : Sp:=fun vs H Q _=>∃ (p e o : Addr) (n : Nat) (pl : List Nat) (ev ov : List V) (ar : List (Str × Str × V)) (xs : List (Str × V)) (HB : Hp) (kvs : List (List Key × V)) (L : Ml) (S : MS) (v : V) (wd : Str) (d : Dt) (ts : List Tr),vs = [.ref L.m,.ref p,.int (n : Nat),.ref e,.ref o]∧MAt K HB C kvs L H S∧H p = some (.tup (plV pl))∧H e = some (.lst ev)∧Al (PrAt K H) ev ar∧H o = some (.lst ov)∧Al (ThAt K H) ov xs∧valV kvs (plK pl) = some v∧TrAt K H v (.mk wd d ts)∧BindOk wd d∧pl.length ≤ 2000∧ar.length ≤ 9000∧S.wait.length < 9000 ∧
 ∀ H',SameM L H H'→MAt K HB C kvs L H' (inS S wd d pl n ar xs)→Q .non H'
theorem sc_Machine_go_within : FnScope ["self", "place", "number", "around", "things", "names"] ["self", "place", "number", "around", "things"] (defScope s_Machine_go_within):=⟨rfl,rfl,rfl,by decide +kernel,rfl,by decide +kernel,by decide +kernel⟩
theorem boundN_le (wd : Str) (d : Dt) (n : Int) : (boundN wd d n).length ≤ 2:=by
 unfold boundN
 repeat' split
 all_goals simp
theorem ok_within {C : Addr} {f : Addr} {fd : FuncData} (F : Fun K "go_within" "Machine.go_within" s_Machine_go_within f fd) (T : Txt K mg) (O : Mc K C) (C_names_bound : Callee P w K mg base 1 "names_bound" ["form", "number"] (sp_bound K)) : FnOk P w K mg base CX0 2 f fd ["self", "place", "number", "around", "things"] (sp_within K C):=by
 refine F.okq sc_Machine_go_within (fun vs H Q E h=>?_) (fun cdv A outer s H vs Q E hr h=>?_)
 ·obtain ⟨p,e,o,n,pl,ev,ov,ar,xs,HB,kvs,L,S,v,wd,d,ts,rfl,_⟩:=h
  rfl
 ·obtain ⟨p,e,o,n,pl,ev,ov,ar,xs,HB,kvs,L,S,v,wd,d,ts,rfl,M,hp,he,ale,ho,alo,hv,ht,bk,hpl,hal,hwl,q⟩:=h
  refine ⟨_,qss_cons (qs_set (i:=5) sc_Machine_go_within.nd rfl (Or.inl rfl) (qe_fn C_names_bound (hr.mono (by decide)) (qa_cons (qe_dget hr.u1 (qe_fldK K (qv 0)) (qv 1) (fun _ _=>rfl)) (qa_cons (qv 2) qa_nil))))
   (qss_one (qs_expr (qe_bmK K PySem.F.plainAttrs_list PySem.F.slot_list_append PySem.F.type_list_append mt_append (qe_fldK K (qv 0)) (qa_cons (qe_tup (qa_cons (qe_op (k_addP K) (qv 1) (qe_tup (qa_cons (qv 2) qa_nil))) (qa_cons (qe_op (k_add K) (qv 3) (qe_list_ziplK K (by rfl) T.list (by rfl) T.zip (qa_cons (qv 5) (qa_cons (qv 4) qa_nil)))) (qa_cons (qe_bl) qa_nil)))) qa_nil)))),?_⟩
  have bg:=big
  have bn:=boundN_le wd d n
  walk_at "r"
  refine ⟨_,rfl,L.m,C,L.dx,_,_,rfl,M.ins,O.cl,O.nf,fs_forms L S.steps,_,rfl,L.fd,v,rfl,?_,?_⟩
  ·rw [← hv]
   refine DGet.t M.frm ?_
   rw [plK_kV]
   exact hp
  walk_at "r"
  refine ⟨v,wd,d,ts,n,rfl,ht,bk,fun l H1 s1 hl e1=>?_⟩
  have M1:=M.new s1
  obtain ⟨wv,ew,aw⟩:=M1.wait
  have hwv:=aw.1
  walk_at "r"
  refine ⟨_,rfl,L.m,C,L.dx,_,_,rfl,M1.ins,O.cl,O.nw,fs_wait L S.steps,?_⟩
  refine s_tyL (SqL.of ew) ?_
  walk_at "r"
  refine ⟨by show 1 ≤ sizeLine; decide,fun p2 hp2=>?_⟩
  have s2 : Same H1 (upd H1 p2 (.tup [.int (n : Nat)])):=Same.upd hp2
  have e2 : upd H1 p2 (.tup [.int (n : Nat)]) p2 = some (.tup [.int (n : Nat)]):=upd_same
  revert s2 e2
  generalize upd H1 p2 (.tup [.int (n : Nat)]) = H2
  intro s2 e2
  refine s_addp (s2 _ _ (s1 _ _ hp)) e2 (by unfold plV; rw [List.length_map,List.length_singleton]; omega) fun p3 H3 s3 e3=>?_
  have s03:=s1.trans (s2.trans s3)
  walk_at "r"
  refine s_listzl ?_
  walk_at "r"
  refine ⟨l,o,_,ov,rfl,SqL.of (s3 _ _ (s2 _ _ e1)),SqL.of (s03 _ _ ho),fun z zs H4 hz0 s4 hzl hzp ez=>?_⟩
  have s04:=s03.trans s4
  have he4:=s04 _ _ he
  have alz : Al (PrAt K H4) zs (zipA (boundN wd d n) xs):=by
   have hlo:=alo.1
   refine ⟨by unfold zipA; rw [hzl,List.length_map,List.length_zip,hlo],fun j y x f1 f2=>?_⟩
   obtain ⟨t,u1,u2,rfl,g1,g2,g3⟩:=hzp j y f1
   unfold zipA at f2
   rw [List.getElem?_zip_eq_some] at f2
   rw [List.getElem?_map,f2.1] at g1
   cases g1
   exact ⟨t,u2,rfl,SqT.of g3,ThAt.same s04.t _ _ (alo.2 j _ _ g2 f2.2)⟩
  have hzl2 : zs.length ≤ 2:=by rw [hzl,List.length_map]; omega
  have hel:=ale.1
  refine s_add_lst he4 ez (by omega) fun e5 he5=>?_
  have s5 : Same H4 (upd H4 e5 (.lst (ev ++ zs))):=Same.upd he5
  have ee5 : upd H4 e5 (.lst (ev ++ zs)) e5 = some (.lst (ev ++ zs)):=upd_same
  have nA5 : ¬ L.A e5:=by
   have M4:=M.new s04
   obtain ⟨rv,er,_⟩:=M4.rows
   obtain ⟨wv',ew',_⟩:=M4.wait
   obtain ⟨tv,et,_⟩:=M4.things
   rintro (y | y | y)
   ·rw [y,er] at he5; cases he5
   ·rw [y,ew'] at he5; cases he5
   ·rw [y,et] at he5; cases he5
  revert s5 ee5
  generalize upd H4 e5 (.lst (ev ++ zs)) = H5
  intro s5 ee5
  have s05:=s04.trans s5
  walk_at "r"
  refine ⟨by show 3 ≤ sizeLine; decide,fun r hr'=>?_⟩
  have s6 : Same H5 (upd H5 r (.tup [.ref p3,.ref e5,.bl false])):=Same.upd hr'
  have e6 : upd H5 r (.tup [.ref p3,.ref e5,.bl false]) r = some (.tup [.ref p3,.ref e5,.bl false]):=upd_same
  revert s6 e6
  generalize upd H5 r (.tup [.ref p3,.ref e5,.bl false]) = H6
  intro s6 e6
  have s06:=s05.trans s6
  have s16:=s2.trans (s3.trans (s4.trans (s5.trans s6)))
  walk_at "r"
  refine s_app (s16 _ _ ew) (by omega) ?_
  have M6:=M.new s06
  have M7:=M6.setWait (wv:=wv ++ [.ref r]) (ws:=S.wait ++ [⟨pl ++ [n],ar ++ zipA (boundN wd d n) xs,false⟩]) ((aw.mono (WtAt.same s16.a)).snoc ⟨r,p3,e5,ev ++ zs,rfl,SqT.of e6,?_,s6 _ _ ee5,?_,nA5⟩)
  ·walk_at "r"
   exact q _ ((s06.m L).trans (SameM.upd (.inr (.inr (.inl rfl))))) M7
  ·have e9:=s6 _ _ (s5 _ _ (s4 _ _ e3))
   rw [e9]
   unfold plV
   rw [List.map_append]
   rfl
  ·exact (ale.mono (PrAt.same s06.t)).append (alz.mono (PrAt.same (s5.trans s6).t))
theorem fs_no2 (L : Ml) (n : Int) : (L.fs n).lookup ("go_within" : Str) = none∧(L.fs n).lookup ("is_function" : Str) = none∧(L.fs n).lookup ("call" : Str) = none:=⟨rfl,rfl,rfl⟩
noncomputable def sp_call (K : PySem.W.Frag) (C : Addr) : Sp:=fun vs H Q _=>∃ (o : Addr) (ov : List V) (k : Nat) (xs : List (Str × V)) (r : Rx) (pl : List Nat) (HB : Hp) (kvs : List (List Key × V)) (L : Ml) (S : MS) (v : V) (wd : Str) (d : Dt) (ts : List Tr),vs = [.ref L.m,.ref o]∧MAt K HB C kvs L H S∧H o = some (.lst ov)∧Al (ThAt K H) ov (("row",.int (k : Nat)) :: xs)∧S.rows[k]? = some r∧r.pl = plI pl∧valV kvs (plK pl) = some v∧TrAt K H v (.mk wd d ts)∧BindOk wd d∧pl.length ≤ 2000∧r.ar.length ≤ 9000∧S.wait.length < 9000∧xs.length ≤ 1000 ∧
 ∀ H',SameM L H H'→MAt K HB C kvs L H' (inS S wd d pl 0 r.ar (if r.wd = "rec" then ("row",.int (k : Nat)) :: xs else xs))→Q .non H'
theorem sc_Machine_call : FnScope ["self", "operands", "row"] ["self", "operands"] (defScope s_Machine_call):=⟨rfl,rfl,rfl,by decide +kernel,rfl,by decide +kernel,by decide +kernel⟩
theorem ok_call {C : Addr} {f : Addr} {fd : FuncData} (F : Fun K "call" "Machine.call" s_Machine_call f fd) (T : Txt K mg) (O : Mc K C) (MW : MethX CX0 P w K mg base 2 C "go_within" ["self", "place", "number", "around", "things"] (sp_within K C)) : FnOk P w K mg base CX0 3 f fd ["self", "operands"] (sp_call K C):=by
 refine F.okq sc_Machine_call (fun vs H Q E h=>?_) (fun cdv A outer s H vs Q E hr h=>?_)
 ·obtain ⟨o,ov,k,xs,r,pl,HB,kvs,L,S,v,wd,d,ts,rfl,_⟩:=h
  rfl
 ·obtain ⟨o,ov,k,xs,r,pl,HB,kvs,L,S,v,wd,d,ts,rfl,M,ho,alo,hr1,hpl,hv,ht,bk,hpn,har,hwl,hxl,q⟩:=h
  refine ⟨_,qss_cons (qs_set (i:=2) sc_Machine_call.nd rfl (Or.inl rfl) (qe_ix (k_ix K) (qe_fldK K (qv 0)) (qe_ix (k_ix K) (qe_ix (k_ix K) (qv 1) (qe_int) (fun _ _=>rfl)) (qe_int) (fun _ _=>rfl)) (fun _ _=>rfl)))
   (qss_one (qs_expr (qe_methD (k:=2) K CX0 ["self", "place", "number", "around", "things"] (qv 0) (hr.mono (by decide)) pass0 (qa_cons (qe_ix (k_ix K) (qv 2) (qe_int) (fun _ _=>rfl)) (qa_cons (qe_int) (qa_cons (qe_ix (k_ix K) (qv 2) (qe_int) (fun _ _=>rfl)) (qa_cons (qe_ifExp (qt_cmpR (k_eq K hr.u200) (qe_ix (k_ix K) (qv 2) (qe_int) (fun _ _=>rfl)) (qe_str) (nomark _)) (qv 1) (qe_slice (k_sl K) (qv 1) (qo_some (qe_int)) (qo_none))) qa_nil))))))),?_⟩
  have bg:=big
  obtain ⟨rv,er,ar,spr⟩:=M.rows
  obtain ⟨u,hu⟩ : ∃ u,rv[k]? = some u:=⟨_,List.getElem?_eq_getElem (by rw [ar.1]; exact (List.getElem?_eq_some_iff.mp hr1).1)⟩
  obtain ⟨r',hr',xr⟩:=ar.get hu
  rw [hr1] at hr'
  cases hr'
  obtain ⟨⟨a,p',o',e,ops',ev,rfl,qa,_,_,_,he,ale,_,nAe⟩,a2,p,o2,e2,ea,qa2,hp⟩:=xr
  cases ea
  obtain ⟨u0,us,rfl⟩ : ∃ u0 us,ov = u0 :: us:=by
   have hl:=alo.1
   match ov,hl with
   | u0 :: us,_=>exact ⟨u0,us,rfl⟩
  obtain ⟨_,ax,rfl,qx⟩:=alo.2 0 u0 _ rfl rfl
  have hp' : H p = some (.tup (plV pl)):=by rw [hp,hpl,plV_plI]
  walk_at "r"
  refine ⟨_,rfl,L.m,C,L.dx,_,_,rfl,M.ins,O.cl,O.nr,fs_rows L S.steps,?_⟩
  walk_at "r"
  refine s_ix_lst (SqL.of ho) (atI_nat (j:=0) rfl) ?_
  walk_at "r"
  refine s_ix_tup qx rfl ?_
  refine s_ix_lst (SqL.of er) (atI_nat hu) ?_
  walk_at "r"
  refine ⟨_,rfl,L.m,C,L.dx,_,_,rfl,M.ins,(fs_no2 L S.steps).1,MW,?_⟩
  walk_at "r"
  refine s_ix_tup qa2 rfl ?_
  walk_at "r"
  refine s_ix_tup qa rfl ?_
  walk_at "r"
  unfold tIf
  walk_at "r"
  refine s_ix_tup qa rfl ?_
  walk_at "r"
  rw [dec_str]
  by_cases hw : r.wd = "rec"
  ·rw [if_pos hw] at q
   rw [decide_eq_true hw]
   walk_at "r"
   exact ⟨p,e,o,0,pl,ev,_,r.ar,_,HB,kvs,L,S,v,wd,d,ts,rfl,M,hp',he,ale,ho,alo,hv,ht,bk,hpn,har,hwl,fun H2 e2 M2=>by walk_at "r"; exact q _ e2 M2⟩
  ·rw [if_neg hw] at q
   rw [decide_eq_false hw]
   walk_at "r"
   refine s_sl_lst (SqL.of ho) fun l hl=>?_
   have ec : cutV (V.ref ax :: us) (some 1) none = us:=cutV_from _ 1
   rw [ec]
   have s2 : Same H (upd H l (.lst us)):=Same.upd hl
   have e2 : upd H l (.lst us) l = some (.lst us):=upd_same
   revert s2 e2
   generalize upd H l (.lst us) = H2
   intro s2 e2
   have alu : Al (ThAt K H2) us xs:=⟨by have:=alo.1; simpa using this,fun j y x f1 f2=>ThAt.same s2.t _ _ (alo.2 (j + 1) y x (by simpa using f1) (by simpa using f2))⟩
   exact ⟨p,e,l,0,pl,ev,us,r.ar,xs,HB,kvs,L,S,v,wd,d,ts,rfl,M.new s2,s2 _ _ hp',s2 _ _ he,ale.mono (PrAt.same s2.t),e2,alu,hv,ht.same s2,bk,hpn,har,hwl,fun H3 e3 M3=>by walk_at "r"; exact q _ ((s2.m L).trans e3) M3⟩
noncomputable def numV : V→Int
 | .int i=>i
 | _=>0
noncomputable def NumOk (x : Str × V) : Prop:=x.1 = "num"→∃ i,x.2 = .int i
noncomputable def OPS : List Str:=["plus", "minus", "less"]
noncomputable def furS (S : MS) (wd : Str) (pl : List Nat) (th : List (Str × V)) (x y : Str × V) : MS :=
 if wd ∈ OPS∧x.1 = "num"∧y.1 = "num" then { S with things:=th ++ [recT wd (numV x.2) (numV y.2)] }
 else { S with rows:=S.rows ++ [⟨wd,plI pl,[x,y],[]⟩],things:=th ++ [(("row" : Str),V.int (S.rows.length : Nat))] }
noncomputable def FormsAt (K : PySem.W.Frag) (H : Hp) (kvs : List (List Key × V)) (sub : List Nat→Option (Str × Dt)) : Prop:=∀ pl wd d,sub pl = some (wd,d)→pl.length ≤ 2000∧∃ v ts,valV kvs (plK pl) = some v∧TrAt K H v (.mk wd d ts)
theorem FormsAt.same {K : PySem.W.Frag} {H H' : Hp} {kvs : List (List Key × V)} {sub : List Nat→Option (Str × Dt)} (h : FormsAt K H kvs sub) (e : SameT H H') : FormsAt K H' kvs sub:=fun pl wd d hs=>by
 obtain ⟨h1,v,ts,h2,h3⟩:=h pl wd d hs
 exact ⟨h1,v,ts,h2,h3.sameT e⟩
inductive Fur (sub : List Nat→Option (Str × Dt)) (wd : Str) (d : Dt) (pl : List Nat) (ar : List (Str × Str × V)) (S : MS) : MS→Prop where
 | two {th : List (Str × V)} {x y : Str × V} (h : wd ∈ OPS ∨ wd = "call"∧isFnT S.rows x = false) (hS : S.things = th ++ [x,y]) (ok : RowOk S.rows x) (ox : NumOk x) (oy : NumOk y) : Fur sub wd d pl ar S (furS S wd pl th x y)
 | calls {th : List (Str × V)} {k : Nat} {y : Str × V} {r : Rx} {pl' : List Nat} {wd' : Str} {d' : Dt} (h : wd = "call") (hS : S.things = th ++ [(("row" : Str),V.int (k : Nat)),y]) (hr : S.rows[k]? = some r) (hf : r.wd ∈ (["fn", "rec"] : List Str)) (hp : r.pl = plI pl') (hs : sub pl' = some (wd',d')) (bk : BindOk wd' d') (ha : r.ar.length ≤ 9000) : Fur sub wd d pl ar S (inS { S with things:=th } wd' d' pl' 0 r.ar (if r.wd = "rec" then [(("row" : Str),V.int (k : Nat)),y] else [y]))
 | lets {th : List (Str × V)} {x : Str × V} (h : wd = "let") (hS : S.things = th ++ [x]) (bk : BindOk wd d) : Fur sub wd d pl ar S (inS { S with things:=th } wd d pl 1 ar [x])
noncomputable def sp_further (K : PySem.W.Frag) (C : Addr) : Sp:=fun vs H Q _=>∃ (p e : Addr) (pl : List Nat) (ev : List V) (ar : List (Str × Str × V)) (HB : Hp) (kvs : List (List Key × V)) (L : Ml) (S S2 : MS) (v : V) (wd : Str) (d : Dt) (ts : List Tr),vs = [.ref L.m,.ref p,.ref e]∧MAt K HB C kvs L H S∧H p = some (.tup (plV pl))∧H e = some (.lst ev)∧Al (PrAt K H) ev ar∧¬ L.A e∧valV kvs (plK pl) = some v∧TrAt K H v (.mk wd d ts)∧∃ sub : List Nat→Option (Str × Dt),FormsAt K H kvs sub∧Fur sub wd d pl ar S S2∧S.rows.length < 9000∧S.things.length < 9000∧S.wait.length < 9000∧pl.length ≤ 2000∧ar.length ≤ 9000 ∧
 ∀ H' t,SameM L H H'→MAt K HB C kvs (L.with t) H' S2→H t = none→Q .non H'
theorem sc_Machine_go_further : FnScope ["self", "place", "around", "word", "operands"] ["self", "place", "around"] (defScope s_Machine_go_further):=⟨rfl,rfl,rfl,by decide +kernel,rfl,by decide +kernel,by decide +kernel⟩
theorem ok_further {C : Addr} {f : Addr} {fd : FuncData} (F : Fun K "go_further" "Machine.go_further" s_Machine_go_further f fd) (T : Txt K mg) (O : Mc K C) {ap : Addr} {pk : List (Str × V)} (G_PARTS_AWAITED : Glob mg "PARTS_AWAITED" (.ref ap)) (hpa : DkK P w K ap pk) (hpk : ∀ wd,(lookD pk wd).isSome = (partsA wd).isSome∧∀ ns,partsA wd = some ns→∃ b,lookD pk wd = some (.ref b)∧∀ H,SqT K H b (ns.map V.int))
  (MT : MethX CX0 P w K mg base 1 C "taken_things" ["self", "many"] (sp_taken K C)) (MR : MethX CX0 P w K mg base 1 C "new_row" ["self", "word", "place", "operands", "around"] (sp_newrow K C)) (MW : MethX CX0 P w K mg base 2 C "go_within" ["self", "place", "number", "around", "things"] (sp_within K C)) (MC : MethX CX0 P w K mg base 3 C "call" ["self", "operands"] (sp_call K C)) (MI : MethX CX0 P w K mg base 2 C "is_function" ["self", "thing"] (sp_isfn K C)) (C_are_numbers : Callee P w K mg base 1 "are_numbers" ["things"] (sp_nums K)) (C_reckoned : Callee P w K mg base 1 "reckoned" ["word", "left", "right"] (sp_reck K)) : FnOk P w K mg base CX0 4 f fd ["self", "place", "around"] (sp_further K C):=by
 refine F.okq sc_Machine_go_further (fun vs H Q E h=>?_) (fun cdv A outer s H vs Q E hr h=>?_)
 ·obtain ⟨p,e,pl,ev,ar,HB,kvs,L,S,S2,v,wd,d,ts,rfl,_⟩:=h
  rfl
 ·obtain ⟨p,e,pl,ev,ar,HB,kvs,L,S,S2,v,wd,d,ts,rfl,M,hp,he,ale,nA,hv,ht,sub,FA,fur,z1,z3,z2,hpl,har,q⟩:=h
  refine ⟨_,qss_cons (qs_set (i:=3) sc_Machine_go_further.nd rfl (Or.inl rfl) (qe_ix (k_ix K) (qe_dget hr.u1 (qe_fldK K (qv 0)) (qv 1) (fun _ _=>rfl)) (qe_int) (fun _ _=>rfl)))
   (qss_cons (qs_set (i:=4) sc_Machine_go_further.nd rfl (Or.inl rfl) (qe_methD (k:=1) K CX0 ["self", "many"] (qv 0) (hr.mono (by decide)) pass0 (qa_cons (qe_callB (k_len K) (by rfl) T.len (by decide +kernel) (qa_cons (qe_ix (k_ixD P w K) (qe_gl G_PARTS_AWAITED) (qv 3) (fun _ _=>rfl)) qa_nil)) qa_nil)))
   (qss_one (qs_if (qt_cmpR (k_eq K hr.u200) (qv 3) (qe_str) (nomark _)) (qss_one (qs_expr (qe_methD (k:=2) K CX0 ["self", "place", "number", "around", "things"] (qv 0) (hr.mono (by decide)) pass0 (qa_cons (qv 1) (qa_cons (qe_int) (qa_cons (qv 2) (qa_cons (qv 4) qa_nil))))))) (qss_one (qs_if (QW.qt (qw_and (qt_cmpR (k_eq K hr.u200) (qv 3) (qe_str) (nomark _)) (qw_and1 (qt_cmpR (k_eq K hr.u200) (qe_ix (k_ix K) (qe_ix (k_ix K) (qv 4) (qe_int) (fun _ _=>rfl)) (qe_int) (fun _ _=>rfl)) (qe_str) (nomark _))))) (qss_one (qs_expr (qe_methD (k:=2) K CX0 ["self", "place", "number", "around", "things"] (qv 0) (hr.mono (by decide)) pass0 (qa_cons (qv 1) (qa_cons (qe_ifExp (qt_val (qe_ix (k_ix K) (qe_ix (k_ix K) (qv 4) (qe_int) (fun _ _=>rfl)) (qe_int) (fun _ _=>rfl))) (qe_int) (qe_int)) (qa_cons (qv 2) (qa_cons (qe_lst (qa_nil)) qa_nil))))))) (qss_one (qs_if (QW.qt (qw_and (qt_cmpR (k_eq K hr.u200) (qv 3) (qe_str) (nomark _)) (qw_and1 (qt_val (qe_methD (k:=2) K CX0 ["self", "thing"] (qv 0) (hr.mono (by decide)) pass0 (qa_cons (qe_ix (k_ix K) (qv 4) (qe_int) (fun _ _=>rfl)) qa_nil)))))) (qss_one (qs_expr (qe_methD (k:=3) K CX0 ["self", "operands"] (qv 0) (hr.mono (by decide)) pass0 (qa_cons (qv 4) qa_nil)))) (qss_one (qs_if (QW.qt (qw_and (qt_cmpR (k_in K) (qv 3) (qe_tup (qa_cons (qe_str) (qa_cons (qe_str) (qa_cons (qe_str) qa_nil)))) (by rfl)) (qw_and1 (qt_val (qe_fn C_are_numbers (hr.mono (by decide)) (qa_cons (qv 4) qa_nil)))))) (qss_one (qs_expr (qe_bmK K PySem.F.plainAttrs_list PySem.F.slot_list_append PySem.F.type_list_append mt_append (qe_fldK K (qv 0)) (qa_cons (qe_fn C_reckoned (hr.mono (by decide)) (qa_cons (qv 3) (qa_cons (qe_ix (k_ix K) (qe_ix (k_ix K) (qv 4) (qe_int) (fun _ _=>rfl)) (qe_int) (fun _ _=>rfl)) (qa_cons (qe_ix (k_ix K) (qe_ix (k_ix K) (qv 4) (qe_int) (fun _ _=>rfl)) (qe_int) (fun _ _=>rfl)) qa_nil)))) qa_nil)))) (qss_one (qs_expr (qe_bmK K PySem.F.plainAttrs_list PySem.F.slot_list_append PySem.F.type_list_append mt_append (qe_fldK K (qv 0)) (qa_cons (qe_methD (k:=1) K CX0 ["self", "word", "place", "operands", "around"] (qv 0) (hr.mono (by decide)) pass0 (qa_cons (qv 3) (qa_cons (qv 1) (qa_cons (qv 4) (qa_cons (qv 2) qa_nil))))) qa_nil))))))))))))),?_⟩
  have bg:=big
  have htr:=ht
  cases ht with
  | @mk b pp _ nv _ vs _ qb hn qpp hl hch =>
  walk_at "r"
  refine ⟨_,rfl,L.m,C,L.dx,_,_,rfl,M.ins,O.cl,O.nf,fs_forms L S.steps,_,rfl,L.fd,.ref b,rfl,?_,?_⟩
  ·rw [← hv]
   refine DGet.t M.frm ?_
   rw [plK_kV]
   exact hp
  walk_at "r"
  refine s_ix_tup qb rfl ?_
  walk_at "r"
  refine ⟨_,rfl,L.m,C,L.dx,_,_,rfl,M.ins,(fs_no L S.steps).2.2.2.2.2.1,MT,?_⟩
  cases fur with
  | @lets th x hwl hS bk =>
   subst hwl
   obtain ⟨bt,hbt,qbt⟩:=(hpk "let").2 [0] (by decide +kernel)
   walk_at "r"
   refine ⟨ap,pk, "let",.ref bt,rfl,rfl,hpa,hbt,?_⟩
   walk_at "r"
   refine s_len_tup (qbt _) ?_
   walk_at "r"
   refine ⟨1,th,[x],HB,kvs,L,S,rfl,M,by decide,hS,rfl,fun o t ov H1 e1 M1 ht0 ho alo ho0 hot=>?_⟩
   have t1:=M.t e1
   walk_at "r"
   rw [decide_eq_true (Eq.refl _)]
   refine iteT ?_
   walk_at "r"
   refine ⟨_,rfl,L.m,C,L.dx,_,_,rfl,M1.ins,(fs_no2 (L.with t) S.steps).1,MW,?_⟩
   walk_at "r"
   refine ⟨p,e,o,1,pl,ev,ov,ar,[x],HB,kvs,L.with t,_,.ref b, "let",d,ts,rfl,M1,(t1 p).1 _ hp,(M.a e1).2 _ _ nA he,ale.mono (PrAt.same t1),ho,alo,hv,htr.sameT t1,bk,hpl,har,z2,fun H2 e2 M2=>?_⟩
   walk_at "r"
   exact q _ t (e1.trans' (L':=L.with t) e2 rfl rfl rfl (.inr ht0)) M2 ht0
  | @calls th k y r pl' wd' d' hwc hS hrk hf hpl' hs bk har' =>
   subst hwc
   obtain ⟨bt,hbt,qbt⟩:=(hpk "call").2 [1,0] (by decide +kernel)
   walk_at "r"
   refine ⟨ap,pk, "call",.ref bt,rfl,rfl,hpa,hbt,?_⟩
   walk_at "r"
   refine s_len_tup (qbt _) ?_
   walk_at "r"
   refine ⟨2,th,[("row",.int (k : Nat)),y],HB,kvs,L,S,rfl,M,by decide,hS,rfl,fun o t ov H1 e1 M1 ht0 ho alo ho0 hot=>?_⟩
   have t1:=M.t e1
   have hfn : isFnT S.rows ("row",.int (k : Nat)) = true:=by
    show (decide (("row" : Str) = "row") && (match S.rows[((k : Nat) : Int).toNat]? with | some r=>decide (r.wd ∈ (["fn", "rec"] : List Str)) | none=>false)) = true
    rw [Int.toNat_natCast,hrk]
    simp only [decide_eq_true hf,decide_true,Bool.and_self]
   have rok : RowOk S.rows ("row",.int (k : Nat)):=fun _=>⟨k,rfl,(List.getElem?_eq_some_iff.mp hrk).1⟩
   obtain ⟨u1,us,rfl⟩ : ∃ u1 us,ov = u1 :: us:=by
    have hl:=alo.1
    match ov,hl with
    | u1 :: us,_=>exact ⟨u1,us,rfl⟩
   have hx1:=alo.2 0 u1 _ rfl rfl
   walk_at "r"
   rw [dec_str,decide_eq_false (by decide +kernel)]
   walk_at "r"
   rw [dec_str,decide_eq_false (by decide +kernel)]
   walk_at "r"
   rw [dec_str,decide_eq_true (Eq.refl _)]
   walk_at "r"
   refine ⟨_,rfl,L.m,C,L.dx,_,_,rfl,M1.ins,(fs_no2 (L.with t) S.steps).2.1,MI,?_⟩
   walk_at "r"
   refine s_ix_lst (SqL.of ho) (atI_nat (j:=0) rfl) ?_
   walk_at "r"
   refine ⟨_,("row",.int (k : Nat)),HB,kvs,L.with t,_,rfl,M1,hx1,rok,fun H2 s2=>?_⟩
   rw [show isFnT ({ S with things:=th } : MS).rows ("row",.int (k : Nat)) = true from hfn]
   refine ⟨true,rfl,?_⟩
   refine iteT ?_
   walk_at "r"
   have M2:=M1.new s2
   obtain ⟨hpl2,v',ts',hv',ht'⟩:=(FA.same t1).same s2.t pl' wd' d' hs
   refine ⟨_,rfl,L.m,C,L.dx,_,_,rfl,M2.ins,(fs_no2 (L.with t) S.steps).2.2,MC,?_⟩
   walk_at "r"
   refine ⟨o,_,k,[y],r,pl',HB,kvs,L.with t,_,v',wd',d',ts',rfl,M2,s2 _ _ ho,alo.mono (ThAt.same s2.t),hrk,hpl',hv',ht',bk,hpl2,har',z2,by show 1 ≤ 1000; decide,fun H3 e3 M3=>?_⟩
   walk_at "r"
   exact q _ t (e1.trans' (L':=L.with t) ((s2.m _).trans e3) rfl rfl rfl (.inr ht0)) M3 ht0
  | @two th x y hw3 hS ok ox oy =>
  have hwd : partsA wd = some [1,0]∧¬ wd = "let"∧¬ wd = "if"∧¬ wd ∈ WA:=by
   rcases hw3 with h | ⟨rfl,_⟩
   ·unfold OPS at h
    simp only [List.mem_cons,List.not_mem_nil,or_false] at h
    rcases h with rfl | rfl | rfl <;> exact ⟨by decide +kernel,by decide +kernel,by decide +kernel,by decide +kernel⟩
   ·exact ⟨by decide +kernel,by decide +kernel,by decide +kernel,by decide +kernel⟩
  obtain ⟨pw,w1,w2,w4⟩:=hwd
  obtain ⟨bt,hbt,qbt⟩:=(hpk wd).2 _ pw
  walk_at "r"
  refine ⟨ap,pk,wd,.ref bt,rfl,rfl,hpa,hbt,?_⟩
  walk_at "r"
  refine s_len_tup (qbt _) ?_
  walk_at "r"
  refine ⟨2,th,[x,y],HB,kvs,L,S,rfl,M,by decide,hS,rfl,fun o t ov H1 e1 M1 ht0 ho alo ho0 hot=>?_⟩
  have t1:=M.t e1
  have hp1:=(t1 p).1 _ hp
  have he1:=(M.a e1).2 _ _ nA he
  have ale1 : Al (PrAt K H1) ev ar:=ale.mono (PrAt.same t1)
  have nAo : ¬ (L.with t).A o:=by
   obtain ⟨rv,er,_⟩:=M.rows
   obtain ⟨wv,ew,_⟩:=M.wait
   rintro (z | z | z)
   ·rw [z] at ho0; rw [show (L.with t).rd = L.rd from rfl,er] at ho0; cases ho0
   ·rw [z] at ho0; rw [show (L.with t).wd = L.wd from rfl,ew] at ho0; cases ho0
   ·exact hot z
  have hx : ∃ ax ay,ov = [.ref ax,.ref ay]∧SqT K H1 ax [.str x.1,x.2]∧SqT K H1 ay [.str y.1,y.2]:=by
   have hl:=alo.1
   match ov,hl with
   | [u1,u2],_ =>
    obtain ⟨_,ax,e3,q3⟩:=alo.2 0 u1 x rfl rfl
    obtain ⟨_,ay,e4,q4⟩:=alo.2 1 u2 y rfl rfl
    exact ⟨ax,ay,by rw [e3,e4],q3,q4⟩
  obtain ⟨ax,ay,rfl,qx,qy⟩:=hx
  walk_at "r"
  rw [dec_str,decide_eq_false w1]
  walk_at "r"
  rw [dec_str,decide_eq_false w2]
  walk_at "r"
  rw [dec_str]
  by_cases w3 : wd = "call"
  ·have hfn : isFnT S.rows x = false:=by
    rcases hw3 with h | h
    ·rw [w3] at h; exact absurd h (by decide +kernel)
    ·exact h.2
   rw [decide_eq_true w3]
   walk_at "r"
   refine ⟨_,rfl,L.m,C,L.dx,_,_,rfl,M1.ins,(fs_no2 (L.with t) S.steps).2.1,MI,?_⟩
   walk_at "r"
   refine s_ix_lst (SqL.of ho) rfl ?_
   walk_at "r"
   refine ⟨_,x,HB,kvs,L.with t,_,rfl,M1,⟨(alo.2 0 _ x rfl rfl).1,ax,rfl,qx⟩,ok,fun H2 s2=>?_⟩
   rw [show isFnT ({ S with things:=th } : MS).rows x = false from hfn]
   refine ⟨false,rfl,?_⟩
   refine iteF ?_
   walk_at "r"
   refine ⟨by show 3 ≤ sizeLine; decide,fun p2 h2=>?_⟩
   refine s_in_seq (.inr (SqT.of upd_same)) rfl rfl ?_
   have s3 : Same H2 (upd H2 p2 (.tup [.str "plus",.str "minus",.str "less"])):=Same.upd h2
   rw [if_neg Bool.false_ne_true,show inV (.str wd) [.str "plus",.str "minus",.str "less"] = decide (wd ∈ (["plus", "minus", "less"] : List Str)) from in_dec (ws:=["plus", "minus", "less"]),decide_eq_false (by rw [w3]; decide +kernel)]
   revert s3
   generalize upd H2 p2 (.tup [.str "plus",.str "minus",.str "less"]) = H3
   intro s3
   have s13:=s2.trans s3
   have M3:=M1.new s13
   obtain ⟨tv,et,att⟩:=M3.things
   have htl : tv.length = th.length:=att.1
   have hthl : th.length + 2 = S.things.length:=by rw [hS,List.length_append]; rfl
   have ho3:=s13 _ _ ho
   have ef : furS S wd pl th x y = { S with rows:=S.rows ++ [⟨wd,plI pl,[x,y],[]⟩],things:=th ++ [(("row" : Str),V.int (S.rows.length : Nat))] }:=by
    unfold furS
    rw [if_neg fun h=>absurd h.1 (by rw [w3]; decide +kernel)]
   rw [ef] at q
   refine ⟨false,rfl,?_⟩
   refine iteF ?_
   walk_at "r"
   refine ⟨_,rfl,L.m,C,L.dx,_,_,rfl,M3.ins,O.cl,O.nt,fs_things (L.with t) S.steps,?_⟩
   refine s_tyL (SqL.of et) ?_
   walk_at "r"
   refine ⟨_,rfl,L.m,C,L.dx,_,_,rfl,M3.ins,(fs_no (L.with t) S.steps).2.1,MR,?_⟩
   walk_at "r"
   refine ⟨wd,p,o,e,pl,_,ev,[x,y],ar,HB,kvs,L.with t,_,rfl,M3,s13 _ _ hp1,SqL.of ho3,alo.mono (ThAt.same s13.t),SqL.of (s13 _ _ he1),ale1.mono (PrAt.same s13.t),by show S.rows.length < 10000; omega,fun v4 H4 e4 M4 t4=>?_⟩
   rw [if_neg w4] at M4
   obtain ⟨tv4,et4,at4⟩:=M4.things
   have htl4 : tv4.length = th.length:=at4.1
   walk_at "r"
   refine s_app et4 (by omega) ?_
   have M5:=M4.setThings (at4.snoc t4)
   walk_at "r"
   refine q _ t (e1.trans' (L':=L.with t) ((s13.m _).trans (e4.trans (SameM.upd (.inr (.inr (.inr rfl)))))) rfl rfl rfl (.inr ht0)) M5 ht0
  have hw3' : wd ∈ (["plus", "minus", "less"] : List Str):=by
   rcases hw3 with h | h
   ·exact h
   ·exact absurd h.1 w3
  rw [decide_eq_false w3]
  walk_at "r"
  refine ⟨by show 3 ≤ sizeLine; decide,fun p2 h2=>?_⟩
  refine s_in_seq (.inr (SqT.of upd_same)) rfl rfl ?_
  have s2 : Same H1 (upd H1 p2 (.tup [.str "plus",.str "minus",.str "less"])):=Same.upd h2
  rw [if_neg Bool.false_ne_true,show inV (.str wd) [.str "plus",.str "minus",.str "less"] = decide (wd ∈ (["plus", "minus", "less"] : List Str)) from in_dec (ws:=["plus", "minus", "less"]),decide_eq_true hw3']
  revert s2
  generalize upd H1 p2 (.tup [.str "plus",.str "minus",.str "less"]) = H2
  intro s2
  walk_at "r"
  refine ⟨o,_,[x,y],rfl,s2 _ _ ho,alo.mono (ThAt.same s2.t),by show 2 ≤ 1000; decide,fun H3 s3=>?_⟩
  have s13:=s2.trans s3
  have M3:=M1.new s13
  obtain ⟨tv,et,att⟩:=M3.things
  have htl : tv.length = th.length:=att.1
  have hthl : th.length + 2 = S.things.length:=by rw [hS,List.length_append]; rfl
  have ho3:=s13 _ _ ho
  by_cases hnum : x.1 = "num"∧y.1 = "num"
  ·have en : numsB [x,y] = true:=by
    unfold numsB
    rw [List.all_cons,List.all_cons,List.all_nil,decide_eq_true hnum.1,decide_eq_true hnum.2]
    rfl
   rw [en]
   obtain ⟨i,ei⟩:=ox hnum.1
   obtain ⟨j,ej⟩:=oy hnum.2
   rw [ei] at qx
   rw [ej] at qy
   have ef : furS S wd pl th x y = { S with things:=th ++ [recT wd i j] }:=by
    unfold furS
    rw [if_pos ⟨hw3',hnum⟩,ei,ej]
    rfl
   rw [ef] at q
   refine ⟨true,rfl,?_⟩
   refine iteT ?_
   walk_at "r"
   refine ⟨_,rfl,L.m,C,L.dx,_,_,rfl,M3.ins,O.cl,O.nt,fs_things (L.with t) S.steps,?_⟩
   refine s_tyL (SqL.of et) ?_
   walk_at "r"
   refine s_ix_lst (SqL.of ho3) rfl ?_
   walk_at "r"
   refine s_ix_tup (s13.tup qx) rfl ?_
   walk_at "r"
   refine s_ix_lst (SqL.of ho3) rfl ?_
   walk_at "r"
   refine s_ix_tup (s13.tup qy) rfl ?_
   walk_at "r"
   refine ⟨wd,i,j,rfl,fun v4 H4 s4 t4=>?_⟩
   have M4:=M3.new s4
   walk_at "r"
   refine s_app (s4 _ _ et) (by omega) ?_
   have M5:=M4.setThings ((att.mono (ThAt.same s4.t)).snoc t4)
   walk_at "r"
   refine q _ t (e1.trans' (L':=L.with t) (((s13.trans s4).m _).trans (SameM.upd (.inr (.inr (.inr rfl))))) rfl rfl rfl (.inr ht0)) M5 ht0
  ·have en : numsB [x,y] = false:=by
    unfold numsB
    rw [List.all_cons,List.all_cons,List.all_nil,Bool.and_true,← Bool.not_eq_true,Bool.and_eq_true,decide_eq_true_iff,decide_eq_true_iff]
    exact hnum
   rw [en]
   have ef : furS S wd pl th x y = { S with rows:=S.rows ++ [⟨wd,plI pl,[x,y],[]⟩],things:=th ++ [(("row" : Str),V.int (S.rows.length : Nat))] }:=by
    unfold furS
    rw [if_neg fun h=>hnum h.2]
   rw [ef] at q
   refine ⟨false,rfl,?_⟩
   refine iteF ?_
   walk_at "r"
   refine ⟨_,rfl,L.m,C,L.dx,_,_,rfl,M3.ins,O.cl,O.nt,fs_things (L.with t) S.steps,?_⟩
   refine s_tyL (SqL.of et) ?_
   walk_at "r"
   refine ⟨_,rfl,L.m,C,L.dx,_,_,rfl,M3.ins,(fs_no (L.with t) S.steps).2.1,MR,?_⟩
   walk_at "r"
   refine ⟨wd,p,o,e,pl,_,ev,[x,y],ar,HB,kvs,L.with t,_,rfl,M3,s13 _ _ hp1,SqL.of ho3,alo.mono (ThAt.same s13.t),SqL.of (s13 _ _ he1),ale1.mono (PrAt.same s13.t),by show S.rows.length < 10000; omega,fun v4 H4 e4 M4 t4=>?_⟩
   rw [if_neg w4] at M4
   obtain ⟨tv4,et4,at4⟩:=M4.things
   have htl4 : tv4.length = th.length:=at4.1
   walk_at "r"
   refine s_app et4 (by omega) ?_
   have M5:=M4.setThings (at4.snoc t4)
   walk_at "r"
   refine q _ t (e1.trans' (L':=L.with t) ((s13.m _).trans (e4.trans (SameM.upd (.inr (.inr (.inr rfl)))))) rfl rfl rfl (.inr ht0)) M5 ht0
inductive StepM (sub : List Nat→Option (Str × Dt)) : MS→MS→Prop where
 | come {S : MS} {w : List Wt} {x : Wt} {wd : Str} {d : Dt} (hw : S.wait = w ++ [x]) (hc : x.came = false) (hs : sub x.pl = some (wd,d)) (hn : NoteOk wd d) (h5 : S.steps + 1 ≤ 500) : StepM sub S (comeS { S with wait:=w } wd d x.pl x.ar)
 | further {S S2 : MS} {w : List Wt} {x : Wt} {wd : Str} {d : Dt} (hw : S.wait = w ++ [x]) (hc : x.came = true) (hs : sub x.pl = some (wd,d)) (hf : Fur sub wd d x.pl x.ar { S with wait:=w } S2) (hr : x.ar.length ≤ 9000) : StepM sub S S2
structure Small (S : MS) : Prop where
 r : S.rows.length < 9000
 w : S.wait.length < 9000
 t : S.things.length < 9000
inductive RunM (sub : List Nat→Option (Str × Dt)) : Nat→MS→MS→Prop where
 | nil {S : MS} (h : S.wait = []) : RunM sub 0 S S
 | cons {n : Nat} {S S1 S2 : MS} (hs : Small S) (h1 : StepM sub S S1) (h2 : RunM sub n S1 S2) : RunM sub (n + 1) S S2
noncomputable def sp_end (K : PySem.W.Frag) (C : Addr) : Sp:=fun vs H Q _=>∃ (HB : Hp) (kvs : List (List Key × V)) (L : Ml) (S S' : MS) (sub : List Nat→Option (Str × Dt)) (n : Nat) (th : List (Str × V)) (x : Str × V),vs = [.ref L.m]∧MAt K HB C kvs L H S∧FormsAt K H kvs sub∧RunM sub n S S'∧S'.things = th ++ [x] ∧
 ∀ v H' t,SameM L H H'→MAt K HB C kvs (L.with t) H' { S' with things:=th }→ThAt K H' v x→Q v H'
theorem sc_Machine_thing_at_the_end : FnScope ["self", "place", "around", "parts_came"] ["self"] (defScope s_Machine_thing_at_the_end):=⟨rfl,rfl,rfl,by decide +kernel,rfl,by decide +kernel,by decide +kernel⟩
theorem ok_end {C : Addr} {f : Addr} {fd : FuncData} (F : Fun K "thing_at_the_end" "Machine.thing_at_the_end" s_Machine_thing_at_the_end f fd) (T : Txt K mg) (O : Mc K C) (MC : MethX CX0 P w K mg base 3 C "come_to" ["self", "place", "around"] (sp_come K C)) (MG : MethX CX0 P w K mg base 4 C "go_further" ["self", "place", "around"] (sp_further K C)) : FnOk P w K mg base CX0 5 f fd ["self"] (sp_end K C):=by
 refine F.okq sc_Machine_thing_at_the_end (fun vs H Q E h=>?_) (fun cdv A outer s H vs Q E hr h=>?_)
 ·obtain ⟨HB,kvs,L,S,S',sub,n,th,x,rfl,_⟩:=h
  rfl
 ·obtain ⟨HB,kvs,L,S,S',sub,n,th,x,rfl,M,FA,R,hx,q⟩:=h
  refine ⟨_,qss_cons (qs_while PassesOwn.never (qt_truthK K (qe_fldK K (qv 0)) (by intro _; rfl)) (qss_cons (qs_asg (qe_bm0K K PySem.F.plainAttrs_list PySem.F.slot_list_pop PySem.F.type_list_pop mt_pop (qe_fldK K (qv 0))) (qg_tupK K (n:=3) rfl (qgs_cons (qg_name (i:=1) sc_Machine_thing_at_the_end.nd rfl (Or.inl rfl)) (qgs_cons (qg_name (i:=2) sc_Machine_thing_at_the_end.nd rfl (Or.inl rfl)) (qgs_cons (qg_name (i:=3) sc_Machine_thing_at_the_end.nd rfl (Or.inl rfl)) (qgs_nil))))))
   (qss_one (qs_if (qt_truthK K (qv 3) (by intro _; rfl)) (qss_one (qs_expr (qe_methD (k:=4) K CX0 ["self", "place", "around"] (qv 0) (hr.mono (by decide)) pass0 (qa_cons (qv 1) (qa_cons (qv 2) qa_nil))))) (qss_one (qs_expr (qe_methD (k:=3) K CX0 ["self", "place", "around"] (qv 0) (hr.mono (by decide)) pass0 (qa_cons (qv 1) (qa_cons (qv 2) qa_nil)))))))))
   (qss_one (qs_ret (qe_bm0K K PySem.F.plainAttrs_list PySem.F.slot_list_pop PySem.F.type_list_pop mt_pop (qe_fldK K (qv 0))))),?_⟩
  have bg:=big
  walk_at "r"
  refine ⟨fun m σ' H'=>∃ v1 v2 v3 S1 t,σ' = [some (.ref L.m),v1,v2,v3]∧MAt K HB C kvs (L.with t) H' S1∧RunM sub m S1 S'∧SameM L H H'∧(t = L.td ∨ H t = none),⟨n,none,none,none,S,L.td,rfl,M,R,SameM.refl _ _,.inl rfl⟩,?_⟩
  rintro m σ' H1 ⟨v1,v2,v3,S1,t,rfl,M1,R1,e1,ht⟩
  obtain ⟨wv,ew,aw⟩:=M1.wait
  have FA1:=FA.same (M.t e1)
  walk_at "r"
  refine ⟨_,rfl,L.m,C,L.dx,_,_,rfl,M1.ins,O.cl,O.nw,fs_wait (L.with t) S1.steps,?_⟩
  refine s_tru_lst (SqL.of ew) ?_
  cases R1 with
  | nil hw =>
   have hwv : wv = []:=List.eq_nil_of_length_eq_zero (by rw [aw.1,hw]; rfl)
   subst hwv
   refine iteF ?_
   walk_at "r"
   obtain ⟨tv,et,att⟩:=M1.things
   rw [hx] at att
   obtain ⟨tv',v,th',x',rfl,exx,at',hv⟩:=att.last (by intro z; rw [z] at att; have:=att.1; simp at this)
   obtain ⟨rfl,e2⟩:=List.append_inj' exx rfl
   cases e2
   refine ⟨_,rfl,L.m,C,L.dx,_,_,rfl,M1.ins,O.cl,O.nt,fs_things (L.with t) S'.steps,?_⟩
   refine s_tyL (SqL.of et) ?_
   refine s_pop et ?_
   have M2:=M1.setThings at'
   have e2 : SameM (L.with t) H1 (upd H1 (L.with t).td (.lst tv')):=SameM.upd (.inr (.inr (.inr rfl)))
   refine q v _ t (e1.trans' (L':=L.with t) e2 rfl rfl rfl ht) M2 (ThAt.same (M1.t e2) _ _ hv)
  | @cons m' _ S2 _ hs h1 h2 =>
   have key : ∃ w x,S1.wait = w ++ [x]:=by
    cases h1 with
    | come hw=>exact ⟨_,_,hw⟩
    | further hw=>exact ⟨_,_,hw⟩
   obtain ⟨wl,xw,hwx⟩:=key
   rw [hwx] at aw
   obtain ⟨wv',v,wl',xw',rfl,exx,aw',hvw⟩:=aw.last (by intro z; rw [z] at aw; have:=aw.1; simp at this)
   obtain ⟨rfl,e2⟩:=List.append_inj' exx rfl
   cases e2
   have hne : (!(wv' ++ [v]).isEmpty) = true:=by simp
   rw [hne]
   refine iteT ?_
   refine ⟨fun σ2 H2=>∃ m2,m2 < m' + 1∧∃ v1 v2 v3 S1 t,σ2 = [some (.ref L.m),v1,v2,v3]∧MAt K HB C kvs (L.with t) H2 S1∧RunM sub m2 S1 S'∧SameM L H H2∧(t = L.td ∨ H t = none),fun _ _ h=>h,?_⟩
   walk_at "r"
   refine ⟨_,rfl,L.m,C,L.dx,_,_,rfl,M1.ins,O.cl,O.nw,fs_wait (L.with t) S1.steps,?_⟩
   refine s_tyL (SqL.of ew) ?_
   refine s_pop ew ?_
   have M2:=M1.setWait aw'
   have e12 : SameM (L.with t) H1 (upd H1 (L.with t).wd (.lst wv')):=SameM.upd (.inr (.inr (.inl rfl)))
   have hv2:=WtAt.same (M1.a e12) _ _ hvw
   have FA2:=FA1.same (M1.t e12)
   revert M2 e12 hv2 FA2
   generalize upd H1 (L.with t).wd (.lst wv') = H2
   intro M2 e12 hv2 FA2
   obtain ⟨a,p,e,ev,rfl,qa,hp,he,ale,nA⟩:=hv2
   have e02 : SameM L H H2:=e1.trans' (L':=L.with t) e12 rfl rfl rfl ht
   walk_at "r"
   refine s_gtup qa rfl ?_
   walk_at "r"
   have hwl : wl.length < 9000:=by have:=hs.w; rw [hwx,List.length_append] at this; omega
   refine ⟨xw.came,rfl,?_⟩
   cases h1 with
   | @come w2 x2 wd d hw hc hsub hn h5 =>
    rw [hwx] at hw
    obtain ⟨rfl,e2⟩:=List.append_inj' hw rfl
    cases e2
    rw [hc]
    refine iteF ?_
    walk_at "r"
    obtain ⟨hpl,vv,ts,hval,htr⟩:=FA2 _ _ _ hsub
    refine ⟨_,rfl,L.m,C,L.dx,_,_,rfl,M2.ins,(fs_no (L.with t) S1.steps).2.2.2.1,MC,?_⟩
    walk_at "r"
    refine ⟨p,e,xw.pl,ev,xw.ar,HB,kvs,L.with t,_,vv,wd,d,ts,rfl,M2,hp,he,ale,nA,hval,htr,hn,hpl,hs.r,hwl,hs.t,h5,fun H3 e3 M3=>?_⟩
    walk_at "r"
    exact ⟨m',by omega,_,_,_,_,t,rfl,M3,h2,e02.trans' (L':=L.with t) e3 rfl rfl rfl ht,ht⟩
   | @further _ w2 x2 wd d hw hc hsub hf har =>
    rw [hwx] at hw
    obtain ⟨rfl,e2⟩:=List.append_inj' hw rfl
    cases e2
    rw [hc]
    refine iteT ?_
    walk_at "r"
    obtain ⟨hpl,vv,ts,hval,htr⟩:=FA2 _ _ _ hsub
    refine ⟨_,rfl,L.m,C,L.dx,_,_,rfl,M2.ins,(fs_no (L.with t) S1.steps).2.2.2.2.1,MG,?_⟩
    walk_at "r"
    refine ⟨p,e,xw.pl,ev,xw.ar,HB,kvs,L.with t,_,_,vv,wd,d,ts,rfl,M2,hp,he,ale,nA,hval,htr,sub,FA2,hf,hs.r,hs.t,hwl,hpl,har,fun H3 t3 e3 M3 ht3=>?_⟩
    walk_at "r"
    refine ⟨m',by omega,_,_,_,_,t3,rfl,M3,h2,e02.trans' (L':=L.with t) e3 rfl rfl rfl ht,?_⟩
    by_cases z : t3 = L.td
    ·exact .inl z
    ·refine .inr ?_
     cases hH : H t3 with
     | none=>rfl
     | some o =>
      exfalso
      obtain ⟨rv2,er2,_⟩:=M2.rows
      have n1 : t3 ≠ L.m:=fun y=>by rw [y,show H2 L.m = _ from M2.ins] at ht3; cases ht3
      have n2 : ¬ L.A t3:=by
       rintro (y | y | y)
       ·rw [y,show H2 L.rd = _ from er2] at ht3; cases ht3
       ·obtain ⟨wv2,ew2,_⟩:=M2.wait
        rw [y,show H2 L.wd = _ from ew2] at ht3; cases ht3
       ·exact z y
      rw [e02 _ _ n1 n2 hH] at ht3
      cases ht3
noncomputable def sp_tof (K : PySem.W.Frag) (C : Addr) : Sp:=fun vs H Q _=>∃ (p e : Addr) (pl : List Nat) (ev : List V) (ar : List (Str × Str × V)) (HB : Hp) (kvs : List (List Key × V)) (L : Ml) (S S' : MS) (sub : List Nat→Option (Str × Dt)) (n : Nat) (th : List (Str × V)) (x : Str × V),vs = [.ref L.m,.ref p,.ref e]∧MAt K HB C kvs L H S∧H p = some (.tup (plV pl))∧H e = some (.lst ev)∧Al (PrAt K H) ev ar∧¬ L.A e∧FormsAt K H kvs sub∧S.wait.length < 9000∧RunM sub n { S with wait:=S.wait ++ [⟨pl,ar,false⟩] } S'∧S'.things = th ++ [x] ∧
 ∀ v H' t,SameM L H H'→MAt K HB C kvs (L.with t) H' { S' with things:=th }→ThAt K H' v x→Q v H'
theorem sc_Machine_thing_of_form : FnScope ["self", "place", "around"] ["self", "place", "around"] (defScope s_Machine_thing_of_form):=⟨rfl,rfl,rfl,by decide +kernel,rfl,by decide +kernel,by decide +kernel⟩
theorem ok_tof {C : Addr} {f : Addr} {fd : FuncData} (F : Fun K "thing_of_form" "Machine.thing_of_form" s_Machine_thing_of_form f fd) (T : Txt K mg) (O : Mc K C) (ME : MethX CX0 P w K mg base 5 C "thing_at_the_end" ["self"] (sp_end K C)) : FnOk P w K mg base CX0 6 f fd ["self", "place", "around"] (sp_tof K C):=by
 refine F.okq sc_Machine_thing_of_form (fun vs H Q E h=>?_) (fun cdv A outer s H vs Q E hr h=>?_)
 ·obtain ⟨p,e,pl,ev,ar,HB,kvs,L,S,S',sub,n,th,x,rfl,_⟩:=h
  rfl
 ·obtain ⟨p,e,pl,ev,ar,HB,kvs,L,S,S',sub,n,th,x,rfl,M,hp,he,ale,nA,FA,hwl,R,hx,q⟩:=h
  refine ⟨_,qss_cons (qs_expr (qe_bmK K PySem.F.plainAttrs_list PySem.F.slot_list_append PySem.F.type_list_append mt_append (qe_fldK K (qv 0)) (qa_cons (qe_tup (qa_cons (qv 1) (qa_cons (qv 2) (qa_cons (qe_bl) qa_nil)))) qa_nil)))
   (qss_one (qs_ret (qe_methD0 (k:=5) K CX0 ["self"] (qv 0) (hr.mono (by decide)) pass0))),?_⟩
  have bg:=big
  obtain ⟨wv,ew,aw⟩:=M.wait
  have hwv:=aw.1
  walk_at "r"
  refine ⟨_,rfl,L.m,C,L.dx,_,_,rfl,M.ins,O.cl,O.nw,fs_wait L S.steps,?_⟩
  refine s_tyL (SqL.of ew) ?_
  walk_at "r"
  refine ⟨by show 3 ≤ sizeLine; decide,fun r hr'=>?_⟩
  have s1 : Same H (upd H r (.tup [.ref p,.ref e,.bl false])):=Same.upd hr'
  have e1 : upd H r (.tup [.ref p,.ref e,.bl false]) r = some (.tup [.ref p,.ref e,.bl false]):=upd_same
  revert s1 e1
  generalize upd H r (.tup [.ref p,.ref e,.bl false]) = H1
  intro s1 e1
  walk_at "r"
  refine s_app (s1 _ _ ew) (by omega) ?_
  have M1:=M.new s1
  have M2:=M1.setWait (wv:=wv ++ [.ref r]) (ws:=S.wait ++ [⟨pl,ar,false⟩]) ((aw.mono (WtAt.same s1.a)).snoc ⟨r,p,e,ev,rfl,SqT.of e1,s1 _ _ hp,s1 _ _ he,ale.mono (PrAt.same s1.t),nA⟩)
  have m12 : SameM L H1 (upd H1 L.wd (.lst (wv ++ [.ref r]))):=SameM.upd (.inr (.inr (.inl rfl)))
  have m02 : SameM L H (upd H1 L.wd (.lst (wv ++ [.ref r]))):=(s1.m L).trans m12
  have FA2:=FA.same (M.t m02)
  walk_at "r"
  refine ⟨_,rfl,L.m,C,L.dx,_,_,rfl,M2.ins,(fs_no L S.steps).2.2.2.2.2.2.1,ME,?_⟩
  walk_at "r"
  exact ⟨HB,kvs,L,_,S',sub,n,th,x,rfl,M2,FA2,R,hx,fun v H' t e' M' t'=>q v H' t (m02.trans e') M' t'⟩
noncomputable def sp_top (K : PySem.W.Frag) (C : Addr) : Sp:=fun vs H Q _=>∃ (p o e : Addr) (pl : List Nat) (ov ev : List V) (ops : List (Str × V)) (ar : List (Str × Str × V)) (HB : Hp) (kvs : List (List Key × V)) (L : Ml) (S S' : MS) (sub : List Nat→Option (Str × Dt)) (n : Nat) (th : List (Str × V)) (x : Str × V),vs = [.ref L.m,.ref p,.ref o,.ref e]∧MAt K HB C kvs L H S∧H p = some (.tup (plV pl))∧H o = some (.lst ov)∧Al (ThAt K H) ov ops∧H e = some (.lst ev)∧Al (PrAt K H) ev ar∧¬ L.A e∧FormsAt K H kvs sub∧S.wait.length < 9000∧S.things.length + ops.length < 9000∧RunM sub n { S with things:=S.things ++ ops,wait:=S.wait ++ [⟨pl,ar,true⟩] } S'∧S'.things = th ++ [x] ∧
 ∀ v H' t,SameM L H H'→MAt K HB C kvs (L.with t) H' { S' with things:=th }→ThAt K H' v x→Q v H'
theorem sc_Machine_thing_of_parts : FnScope ["self", "place", "operands", "around"] ["self", "place", "operands", "around"] (defScope s_Machine_thing_of_parts):=⟨rfl,rfl,rfl,by decide +kernel,rfl,by decide +kernel,by decide +kernel⟩
theorem ok_top {C : Addr} {f : Addr} {fd : FuncData} (F : Fun K "thing_of_parts" "Machine.thing_of_parts" s_Machine_thing_of_parts f fd) (T : Txt K mg) (O : Mc K C) (ME : MethX CX0 P w K mg base 5 C "thing_at_the_end" ["self"] (sp_end K C)) : FnOk P w K mg base CX0 6 f fd ["self", "place", "operands", "around"] (sp_top K C):=by
 refine F.okq sc_Machine_thing_of_parts (fun vs H Q E h=>?_) (fun cdv A outer s H vs Q E hr h=>?_)
 ·obtain ⟨p,o,e,pl,ov,ev,ops,ar,HB,kvs,L,S,S',sub,n,th,x,rfl,_⟩:=h
  rfl
 ·obtain ⟨p,o,e,pl,ov,ev,ops,ar,HB,kvs,L,S,S',sub,n,th,x,rfl,M,hp,ho,alo,he,ale,nA,FA,hwl,htl,R,hx,q⟩:=h
  refine ⟨_,qss_cons (qs_expr (qe_bmK K PySem.F.plainAttrs_list PySem.F.slot_list_extend PySem.F.type_list_extend mt_extend (qe_fldK K (qv 0)) (qa_cons (qv 2) qa_nil)))
   (qss_cons (qs_expr (qe_bmK K PySem.F.plainAttrs_list PySem.F.slot_list_append PySem.F.type_list_append mt_append (qe_fldK K (qv 0)) (qa_cons (qe_tup (qa_cons (qv 1) (qa_cons (qv 3) (qa_cons (qe_bl) qa_nil)))) qa_nil)))
   (qss_one (qs_ret (qe_methD0 (k:=5) K CX0 ["self"] (qv 0) (hr.mono (by decide)) pass0)))),?_⟩
  have bg:=big
  obtain ⟨tv,et,att⟩:=M.things
  have hta:=att.1
  have hoa:=alo.1
  walk_at "r"
  refine ⟨_,rfl,L.m,C,L.dx,_,_,rfl,M.ins,O.cl,O.nt,fs_things L S.steps,?_⟩
  refine s_tyL (SqL.of et) ?_
  walk_at "r"
  refine ⟨L.td,o,_,ov,rfl,rfl,et,ho,by omega,?_⟩
  have M0:=M.setThings (att.append alo)
  have m0 : SameM L H (upd H L.td (.lst (tv ++ ov))):=SameM.upd (.inr (.inr (.inr rfl)))
  revert M0 m0
  generalize upd H L.td (.lst (tv ++ ov)) = H0
  intro M0 m0
  have t0:=M.t m0
  have hp0:=(t0 p).1 _ hp
  have he0:=(M.a m0).2 _ _ nA he
  have ale0 : Al (PrAt K H0) ev ar:=ale.mono (PrAt.same t0)
  obtain ⟨wv,ew,aw⟩:=M0.wait
  have hwv:=aw.1
  walk_at "r"
  refine ⟨_,rfl,L.m,C,L.dx,_,_,rfl,M0.ins,O.cl,O.nw,fs_wait L S.steps,?_⟩
  refine s_tyL (SqL.of ew) ?_
  walk_at "r"
  refine ⟨by show 3 ≤ sizeLine; decide,fun r hr'=>?_⟩
  have s1 : Same H0 (upd H0 r (.tup [.ref p,.ref e,.bl true])):=Same.upd hr'
  have e1 : upd H0 r (.tup [.ref p,.ref e,.bl true]) r = some (.tup [.ref p,.ref e,.bl true]):=upd_same
  revert s1 e1
  generalize upd H0 r (.tup [.ref p,.ref e,.bl true]) = H1
  intro s1 e1
  walk_at "r"
  refine s_app (s1 _ _ ew) (by rw [hwv]; show S.wait.length + 1 ≤ _; omega) ?_
  have M1:=M0.new s1
  have M2:=M1.setWait (wv:=wv ++ [.ref r]) (ws:=S.wait ++ [⟨pl,ar,true⟩]) ((aw.mono (WtAt.same s1.a)).snoc ⟨r,p,e,ev,rfl,SqT.of e1,s1 _ _ hp0,s1 _ _ he0,ale0.mono (PrAt.same s1.t),nA⟩)
  have m12 : SameM L H1 (upd H1 L.wd (.lst (wv ++ [.ref r]))):=SameM.upd (.inr (.inr (.inl rfl)))
  have m02 : SameM L H (upd H1 L.wd (.lst (wv ++ [.ref r]))):=m0.trans ((s1.m L).trans m12)
  have FA2:=FA.same (M.t m02)
  walk_at "r"
  refine ⟨_,rfl,L.m,C,L.dx,_,_,rfl,M2.ins,(fs_no L S.steps).2.2.2.2.2.2.1,ME,?_⟩
  walk_at "r"
  exact ⟨HB,kvs,L,_,S',sub,n,th,x,rfl,M2,FA2,R,hx,fun v H' t e' M' t'=>q v H' t (m02.trans e') M' t'⟩
noncomputable def subW (t : Tr) (pl : List Nat) : Option (Str × Dt):=(lastW (walk [] t) pl).map fun u=>(u.wd,noteT u)
theorem ins_t {H : Hp} {a C dx : Addr} {fs : List (Str × V)} (ha : H a = some (.ins C dx fs)) (o : HO) : SameT H (upd H a o):=fun b=>⟨fun xs h=>by
 have : b ≠ a:=fun z=>by rw [z,ha] at h; cases h
 rw [upd_ne this]; exact h,fun o u h=>by
 have : b ≠ a:=fun z=>by rw [z,ha] at h; cases h
 rw [upd_ne this]; exact h⟩
noncomputable def sp_init (K : PySem.W.Frag) (C : Addr) : Sp:=fun vs H Q _=>∃ (m dx : Addr) (HB : Hp) (tv : V) (t : Tr) (n : Int),vs = [.ref m,tv,.int n]∧n ≤ 500∧HB m = none∧HB dx = none∧dx ≠ m∧H = upd (upd HB dx (.own m)) m (.ins C dx [])∧TrAt K HB tv t∧t.size ≤ 2000 ∧
 ∀ H' L kvs,L.m = m→MAt K HB C kvs L H' ⟨[],[],[],n⟩→FormsAt K H' kvs (subW t)→Q .non H'
theorem sc_Machine_init : FnScope ["self", "tree", "steps"] ["self", "tree", "steps"] (defScope s_Machine_init):=⟨rfl,rfl,rfl,by decide +kernel,rfl,by decide +kernel,by decide +kernel⟩
theorem s_sfld {K : PySem.W.Frag} {ta tv : TE} {f : Str} {D : Ends} {σ : St} {H : Hp} (h : tv σ H fun y H1=>ta σ H1 fun x H2=>∃ a C dx fs,x = .ref a∧H2 a = some (.ins C dx fs)∧Cls K C∧NoAttr K C f∧fs.length < 1000∧D.nx σ (upd H2 a (.ins C dx (putF f y fs)))) : sFld K ta tv f D σ H:=h
theorem ok_init {C : Addr} {f : Addr} {fd : FuncData} (F : Fun K "__init__" "Machine.__init__" s_Machine_init f fd) (T : Txt K mg) (O : Mc K C) (C_placed_forms : Callee P w K mg base 1 "placed_forms" ["tree"] (sp_placed K)) (MS_ : MethX CX0 P w K mg base 1 C "make_steps" ["self", "many"] (sp_make K C)) : FnOk P w K mg base CX0 2 f fd ["self", "tree", "steps"] (sp_init K C):=by
 refine F.okq sc_Machine_init (fun vs H Q E h=>?_) (fun cdv A outer s H vs Q E hr h=>?_)
 ·obtain ⟨m,dx,HB,tv,t,n,rfl,_⟩:=h
  rfl
 ·obtain ⟨m,dx,HB,tv,t,n,rfl,hn5,bm,bd,ndm,hH,ht,hz,q⟩:=h
  refine ⟨_,qss_cons (qs_fldK K (qv 0) (qe_callTy (k_dict K hr.u200 rfl) (by rfl) T.dict (by decide +kernel) (qa_cons (qe_fn C_placed_forms (hr.mono (by decide)) (qa_cons (qv 1) qa_nil)) qa_nil)))
   (qss_cons (qs_fldK K (qv 0) (qe_lst (qa_nil)))
   (qss_cons (qs_fldK K (qv 0) (qe_lst (qa_nil)))
   (qss_cons (qs_fldK K (qv 0) (qe_lst (qa_nil)))
   (qss_cons (qs_fldK K (qv 0) (qe_int))
   (qss_one (qs_expr (qe_methD (k:=1) K CX0 ["self", "many"] (qv 0) (hr.mono (by decide)) pass0 (qa_cons (qv 2) qa_nil)))))))),?_⟩
  have bg:=big
  have sB : Same HB H:=by
   rw [hH]
   exact (Same.upd bd).trans (Same.upd (by rw [upd_ne (Ne.symm ndm)]; exact bm))
  have im : H m = some (.ins C dx []):=by rw [hH]; exact upd_same
  clear hH
  walk_at "r"
  refine s_sfld ?_
  walk_at "r"
  refine ⟨tv,t,rfl,ht.same sB,hz,fun p rows H1 s1 hp1 e1 al1=>?_⟩
  walk_at "r"
  obtain ⟨kvs,alk,look⟩:=forms_of (K:=K) (H:=H1) rows _ al1
  refine ⟨p,rows,rfl,SqL.of e1,.inr ⟨kvs,alk,fun fd hfd=>?_⟩⟩
  have s2 : Same H1 (upd H1 fd (.dT (putAll [] kvs))):=Same.upd hfd
  have e2 : upd H1 fd (.dT (putAll [] kvs)) fd = some (.dT (putAll [] kvs)):=upd_same
  have s02:=s1.trans s2
  have FA : FormsAt K (upd H1 fd (.dT (putAll [] kvs))) (putAll [] kvs) (subW t):=by
   intro pl wd d hs
   unfold subW at hs
   obtain ⟨u,hu,e⟩:=Option.map_eq_some_iff.mp hs
   cases e
   rcases look pl with ⟨_,l2⟩ | ⟨v,u',l1,l2,tr⟩
   ·rw [hu] at l2; cases l2
   ·rw [hu] at l2
    cases l2
    have hm:=walk_depth [] t _ (lastW_mem hu)
    simp only [List.length_nil,Nat.zero_add] at hm
    refine ⟨by omega,v,u.ps,by rw [valV_putAll]; exact l1,?_⟩
    rw [← tr_eta]
    exact tr.same s2
  have nfm : fd ≠ m:=fun z=>by rw [z,s1 _ _ im] at hfd; cases hfd
  revert s02 e2 FA
  generalize upd H1 fd (.dT (putAll [] kvs)) = H2
  intro e2 s02 FA
  generalize hkv : putAll [] kvs = kv at *
  have sB2:=sB.trans s02
  have im2:=s02 _ _ im
  refine ⟨_,rfl,m,C,dx,_,rfl,im2,O.cl,O.nf,by show 0 < 1000; decide,?_⟩
  have FA3:=FA.same (ins_t im2 (.ins C dx (putF "forms" (.ref fd) [])))
  have sB3 : Same HB (upd H2 m (.ins C dx (putF "forms" (.ref fd) []))):=sB2.over bm
  have im3 : upd H2 m (.ins C dx (putF "forms" (.ref fd) [])) m = some (.ins C dx (putF "forms" (.ref fd) [])):=upd_same
  have ef3 : upd H2 m (.ins C dx (putF "forms" (.ref fd) [])) fd = some (.dT kv):=(upd_ne nfm).trans e2
  revert FA3 sB3 im3 ef3
  generalize upd H2 m (.ins C dx (putF "forms" (.ref fd) [])) = H3
  intro FA3 sB3 im3 ef3
  walk_at "r"
  refine s_sfld ?_
  walk_at "r"
  refine ⟨by show 0 ≤ sizeLine; decide,fun rd hrd=>?_⟩
  have s4 : Same H3 (upd H3 rd (.lst [])):=Same.upd hrd
  have er4 : upd H3 rd (.lst []) rd = some (.lst []):=upd_same
  have nrm : rd ≠ m:=fun z=>by rw [z,im3] at hrd; cases hrd
  have nrf : fd ≠ rd:=fun z=>by rw [← z,ef3] at hrd; cases hrd
  have br : HB rd = none:=sB3.free hrd
  revert s4 er4
  generalize upd H3 rd (.lst []) = H4
  intro s4 er4
  have FA4:=FA3.same s4.t
  have sB4:=sB3.trans s4
  have im4:=s4 _ _ im3
  have ef4:=s4 _ _ ef3
  refine ⟨_,rfl,m,C,dx,_,rfl,im4,O.cl,O.nr,by show 1 < 1000; decide,?_⟩
  have FA5:=FA4.same (ins_t im4 (.ins C dx (putF "rows" (.ref rd) (putF "forms" (.ref fd) []))))
  have sB5 : Same HB (upd H4 m (.ins C dx (putF "rows" (.ref rd) (putF "forms" (.ref fd) [])))):=sB4.over bm
  have im5 : upd H4 m (.ins C dx (putF "rows" (.ref rd) (putF "forms" (.ref fd) []))) m = some (.ins C dx (putF "rows" (.ref rd) (putF "forms" (.ref fd) []))):=upd_same
  have ef5 : upd H4 m (.ins C dx (putF "rows" (.ref rd) (putF "forms" (.ref fd) []))) fd = some (.dT kv):=(upd_ne nfm).trans ef4
  have er5 : upd H4 m (.ins C dx (putF "rows" (.ref rd) (putF "forms" (.ref fd) []))) rd = some (.lst []):=(upd_ne nrm).trans er4
  revert FA5 sB5 im5 ef5 er5
  generalize upd H4 m (.ins C dx (putF "rows" (.ref rd) (putF "forms" (.ref fd) []))) = H5
  intro FA5 sB5 im5 ef5 er5
  walk_at "r"
  refine s_sfld ?_
  walk_at "r"
  refine ⟨by show 0 ≤ sizeLine; decide,fun wd hwd=>?_⟩
  have s6 : Same H5 (upd H5 wd (.lst [])):=Same.upd hwd
  have ew6 : upd H5 wd (.lst []) wd = some (.lst []):=upd_same
  have nwm : wd ≠ m:=fun z=>by rw [z,im5] at hwd; cases hwd
  have nwr : rd ≠ wd:=fun z=>by rw [← z,er5] at hwd; cases hwd
  have bw : HB wd = none:=sB5.free hwd
  revert s6 ew6
  generalize upd H5 wd (.lst []) = H6
  intro s6 ew6
  have FA6:=FA5.same s6.t
  have sB6:=sB5.trans s6
  have im6:=s6 _ _ im5
  have ef6:=s6 _ _ ef5
  have er6:=s6 _ _ er5
  refine ⟨_,rfl,m,C,dx,_,rfl,im6,O.cl,O.nw,by show 2 < 1000; decide,?_⟩
  have FA7:=FA6.same (ins_t im6 (.ins C dx (putF "waiting" (.ref wd) (putF "rows" (.ref rd) (putF "forms" (.ref fd) [])))))
  have sB7 : Same HB (upd H6 m (.ins C dx (putF "waiting" (.ref wd) (putF "rows" (.ref rd) (putF "forms" (.ref fd) []))))):=sB6.over bm
  have im7 : upd H6 m (.ins C dx (putF "waiting" (.ref wd) (putF "rows" (.ref rd) (putF "forms" (.ref fd) [])))) m = some (.ins C dx (putF "waiting" (.ref wd) (putF "rows" (.ref rd) (putF "forms" (.ref fd) [])))):=upd_same
  have ef7 : upd H6 m (.ins C dx (putF "waiting" (.ref wd) (putF "rows" (.ref rd) (putF "forms" (.ref fd) [])))) fd = some (.dT kv):=(upd_ne nfm).trans ef6
  have er7 : upd H6 m (.ins C dx (putF "waiting" (.ref wd) (putF "rows" (.ref rd) (putF "forms" (.ref fd) [])))) rd = some (.lst []):=(upd_ne nrm).trans er6
  have ew7 : upd H6 m (.ins C dx (putF "waiting" (.ref wd) (putF "rows" (.ref rd) (putF "forms" (.ref fd) [])))) wd = some (.lst []):=(upd_ne nwm).trans ew6
  revert FA7 sB7 im7 ef7 er7 ew7
  generalize upd H6 m (.ins C dx (putF "waiting" (.ref wd) (putF "rows" (.ref rd) (putF "forms" (.ref fd) [])))) = H7
  intro FA7 sB7 im7 ef7 er7 ew7
  walk_at "r"
  refine s_sfld ?_
  walk_at "r"
  refine ⟨by show 0 ≤ sizeLine; decide,fun td htd=>?_⟩
  have s8 : Same H7 (upd H7 td (.lst [])):=Same.upd htd
  have et8 : upd H7 td (.lst []) td = some (.lst []):=upd_same
  have ntm : td ≠ m:=fun z=>by rw [z,im7] at htd; cases htd
  have ntr : rd ≠ td:=fun z=>by rw [← z,er7] at htd; cases htd
  have ntw : wd ≠ td:=fun z=>by rw [← z,ew7] at htd; cases htd
  have bt : HB td = none:=sB7.free htd
  revert s8 et8
  generalize upd H7 td (.lst []) = H8
  intro s8 et8
  have FA8:=FA7.same s8.t
  have sB8:=sB7.trans s8
  have im8:=s8 _ _ im7
  have ef8:=s8 _ _ ef7
  have er8:=s8 _ _ er7
  have ew8:=s8 _ _ ew7
  refine ⟨_,rfl,m,C,dx,_,rfl,im8,O.cl,O.nt,by show 3 < 1000; decide,?_⟩
  have FA9:=FA8.same (ins_t im8 (.ins C dx (putF "things" (.ref td) (putF "waiting" (.ref wd) (putF "rows" (.ref rd) (putF "forms" (.ref fd) []))))))
  have sB9 : Same HB (upd H8 m (.ins C dx (putF "things" (.ref td) (putF "waiting" (.ref wd) (putF "rows" (.ref rd) (putF "forms" (.ref fd) [])))))):=sB8.over bm
  have im9 : upd H8 m (.ins C dx (putF "things" (.ref td) (putF "waiting" (.ref wd) (putF "rows" (.ref rd) (putF "forms" (.ref fd) []))))) m = some (.ins C dx (putF "things" (.ref td) (putF "waiting" (.ref wd) (putF "rows" (.ref rd) (putF "forms" (.ref fd) []))))):=upd_same
  have ef9 : upd H8 m (.ins C dx (putF "things" (.ref td) (putF "waiting" (.ref wd) (putF "rows" (.ref rd) (putF "forms" (.ref fd) []))))) fd = some (.dT kv):=(upd_ne nfm).trans ef8
  have er9 : upd H8 m (.ins C dx (putF "things" (.ref td) (putF "waiting" (.ref wd) (putF "rows" (.ref rd) (putF "forms" (.ref fd) []))))) rd = some (.lst []):=(upd_ne nrm).trans er8
  have ew9 : upd H8 m (.ins C dx (putF "things" (.ref td) (putF "waiting" (.ref wd) (putF "rows" (.ref rd) (putF "forms" (.ref fd) []))))) wd = some (.lst []):=(upd_ne nwm).trans ew8
  have et9 : upd H8 m (.ins C dx (putF "things" (.ref td) (putF "waiting" (.ref wd) (putF "rows" (.ref rd) (putF "forms" (.ref fd) []))))) td = some (.lst []):=(upd_ne ntm).trans et8
  revert FA9 sB9 im9 ef9 er9 ew9 et9
  generalize upd H8 m (.ins C dx (putF "things" (.ref td) (putF "waiting" (.ref wd) (putF "rows" (.ref rd) (putF "forms" (.ref fd) []))))) = H9
  intro FA9 sB9 im9 ef9 er9 ew9 et9
  walk_at "r"
  refine s_sfld ?_
  walk_at "r"
  refine ⟨m,C,dx,_,rfl,im9,O.cl,O.ns,by show 4 < 1000; decide,?_⟩
  obtain ⟨L,hL⟩ : ∃ L : Ml,L = ⟨m,dx,fd,rd,wd,td⟩:=⟨_,rfl⟩
  have M : MAt K HB C kv L (upd H9 m (.ins C dx (L.fs 0))) ⟨[],[],[],0⟩:=by
   subst hL
   exact ⟨sB9.over bm,bm,br,bw,bt,upd_same,(upd_ne nfm).trans ef9,nwr,ntr,ntw,⟨[],(upd_ne nrm).trans er9,.nil,SepR.nil⟩,⟨[],(upd_ne nwm).trans ew9,.nil⟩,⟨[],(upd_ne ntm).trans et9,.nil⟩⟩
  have FA10:=FA9.same (ins_t im9 (.ins C dx (L.fs 0)))
  rw [show putF "steps" (.int 0) (putF "things" (.ref td) (putF "waiting" (.ref wd) (putF "rows" (.ref rd) (putF "forms" (.ref fd) [])))) = L.fs 0 by subst hL; rfl]
  revert M FA10
  generalize upd H9 m (.ins C dx (L.fs 0)) = H10
  intro M FA10
  have hm : L.m = m:=by rw [hL]
  walk_at "r"
  refine ⟨_,rfl,m,C,L.dx,_,_,rfl,(by rw [← hm]; exact M.ins),(fs_no L 0).1,MS_,?_⟩
  walk_at "r"
  refine ⟨n,HB,kv,L,_,by rw [hm],M,by show (0 : Int) + n ≤ 500; omega,fun H' e' M'=>?_⟩
  walk_at "r"
  have M' : MAt K HB C kv L H' ⟨[],[],[],(0 : Int) + n⟩:=M'
  rw [Int.zero_add] at M'
  exact q H' L kv hm M' (FA10.same (M.t e'))
end
end K51
namespace K51
open PySem L2 K19
section
variable {P : Program} {w : World} {K : PySem.W.Frag} {mg : Str→Option Value} {base : Heap}
noncomputable def sp_whole : Sp:=fun vs H Q _=>∃ k : Int,vs = [.int k]∧Q (.bl true) H
theorem sc_is_whole : FnScope ["thing"] ["thing"] (defScope s_is_whole):=⟨rfl,rfl,rfl,by decide +kernel,rfl,by decide +kernel,by decide +kernel⟩
theorem ok_whole {f : Addr} {fd : FuncData} (F : Fun K "is_whole" "is_whole" s_is_whole f fd) (T : Txt K mg) : FnOk P w K mg base CX0 1 f fd ["thing"] sp_whole:=by
 refine F.okq sc_is_whole (fun vs H Q E h=>?_) (fun cdv A outer s H vs Q E hr h=>?_)
 ·obtain ⟨k,rfl,_⟩:=h
  rfl
 ·obtain ⟨k,rfl,q⟩:=h
  refine ⟨_,qss_one (qs_ret (qe_and (qe_callB (k_isi K "int") (by rfl) T.isinstance (by decide +kernel) (qa_cons (qv 0) (qa_cons (qe_bltn (v:=.ty "int") (by rfl) T.int (by decide +kernel) rfl) qa_nil))) (qe_one (qe_not (qe_callB (k_isi K "bool") (by rfl) T.isinstance (by decide +kernel) (qa_cons (qv 0) (qa_cons (qe_bltn (v:=.ty "bool") (by rfl) T.bool (by decide +kernel) rfl) qa_nil))))))),?_⟩
  walk_at "r"
  refine s_isi (.int _) kit_same ?_
  walk_at "r"
  refine s_isi (.int _) kit_int_bool ?_
  walk_at "r"
  exact q
end
end K51
namespace K51
open PySem L2 K19
section
variable {P : Program} {w : World} {K : PySem.W.Frag} {mg : Str→Option Value} {base : Heap}
noncomputable def sp_has (K : PySem.W.Frag) : Sp:=fun vs H Q _=>∃ (v : V) (w : Str) (n : Dt) (ps : List Tr) (k : Nat),vs = [v,.int (k : Nat)]∧TrAt K H v (.mk w n ps)∧k < ps.length∧Q (.bl true) H
theorem sc_has_part : FnScope ["form", "number"] ["form", "number"] (defScope s_has_part):=⟨rfl,rfl,rfl,by decide +kernel,rfl,by decide +kernel,by decide +kernel⟩
theorem ok_has {f : Addr} {fd : FuncData} (F : Fun K "has_part" "has_part" s_has_part f fd) (T : Txt K mg) (C_is_whole : Callee P w K mg base 1 "is_whole" ["thing"] sp_whole) : FnOk P w K mg base CX0 2 f fd ["form", "number"] (sp_has K):=by
 refine F.okq sc_has_part (fun vs H Q E h=>?_) (fun cdv A outer s H vs Q E hr h=>?_)
 ·obtain ⟨v,w,n,ps,k,rfl,_⟩:=h
  rfl
 ·obtain ⟨v,w,n,ps,k,rfl,ht,hk,q⟩:=h
  refine ⟨_,qss_one (qs_ret (qe_and (qe_fn C_is_whole (hr.mono (by decide)) (qa_cons (qv 1) qa_nil)) (qe_one (qe_chain op_leA op_ltA (qe_int) (qv 1) (qe_callB (k_len K) (by rfl) T.len (by decide +kernel) (qa_cons (qe_ix (k_ix K) (qv 0) (qe_int) (fun _ _=>rfl)) qa_nil)))))),?_⟩
  cases ht with
  | @mk b pp _ nv _ us _ qb hn qp l hch =>
  walk_at "r"
  refine ⟨_,rfl,?_⟩
  walk_at "r"
  refine ite2 (fun _=>?_) (fun c=>absurd (decide_eq_true (by omega)) c)
  walk_at "r"
  refine s_ix_tup qb rfl ?_
  walk_at "r"
  refine s_len_tup qp ?_
  walk_at "r"
  have e : decide ((k : Int) < (us.length : Int)) = true:=decide_eq_true (by omega)
  rw [e]
  exact q
end
end K51
namespace K51
open PySem L2 K19
section
variable {P : Program} {w : World} {K : PySem.W.Frag} {mg : Str→Option Value} {base : Heap}
theorem atI_last {α : Type} {xs : List α} {x : α} (h : xs[xs.length - 1]? = some x) : atI xs (-1) = some x:=by
 have hl:=(List.getElem?_eq_some_iff.mp h).1
 unfold atI ixN
 rw [if_neg (by omega),if_pos (by omega)]
 have e : ((-1 : Int) + (xs.length : Int)).toNat = xs.length - 1:=by omega
 simpa [e] using h
theorem atI_ok {α : Type} {xs : List α} {i : Int} {x : α} (j : Nat) (hj : (j : Int) = i) (h : xs[j]? = some x) : atI xs i = some x:=by
 have hl:=(List.getElem?_eq_some_iff.mp h).1
 subst hj
 unfold atI ixN
 rw [if_pos (by omega),if_pos (by omega)]
 simpa using h
theorem plV_at {pl : List Nat} {i : Nat} {v : V} (h : (plV pl)[i]? = some v) : ∃ k,v = .int (k : Nat)∧pl[i]? = some k:=by
 unfold plV at h
 rw [List.getElem?_map] at h
 cases e : pl[i]? with
 | none=>rw [e] at h; cases h
 | some x=>rw [e] at h; exact ⟨x,(Option.some.inj h).symm,rfl⟩
theorem plV_len (pl : List Nat) : (plV pl).length = pl.length:=by unfold plV; simp
noncomputable def sp_down (K : PySem.W.Frag) : Sp:=fun vs H Q _=>∃ (v : V) (t : Tr) (p : Addr) (pl : List Nat),vs = [v,.ref p]∧TrAt K H v t∧SqT K H p (plV pl)∧Sub t pl∧pl.length ≤ 1000 ∧
 ∀ (q : Addr) (ws : List V) (H' : Hp),H q = none→Same H H'→H' q = some (.lst ws)→Al (TrAt K H') ws (path t pl)→Q (.ref q) H'
theorem sc_forms_down_to : FnScope ["tree", "place", "passed", "number"] ["tree", "place"] (defScope s_forms_down_to):=⟨rfl,rfl,rfl,by decide +kernel,rfl,by decide +kernel,by decide +kernel⟩
theorem ok_down {f : Addr} {fd : FuncData} (F : Fun K "forms_down_to" "forms_down_to" s_forms_down_to f fd) (T : Txt K mg) (C_has_part : Callee P w K mg base 2 "has_part" ["form", "number"] (sp_has K)) : FnOk P w K mg base CX0 3 f fd ["tree", "place"] (sp_down K):=by
 refine F.okq sc_forms_down_to (fun vs H Q E h=>?_) (fun cdv A outer s H vs Q E hr h=>?_)
 ·obtain ⟨v,t,p,pl,rfl,_⟩:=h
  rfl
 ·obtain ⟨v,t,p,pl,rfl,ht,hp,hs,hl,q⟩:=h
  refine ⟨_,qss_cons (qs_set (i:=2) sc_forms_down_to.nd rfl (Or.inl rfl) (qe_lst (qa_cons (qv 0) qa_nil)))
   (qss_cons (qs_for PassesOwn.never rfl (qi_anyK K (qv 1)) (qg_name (i:=3) sc_forms_down_to.nd rfl (Or.inl rfl)) (qss_cons (qs_if (qt_not (qt_val (qe_fn C_has_part (hr.mono (by decide)) (qa_cons (qe_ix (k_ix K) (qv 2) (qe_un un_neg (qe_int)) (fun _ _=>rfl)) (qa_cons (qv 3) qa_nil))))) (qss_one (qs_dead)) (qss_nil))
   (qss_one (qs_expr (qe_bmK K PySem.F.plainAttrs_list PySem.F.slot_list_append PySem.F.type_list_append mt_append (qv 2) (qa_cons (qe_ix (k_ix K) (qe_ix (k_ix K) (qe_ix (k_ix K) (qv 2) (qe_un un_neg (qe_int)) (fun _ _=>rfl)) (qe_int) (fun _ _=>rfl)) (qv 3) (fun _ _=>rfl)) qa_nil))))))
   (qss_one (qs_ret (qv 2)))),?_⟩
  have bg:=big
  walk_at "r"
  refine ⟨by show 1 ≤ sizeLine; decide,fun q0 hq0=>?_⟩
  have s1 : Same H (upd H q0 (.lst [v])):=Same.upd hq0
  have e1 : upd H q0 (.lst [v]) q0 = some (.lst [v]):=upd_same
  revert s1 e1
  generalize upd H q0 (.lst [v]) = H1
  intro s1 e1
  walk_at "r"
  refine .inr (.inl ⟨p,rfl,⟨_,s1.tup hp⟩,?_⟩)
  have p0 : (path t pl).take 1 = [t]:=by
   have:=path_zero t pl
   cases e : path t pl with
   | nil=>rw [e] at this; cases this
   | cons a r =>
    rw [e] at this
    have h : a = t:=by simpa using this
    rw [h]
    rfl
  refine for_tup (K:=K) (a:=p) (xs:=plV pl) (fun i σ' H'=>∃ w3 ws,σ' = [some v,some (.ref p),some (.ref q0),w3]∧H' q0 = some (.lst ws)∧Al (TrAt K H') ws ((path t pl).take (i + 1))∧Same H H') ⟨none,[v],rfl,e1,by rw [p0]; exact Al.nil.snoc (ht.same s1),s1⟩ ?_ ?_ ?_
  ·rintro i σ' H' _ ⟨_,_,_,_,_,sm⟩
   exact sm.tup hp
  ·rintro i x σ' H' hx ⟨w3,ws,rfl,e2,al,sm⟩
   obtain ⟨k,rfl,hk⟩:=plV_at hx
   obtain ⟨w',n',ps,u,a1,a2,a3⟩:=path_at hs i k hk
   have hi:=(List.getElem?_eq_some_iff.mp hk).1
   have hpl:=path_len hs
   have hwl : ws.length = i + 1:=by rw [al.1,List.length_take]; omega
   have hx1 : ((path t pl).take (i + 1))[i]? = some (.mk w' n' ps):=by rw [List.getElem?_take,if_pos (by omega)]; exact a1
   obtain ⟨vi,hvi,hti⟩:=al.get' hx1
   have hlast : atI ws (-1) = some vi:=atI_last (by rw [hwl]; exact hvi)
   cases hti with
   | @mk b pp _ nv _ us _ qb hn qp l hch =>
   have hku : k < us.length:=by rw [l]; exact (List.getElem?_eq_some_iff.mp a2).1
   walk_at "r"
   refine s_ix_lst (SqL.of e2) hlast ?_
   walk_at "r"
   refine ⟨_,w',n',ps,k,rfl,.mk qb hn qp l hch,by omega,?_⟩
   walk_at "r"
   refine s_tyL (SqL.of e2) ?_
   walk_at "r"
   refine s_ix_lst (SqL.of e2) hlast ?_
   walk_at "r"
   refine s_ix_tup qb rfl ?_
   walk_at "r"
   refine s_ix_tup qp (atI_ok k rfl (List.getElem?_eq_getElem hku)) ?_
   walk_at "r"
   refine s_app e2 (by omega) ?_
   walk_at "r"
   have t3 : SameT H' (upd H' q0 (.lst (ws ++ [us[k]]))):=SameT.set e2
   refine ⟨_,ws ++ [us[k]],rfl,upd_same,?_,sm.over hq0⟩
   have e3 : (path t pl).take (i + 1 + 1) = (path t pl).take (i + 1) ++ [u]:=by rw [List.take_add_one,a3]; rfl
   rw [e3]
   exact (al.mono fun _ _ z=>z.sameT t3).snoc ((hch k _ u (List.getElem?_eq_getElem hku) a2).sameT t3)
  ·rintro σ' H' ⟨w3,ws,rfl,e2,al,sm⟩
   rw [plV_len,List.take_of_length_le (by rw [path_len hs]; omega)] at al
   walk_at "r"
   exact q q0 ws H' hq0 sm e2 al
end
end K51
namespace K51
open PySem L2 K19
section
variable {P : Program} {w : World} {K : PySem.W.Frag} {mg : Str→Option Value} {base : Heap}
noncomputable def sp_wpart (K : PySem.W.Frag) : Sp:=fun vs H Q _=>∃ (v u : V) (w : Str) (n : Dt) (ps : List Tr) (tu : Tr) (k : Nat),vs = [v,.int (k : Nat),u]∧TrAt K H v (.mk w n ps)∧TrAt K H u tu∧k < ps.length∧ps.length ≤ 1000 ∧
 ∀ (v' : V) (H' : Hp),Same H H'→TrAt K H' v' (.mk w n (ps.set k tu))→Q v' H'
theorem set_split {α : Type} {xs : List α} {k : Nat} {x : α} (h : k < xs.length) : xs.take k ++ [x] ++ xs.drop (k + 1) = xs.set k x:=by
 rw [List.set_eq_take_append_cons_drop,if_pos h,List.append_assoc]
 rfl
theorem sc_with_part : FnScope ["form", "number", "part", "parts"] ["form", "number", "part"] (defScope s_with_part):=⟨rfl,rfl,rfl,by decide +kernel,rfl,by decide +kernel,by decide +kernel⟩
theorem ok_wpart {f : Addr} {fd : FuncData} (F : Fun K "with_part" "with_part" s_with_part f fd) (T : Txt K mg) : FnOk P w K mg base CX0 1 f fd ["form", "number", "part"] (sp_wpart K):=by
 refine F.okq sc_with_part (fun vs H Q E h=>?_) (fun cdv A outer s H vs Q E hr h=>?_)
 ·obtain ⟨v,u,w,n,ps,tu,k,rfl,_⟩:=h
  rfl
 ·obtain ⟨v,u,w,n,ps,tu,k,rfl,ht,hu,hk,hl,q⟩:=h
  refine ⟨_,qss_cons (qs_set (i:=3) sc_with_part.nd rfl (Or.inl rfl) (qe_ix (k_ix K) (qv 0) (qe_int) (fun _ _=>rfl)))
   (qss_one (qs_ret (qe_tup (qa_cons (qe_ix (k_ix K) (qv 0) (qe_int) (fun _ _=>rfl)) (qa_cons (qe_ix (k_ix K) (qv 0) (qe_int) (fun _ _=>rfl)) (qa_cons (qe_op (k_add K) (qe_op (k_add K) (qe_slice (k_slB K) (qv 3) (qo_none) (qo_some (qv 1))) (qe_tup (qa_cons (qv 2) qa_nil))) (qe_slice (k_slB K) (qv 3) (qo_some (qe_op (k_add K) (qv 1) (qe_int))) (qo_none))) qa_nil)))))),?_⟩
  have bg:=big
  cases ht with
  | @mk b pp _ nv _ us _ qb hn qp l hch =>
  walk_at "r"
  refine s_ix_tup qb rfl ?_
  walk_at "r"
  refine s_ix_tup qb rfl ?_
  walk_at "r"
  refine s_ix_tup qb rfl ?_
  walk_at "r"
  refine s_slb_tup qp fun r1 H1 s1 q1=>?_
  rw [cutV_to] at q1
  walk_at "r"
  refine ⟨by show 1 ≤ sizeLine; decide,fun p2 h2=>?_⟩
  have s2:=Same.upd (o:=.tup [u]) h2
  refine s_add_tup (s2.tup q1) (SqT.of upd_same) (by rw [List.length_take]; show _ + 1 ≤ sizeLine; omega) fun r3 H3 s3 q3=>?_
  have s13:=s1.trans (s2.trans s3)
  walk_at "r"
  refine s_slb_tup (s13.tup qp) fun r4 H4 s4 q4=>?_
  have ek : (k : Int) + 1 = ((k + 1 : Nat) : Int):=by omega
  rw [ek,cutV_from] at q4
  refine s_add_tup (s4.tup q3) q4 (by rw [List.length_append,List.length_take,List.length_drop]; show _ + 1 + _ ≤ sizeLine; omega) fun r5 H5 s5 q5=>?_
  rw [set_split (by omega)] at q5
  walk_at "r"
  refine ⟨by show 3 ≤ sizeLine; decide,fun p6 h6=>?_⟩
  have s6:=Same.upd (o:=.tup [.str w,nv,.ref r5]) h6
  have sm:=s13.trans (s4.trans (s5.trans s6))
  refine q (.ref p6) _ sm (.mk (SqT.of upd_same) (hn.same sm.t) (s6.tup q5) (by rw [List.length_set,List.length_set]; exact l) fun j x y g1 g2=>?_)
  by_cases e : k = j
  ·subst e
   rw [List.getElem?_set_self (by omega)] at g1 g2
   cases g1
   cases g2
   exact hu.same sm
  ·rw [List.getElem?_set_ne e] at g1 g2
   exact (hch j x y g1 g2).same sm
end
end K51
namespace K51
open PySem L2 K19
section
variable {P : Program} {w : World} {K : PySem.W.Frag} {mg : Str→Option Value} {base : Heap}
noncomputable def sp_withat (K : PySem.W.Frag) : Sp:=fun vs H Q _=>∃ (v u : V) (t tu : Tr) (p : Addr) (pl : List Nat),vs = [v,.ref p,u]∧TrAt K H v t∧SqT K H p (plV pl)∧Sub t pl∧pl.length ≤ 1000∧t.size ≤ 1000∧TrAt K H u tu ∧
 ∀ (v' : V) (H' : Hp),Same H H'→TrAt K H' v' (withAt t pl tu)→Q v' H'
theorem path_size {t : Tr} {pl : List Nat} (s : Sub t pl) : ∀ u ∈ path t pl,u.size ≤ t.size:=by
 induction s with
 | nil t=>intro u hu; cases t; rw [path,List.mem_singleton] at hu; rw [hu]; exact Nat.le_refl _
 | cons hj _ ih =>
  intro u hu
  rw [path_cons hj] at hu
  rcases List.mem_cons.mp hu with rfl | hu
  ·exact Nat.le_refl _
  ·have:=ih u hu
   have:=sizes_get hj
   rw [Tr.size]
   omega
theorem sc_with_at : FnScope ["tree", "place", "form", "made", "number", "above"] ["tree", "place", "form"] (defScope s_with_at):=⟨rfl,rfl,rfl,by decide +kernel,rfl,by decide +kernel,by decide +kernel⟩
theorem ok_withat {f : Addr} {fd : FuncData} (F : Fun K "with_at" "with_at" s_with_at f fd) (T : Txt K mg) (C_forms_down_to : Callee P w K mg base 3 "forms_down_to" ["tree", "place"] (sp_down K)) (C_with_part : Callee P w K mg base 1 "with_part" ["form", "number", "part"] (sp_wpart K)) : FnOk P w K mg base CX0 4 f fd ["tree", "place", "form"] (sp_withat K):=by
 refine F.okq sc_with_at (fun vs H Q E h=>?_) (fun cdv A outer s H vs Q E hr h=>?_)
 ·obtain ⟨v,u,t,tu,p,pl,rfl,_⟩:=h
  rfl
 ·obtain ⟨v,u,t,tu,p,pl,rfl,ht,hp,hs,hl,hz,hu,q⟩:=h
  refine ⟨_,qss_cons (qs_set (i:=3) sc_with_at.nd rfl (Or.inl rfl) (qv 2))
   (qss_cons (qs_for PassesOwn.never rfl (qi_revK K rfl T.reversed (qa_cons (qe_list_zipK K (by rfl) T.list (by rfl) T.zip (qa_cons (qv 1) (qa_cons (qe_fn C_forms_down_to (hr.mono (by decide)) (qa_cons (qv 0) (qa_cons (qv 1) qa_nil))) qa_nil))) qa_nil)) (qg_tupK K (n:=2) rfl (qgs_cons (qg_name (i:=4) sc_with_at.nd rfl (Or.inl rfl)) (qgs_cons (qg_name (i:=5) sc_with_at.nd rfl (Or.inl rfl)) (qgs_nil)))) (qss_one (qs_set (i:=3) sc_with_at.nd rfl (Or.inl rfl) (qe_fn C_with_part (hr.mono (by decide)) (qa_cons (qv 5) (qa_cons (qv 4) (qa_cons (qv 3) qa_nil)))))))
   (qss_one (qs_ret (qv 3)))),?_⟩
  have hpl:=path_len hs
  walk_at "r"
  refine ⟨v,t,p,pl,rfl,ht,hp,hs,hl,fun q1 ws H1 hq1 s1 e1 al=>?_⟩
  walk_at "r"
  refine ⟨p,q1,_,ws,rfl,s1.tup hp,SqL.of e1,fun S zs H2 hS s2 hzl hpairs hS2=>?_⟩
  have hzl : zs.length = pl.length:=by rw [hzl,plV_len,al.1,hpl]; omega
  walk_at "r"
  refine ⟨S,zs,rfl,SqL.of hS2,?_⟩
  have s12:=s1.trans s2
  have hlastp : (path t pl)[pl.length]? = some ((path t pl)[pl.length]'(by omega)):=List.getElem?_eq_getElem (by omega)
  refine for_rev (K:=K) (a:=S) (xs:=zs) (fun j σ' H'=>∃ w4 w5 m tm,σ' = [some v,some (.ref p),some u,some m,w4,w5]∧(path t pl)[pl.length - j]? = some tm∧TrAt K H' m (withAt tm (pl.drop (pl.length - j)) tu)∧Same H2 H') ⟨none,none,u,_,rfl,hlastp,by rw [Nat.sub_zero,List.drop_of_length_le (Nat.le_refl _),with_nil]; exact hu.same s12,Same.refl _⟩ ?_ ?_ ?_
  ·rintro j σ' H' _ ⟨_,_,_,_,_,_,_,sm⟩
   exact SqL.of (sm _ _ hS2)
  ·rintro j z σ' H' hj hz1 ⟨w4,w5,m,tm,rfl,htm,hm,sm⟩
   obtain ⟨tt,x,y,rfl,hx,hy,htt⟩:=hpairs _ _ hz1
   obtain ⟨k,rfl,hk⟩:=plV_at hx
   obtain ⟨w',n',ps,u',a1,a2,a3⟩:=path_at hs _ k hk
   rw [hzl] at hk a1 a3 hy hj
   obtain ⟨ty,hty,hat⟩:=al.get hy
   rw [a1] at hty
   cases hty
   have e2 : pl.length - 1 - j + 1 = pl.length - j:=by omega
   rw [e2,htm] at a3
   cases a3
   have hps : ps.length ≤ 1000:=by
    have:=path_size hs _ (List.mem_of_getElem? a1)
    rw [Tr.size] at this
    have:=sizes_len ps
    omega
   walk_at "r"
   refine s_gtup (SqT.of (sm _ _ htt)) rfl ?_
   walk_at "r"
   refine ⟨y,m,w',n',ps,_,k,rfl,hat.same (s2.trans sm),hm,(List.getElem?_eq_some_iff.mp a2).1,hps,fun v' H3 s3 hv'=>?_⟩
   walk_at "r"
   have e3 : pl.length - (j + 1) = pl.length - 1 - j:=by omega
   refine ⟨_,_,v',_,rfl,by rw [e3]; exact a1,?_,sm.trans s3⟩
   rw [e3,with_path hs _ k w' n' ps tm hk a1 (by rw [e2]; exact htm),e2]
   exact hv'
  ·rintro σ' H' ⟨w4,w5,m,tm,rfl,htm,hm,sm⟩
   rw [hzl,Nat.sub_self] at htm hm
   rw [path_zero] at htm
   cases htm
   walk_at "r"
   exact q m H' (s12.trans sm) hm
end
end K51
namespace K51
open PySem L2 K19
section
variable {P : Program} {w : World} {K : PySem.W.Frag} {mg : Str→Option Value} {base : Heap}
noncomputable def sp_fat (K : PySem.W.Frag) : Sp:=fun vs H Q _=>∃ (v : V) (t : Tr) (p : Addr) (pl : List Nat) (tx : Tr),vs = [v,.ref p]∧TrAt K H v t∧SqT K H p (plV pl)∧Sub t pl∧pl.length ≤ 1000∧(path t pl)[pl.length]? = some tx ∧
 ∀ (u : V) (H' : Hp),Same H H'→TrAt K H' u tx→Q u H'
theorem sc_form_at : FnScope ["tree", "place"] ["tree", "place"] (defScope s_form_at):=⟨rfl,rfl,rfl,by decide +kernel,rfl,by decide +kernel,by decide +kernel⟩
theorem ok_fat {f : Addr} {fd : FuncData} (F : Fun K "form_at" "form_at" s_form_at f fd) (T : Txt K mg) (C_forms_down_to : Callee P w K mg base 3 "forms_down_to" ["tree", "place"] (sp_down K)) : FnOk P w K mg base CX0 4 f fd ["tree", "place"] (sp_fat K):=by
 refine F.okq sc_form_at (fun vs H Q E h=>?_) (fun cdv A outer s H vs Q E hr h=>?_)
 ·obtain ⟨v,t,p,pl,tx,rfl,_⟩:=h
  rfl
 ·obtain ⟨v,t,p,pl,tx,rfl,ht,hp,hs,hl,hx,q⟩:=h
  refine ⟨_,qss_one (qs_ret (qe_ix (k_ix K) (qe_fn C_forms_down_to (hr.mono (by decide)) (qa_cons (qv 0) (qa_cons (qv 1) qa_nil))) (qe_un un_neg (qe_int)) (fun _ _=>rfl))),?_⟩
  have hpl:=path_len hs
  walk_at "r"
  refine ⟨v,t,p,pl,rfl,ht,hp,hs,hl,fun q1 ws H1 hq1 s1 e1 al=>?_⟩
  obtain ⟨u,hu,hat⟩:=al.get' hx
  have hwl : ws.length - 1 = pl.length:=by rw [al.1,hpl]; omega
  walk_at "r"
  refine s_ix_lst (SqL.of e1) (atI_last (by rw [hwl]; exact hu)) ?_
  exact q u H1 s1 hat
noncomputable def sp_nogap (K : PySem.W.Frag) : Sp:=fun vs H Q _=>∃ (v : V) (d : Dt) (ts : List Tr),vs = [v]∧TrAt K H v (.mk "gap" d ts)∧Q .non H
theorem sc_refuse_no_gap : FnScope ["form"] ["form"] (defScope s_refuse_no_gap):=⟨rfl,rfl,rfl,by decide +kernel,rfl,by decide +kernel,by decide +kernel⟩
theorem ok_nogap {f : Addr} {fd : FuncData} (F : Fun K "refuse_no_gap" "refuse_no_gap" s_refuse_no_gap f fd) (T : Txt K mg) : FnOk P w K mg base CX0 1 f fd ["form"] (sp_nogap K):=by
 refine F.okq sc_refuse_no_gap (fun vs H Q E h=>?_) (fun cdv A outer s H vs Q E hr h=>?_)
 ·obtain ⟨v,d,ts,rfl,_⟩:=h
  rfl
 ·obtain ⟨v,d,ts,rfl,ht,q⟩:=h
  refine ⟨_,qss_one (qs_if (qt_cmpR (k_ne K hr.u200) (qe_ix (k_ix K) (qv 0) (qe_int) (fun _ _=>rfl)) (qe_str) (nomark _)) (qss_one (qs_dead)) (qss_nil)),?_⟩
  cases ht with
  | @mk b pp _ nv _ us _ qb hn qp l hch =>
  walk_at "r"
  refine s_ix_tup qb rfl ?_
  walk_at "r"
  rw [decide_eq_true (Eq.refl _)]
  walk_at "r"
  exact q
noncomputable def nowT (bc : List (Str × V)) (x : Str × V) : Str × V:=if x.1 = "row" then (match x.2 with | .int k=>(bc[k.toNat]?).getD x | _=>x) else x
noncomputable def NowOk (n : Nat) (x : Str × V) : Prop:=x.1 = "row"→∃ k : Nat,x.2 = .int (k : Nat)∧k < n
noncomputable def sp_now (K : PySem.W.Frag) : Sp:=fun vs H Q _=>∃ (tv : V) (b : Addr) (bv : List V) (x : Str × V) (bc : List (Str × V)),vs = [tv,.ref b]∧ThAt K H tv x∧SqL K H b bv∧Al (ThAt K H) bv bc∧NowOk bc.length x∧∀ v,ThAt K H v (nowT bc x)→Q v H
theorem sc_thing_now : FnScope ["thing", "became"] ["thing", "became"] (defScope s_thing_now):=⟨rfl,rfl,rfl,by decide +kernel,rfl,by decide +kernel,by decide +kernel⟩
theorem ok_now {f : Addr} {fd : FuncData} (F : Fun K "thing_now" "thing_now" s_thing_now f fd) (T : Txt K mg) : FnOk P w K mg base CX0 1 f fd ["thing", "became"] (sp_now K):=by
 refine F.okq sc_thing_now (fun vs H Q E h=>?_) (fun cdv A outer s H vs Q E hr h=>?_)
 ·obtain ⟨tv,b,bv,x,bc,rfl,_⟩:=h
  rfl
 ·obtain ⟨tv,b,bv,x,bc,rfl,ht,hb,al,ok,q⟩:=h
  refine ⟨_,qss_one (qs_ret (qe_ifExp (qt_cmpR (k_eq K hr.u200) (qe_ix (k_ix K) (qv 0) (qe_int) (fun _ _=>rfl)) (qe_str) (nomark _)) (qe_ix (k_ix K) (qv 1) (qe_ix (k_ix K) (qv 0) (qe_int) (fun _ _=>rfl)) (fun _ _=>rfl)) (qv 0))),?_⟩
  obtain ⟨hf,a,rfl,qa⟩:=ht
  walk_at "r"
  unfold tIf
  walk_at "r"
  refine s_ix_tup qa rfl ?_
  walk_at "r"
  rw [dec_str]
  by_cases hw : x.1 = "row"
  ·obtain ⟨k,ek,hk⟩:=ok hw
   have hkb : k < bv.length:=by rw [al.1]; exact hk
   have hx:=al.2 k bv[k] bc[k] (List.getElem?_eq_getElem hkb) (List.getElem?_eq_getElem hk)
   have en : nowT bc x = bc[k]:=by
    unfold nowT
    rw [if_pos hw,ek]
    simp [List.getElem?_eq_getElem hk]
   rw [decide_eq_true hw]
   walk_at "r"
   refine s_ix_tup qa rfl ?_
   rw [ek]
   refine s_ix_lst hb (atI_nat (List.getElem?_eq_getElem hkb)) ?_
   exact q _ (by rw [en]; exact hx)
  ·rw [decide_eq_false hw]
   walk_at "r"
   refine q _ ?_
   unfold nowT
   rw [if_neg hw]
   exact ⟨hf,a,rfl,qa⟩
noncomputable def nowO (bc ops : List (Str × V)) : List (Str × V):=ops.map (nowT bc)
noncomputable def nowA (bc : List (Str × V)) (ar : List (Str × Str × V)) : List (Str × Str × V):=ar.map fun y=>(y.1,nowT bc y.2)
inductive RowG (sub : List Nat→Option (Str × Dt)) (fl : List Nat) (bc : List (Str × V)) (r : Rx) (S : MS) : MS→Str × V→Prop where
 | fill {n : Nat} {S' : MS} {th : List (Str × V)} {x : Str × V} (hp : r.pl = plI fl) (R : RunM sub n { S with wait:=S.wait ++ [⟨fl,nowA bc r.ar,false⟩] } S') (hx : S'.things = th ++ [x]) : RowG sub fl bc r S { S' with things:=th } x
 | parts {pl : List Nat} {n : Nat} {S' : MS} {th : List (Str × V)} {x : Str × V} (hp : r.pl = plI pl) (hn : r.pl ≠ plI fl) (hw : (partsA r.wd).isSome = true) (R : RunM sub n { S with things:=S.things ++ nowO bc r.ops,wait:=S.wait ++ [⟨pl,nowA bc r.ar,true⟩] } S') (hx : S'.things = th ++ [x]) : RowG sub fl bc r S { S' with things:=th } x
 | new {pl : List Nat} (hp : r.pl = plI pl) (hn : r.pl ≠ plI fl) (hw : (partsA r.wd).isSome = false) : RowG sub fl bc r S { S with rows:=S.rows ++ [⟨r.wd,plI pl,nowO bc r.ops,if r.wd ∈ WA then nowA bc r.ar else []⟩] } ("row",.int (S.rows.length : Nat))
structure RowOkG (n : Nat) (r : Rx) : Prop where
 o : ∀ y ∈ r.ops,NowOk n y
 a : ∀ y ∈ r.ar,NowOk n y.2
 lo : r.ops.length ≤ 1000
 la : r.ar.length ≤ 1000
noncomputable def sp_trow (K : PySem.W.Frag) (C : Addr) : Sp:=fun vs H Q _=>∃ (a : V) (p b : Addr) (r : Rx) (fl : List Nat) (bv : List V) (bc : List (Str × V)) (HB : Hp) (kvs : List (List Key × V)) (L : Ml) (S S2 : MS) (sub : List Nat→Option (Str × Dt)) (x : Str × V),vs = [.ref L.m,a,.ref p,.ref b]∧MAt K HB C kvs L H S∧RwX K (fun _=>False) HB a r∧SqT K HB p (plV fl)∧HB b = some (.lst bv)∧Al (ThAt K H) bv bc∧RowOkG bc.length r∧FormsAt K H kvs sub∧S.rows.length < 9000∧S.wait.length < 8000∧S.things.length < 8000∧RowG sub fl bc r S S2 x ∧
 ∀ v H' t,SameM L H H'→MAt K HB C kvs (L.with t) H' S2→ThAt K H' v x→Q v H'
theorem fs_top (L : Ml) (n : Int) : (L.fs n).lookup ("thing_of_parts" : Str) = none:=rfl
theorem nd_thing_of_row_1 : (["thing", "became"] : List Str).Nodup:=by decide +kernel
theorem nd_thing_of_row_2 : (["name", "thing", "became"] : List Str).Nodup:=by decide +kernel
theorem sc_thing_of_row : FnScope ["machine", "row", "filled", "became", "word", "place", "operands", "around"] ["machine", "row", "filled", "became"] (defScope s_thing_of_row):=⟨rfl,rfl,rfl,by decide +kernel,rfl,by decide +kernel,by decide +kernel⟩
theorem ok_trow {C : Addr} {f : Addr} {fd : FuncData} (F : Fun K "thing_of_row" "thing_of_row" s_thing_of_row f fd) (T : Txt K mg) (O : Mc K C) {ap : Addr} {pk : List (Str × V)} (G_PARTS_AWAITED : Glob mg "PARTS_AWAITED" (.ref ap)) (hpa : DkK P w K ap pk) (hpk : ∀ wd,(lookD pk wd).isSome = (partsA wd).isSome∧∀ ns,partsA wd = some ns→∃ b,lookD pk wd = some (.ref b)∧∀ H,SqT K H b (ns.map V.int))
  (C_thing_now : Callee P w K mg base 1 "thing_now" ["thing", "became"] (sp_now K)) (MR : MethX CX0 P w K mg base 1 C "new_row" ["self", "word", "place", "operands", "around"] (sp_newrow K C)) (MF : MethX CX0 P w K mg base 6 C "thing_of_form" ["self", "place", "around"] (sp_tof K C)) (MP : MethX CX0 P w K mg base 6 C "thing_of_parts" ["self", "place", "operands", "around"] (sp_top K C)) : FnOk P w K mg base CX0 7 f fd ["machine", "row", "filled", "became"] (sp_trow K C):=by
 refine F.okq sc_thing_of_row (fun vs H Q E h=>?_) (fun cdv A outer s H vs Q E hr h=>?_)
 ·obtain ⟨a,p,b,r,fl,bv,bc,HB,kvs,L,S,S2,sub,x,rfl,_⟩:=h
  rfl
 ·obtain ⟨av,p,b,r,fl,bv,bc,HB,kvs,L,S,S2,sub,x,rfl,M,xr,hp,hb,alb,rok,FA,z1,z2,z3,G,q⟩:=h
  refine ⟨_,qss_cons (qs_asg (qe_slice (k_sl K) (qv 1) (qo_none) (qo_some (qe_int))) (qg_tupK K (n:=2) rfl (qgs_cons (qg_name (i:=4) sc_thing_of_row.nd rfl (Or.inl rfl)) (qgs_cons (qg_name (i:=5) sc_thing_of_row.nd rfl (Or.inl rfl)) (qgs_nil)))))
   (qss_cons (qs_setC (i:=6) (N:=["thing", "became"]) (σ0:=capSt 1 [3]) rfl (cscope_fn rfl (by decide +kernel) (by decide +kernel) (by decide +kernel)) (qi_anyK K (qe_ix (k_ix K) (qv 1) (qe_int) (fun _ _=>rfl))) (takes_in rfl (by rfl)) (fun _ _ _ _=>qg_name (i:=0) nd_thing_of_row_1 rfl (Or.inl rfl)) (fun _ _ _ _=>qts_nil) (fun _ _ _ _=>qe_fn C_thing_now (hr.mono (by decide)) (qa_cons (qv 0) (qa_cons (qv 1) qa_nil))) sc_thing_of_row.nd rfl (Or.inl rfl))
   (qss_cons (qs_setC (i:=7) (N:=["name", "thing", "became"]) (σ0:=capSt 2 [3]) rfl (cscope_fn rfl (by decide +kernel) (by decide +kernel) (by decide +kernel)) (qi_anyK K (qe_ix (k_ix K) (qv 1) (qe_int) (fun _ _=>rfl))) (takes_in rfl (by rfl)) (fun _ _ _ _=>qg_tupK K (n:=2) rfl (qgs_cons (qg_name (i:=0) nd_thing_of_row_2 rfl (Or.inl rfl)) (qgs_cons (qg_name (i:=1) nd_thing_of_row_2 rfl (Or.inl rfl)) (qgs_nil)))) (fun _ _ _ _=>qts_nil) (fun _ _ _ _=>qe_tup (qa_cons (qv 0) (qa_cons (qe_fn C_thing_now (hr.mono (by decide)) (qa_cons (qv 1) (qa_cons (qv 2) qa_nil))) qa_nil))) sc_thing_of_row.nd rfl (Or.inl rfl))
   (qss_cons (qs_if (qt_cmpR (k_eqB K hr.u200) (qv 5) (qv 2) (nomark _)) (qss_one (qs_ret (qe_methD (k:=6) K CX0 ["self", "place", "around"] (qv 0) (hr.mono (by decide)) pass0 (qa_cons (qv 5) (qa_cons (qv 7) qa_nil))))) (qss_nil))
   (qss_cons (qs_if (qt_cmpR (k_inD P w K) (qv 4) (qe_gl G_PARTS_AWAITED) (by rfl)) (qss_one (qs_ret (qe_methD (k:=6) K CX0 ["self", "place", "operands", "around"] (qv 0) (hr.mono (by decide)) pass0 (qa_cons (qv 5) (qa_cons (qv 6) (qa_cons (qv 7) qa_nil)))))) (qss_nil))
   (qss_one (qs_ret (qe_methD (k:=1) K CX0 ["self", "word", "place", "operands", "around"] (qv 0) (hr.mono (by decide)) pass0 (qa_cons (qv 4) (qa_cons (qv 5) (qa_cons (qv 6) (qa_cons (qv 7) qa_nil))))))))))),?_⟩
  have bg:=big
  have sB:=M.base
  obtain ⟨⟨a,p',o',e,ov,ev,rfl,qa,_,ho,alo,he,ale,_,_⟩,a2,p2,o2,e2,ea,qa2,hp2⟩:=RwX.same sB.a _ _ xr
  cases ea
  have hb1:=sB _ _ hb
  have lo:=rok.lo
  have la:=rok.la
  have hol:=alo.1
  have hel:=ale.1
  walk_at "r"
  refine .inr (.inr ⟨a,_,rfl,qa2,by show ¬(HT.sIx 4 0 none = 0∧HT.sIx 4 4 (some 2) = 4); decide,fun k1 h1=>?_⟩)
  rw [show cutV [V.str r.wd,.ref p2,.ref o2,.ref e2] none (some 2) = [V.str r.wd,.ref p2] from rfl]
  have s1 : Same H (upd H k1 (.tup [.str r.wd,.ref p2])):=Same.upd h1
  have e1 : upd H k1 (.tup [.str r.wd,.ref p2]) k1 = some (.tup [.str r.wd,.ref p2]):=upd_same
  revert s1 e1
  generalize upd H k1 (.tup [.str r.wd,.ref p2]) = H1
  intro s1 e1
  walk_at "r"
  refine s_gtup (SqT.of e1) rfl ?_
  walk_at "r"
  refine s_ix_tup (s1.tup qa) rfl ?_
  refine .inl ⟨o',rfl,⟨_,SqL.of (s1 _ _ ho)⟩,fun D hD=>?_⟩
  refine comp_list (K:=K) (a:=o') (xs:=ov) (Pv:=fun i ys σ' H'=>∃ kv,σ' = [kv,some (.ref b)]∧Al (ThAt K H') ys ((r.ops.take i).map (nowT bc))∧Same H1 H') ⟨none,rfl,.nil,Same.upd hD⟩ (fun i ys σ' H' _ ⟨_,_,_,s'⟩=>SqL.of (s' _ _ (s1 _ _ ho))) ?_ ?_
  ·rintro i y ys σ' H2 hy hys ⟨kv,rfl,al2,s2⟩
   obtain ⟨xo,hxo,txo⟩:=alo.get hy
   have s02:=s1.trans s2
   walk_at "r"
   refine ⟨y,b,bv,xo,bc,rfl,ThAt.same s02.t _ _ txo,SqL.of (s02 _ _ hb1),alb.mono (ThAt.same s02.t),rok.o _ (List.mem_of_getElem? hxo),fun v tv=>?_⟩
   have hyl : ys.length ≤ 1000:=by rw [al2.1,List.length_map,List.length_take]; omega
   refine ⟨_,hys,by omega,_,upd_same,?_⟩
   have sA : SameT H2 (upd H2 D (.lst (ys ++ [v]))):=SameT.set hys
   refine ⟨_,rfl,?_,s2.over hD⟩
   rw [List.take_add_one,hxo,Option.toList_some,List.map_append,List.map_singleton]
   exact (al2.mono (ThAt.same sA)).snoc (ThAt.same sA _ _ tv)
  ·rintro ys σ' H2 hys ⟨kv,rfl,al2,s2⟩
   rw [List.take_of_length_le (by omega)] at al2
   have al2 : Al (ThAt K H2) ys (nowO bc r.ops):=al2
   have s02:=s1.trans s2
   walk_at "r"
   refine s_ix_tup (s02.tup qa) rfl ?_
   refine .inl ⟨e,rfl,⟨_,SqL.of (s02 _ _ he)⟩,fun D2 hD2=>?_⟩
   refine comp_list (K:=K) (a:=e) (xs:=ev) (Pv:=fun i zs σ' H'=>∃ k1 k2,σ' = [k1,k2,some (.ref b)]∧Al (PrAt K H') zs ((r.ar.take i).map fun y=>(y.1,nowT bc y.2))∧Same H2 H') ⟨none,none,rfl,.nil,Same.upd hD2⟩ (fun i zs σ' H' _ ⟨_,_,_,_,s'⟩=>SqL.of (s' _ _ (s02 _ _ he))) ?_ ?_
   ·rintro i y zs σ' H3 hy hzs ⟨k1,k2,rfl,al3,s3⟩
    obtain ⟨xa,hxa,pa,u,rfl,qp,tu⟩:=ale.get hy
    have s03:=s02.trans s3
    walk_at "r"
    refine s_gtup (s03.tup qp) rfl ?_
    walk_at "r"
    refine ⟨u,b,bv,xa.2,bc,rfl,ThAt.same s03.t _ _ tu,SqL.of (s03 _ _ hb1),alb.mono (ThAt.same s03.t),rok.a _ (List.mem_of_getElem? hxa),fun v tv=>?_⟩
    walk_at "r"
    refine ⟨by show 2 ≤ sizeLine; decide,fun k hk=>?_⟩
    have s4 : Same H3 (upd H3 k (.tup [.str xa.1,v])):=Same.upd hk
    have e4 : upd H3 k (.tup [.str xa.1,v]) k = some (.tup [.str xa.1,v]):=upd_same
    revert s4 e4
    generalize upd H3 k (.tup [.str xa.1,v]) = H4
    intro s4 e4
    have hyl : zs.length ≤ 1000:=by rw [al3.1,List.length_map,List.length_take]; omega
    refine ⟨_,s4 _ _ hzs,by omega,_,upd_same,?_⟩
    have sA : SameT H4 (upd H4 D2 (.lst (zs ++ [.ref k]))):=SameT.set (s4 _ _ hzs)
    refine ⟨_,_,rfl,?_,(s3.trans s4).over hD2⟩
    rw [List.take_add_one,hxa,Option.toList_some,List.map_append,List.map_singleton]
    exact (al3.mono (PrAt.same (s4.t.trans sA))).snoc ⟨k,v,rfl,sA.tup (SqT.of e4),ThAt.same (s4.t.trans sA) _ _ tv⟩
   ·rintro zs σ' H3 hzs ⟨k1,k2,rfl,al3,s3⟩
    rw [List.take_of_length_le (by omega)] at al3
    have al3 : Al (PrAt K H3) zs (nowA bc r.ar):=al3
    have s03:=s02.trans s3
    have M3:=M.new s03
    have FA3:=FA.same s03.t
    have hys3:=s3 _ _ hys
    have al23:=al2.mono (ThAt.same s3.t)
    have nA2 : ¬ L.A D2:=by
     have M2:=M.new s02
     obtain ⟨rv,er,_⟩:=M2.rows
     obtain ⟨wv',ew',_⟩:=M2.wait
     obtain ⟨tv,et,_⟩:=M2.things
     rintro (y | y | y)
     ·rw [y,er] at hD2; cases hD2
     ·rw [y,ew'] at hD2; cases hD2
     ·rw [y,et] at hD2; cases hD2
    walk_at "r"
    refine s_eqbI (xs:=r.pl) (ys:=plI fl) (SqT.of (s03 _ _ hp2)) (by rw [plV_plI]; exact (sB.trans s03).tup hp) ?_
    walk_at "r"
    cases G with
    | @fill n S' th x hpl R hx =>
     rw [decide_eq_true hpl]
     walk_at "r"
     have hp3 : H3 p2 = some (.tup (plV fl)):=by rw [← plV_plI,← hpl]; exact s03 _ _ hp2
     refine ⟨_,rfl,L.m,C,L.dx,_,_,rfl,M3.ins,(fs_no L S.steps).2.2.2.2.2.2.2,MF,?_⟩
     walk_at "r"
     exact ⟨p2,D2,fl,zs,nowA bc r.ar,HB,kvs,L,S,S',sub,n,th,x,rfl,M3,hp3,hzs,al3,nA2,FA3,by omega,R,hx,fun v H' t e' M' t'=>q v H' t ((s03.m L).trans e') M' t'⟩
    | @parts pl n S' th x hpl hn hw R hx =>
     rw [decide_eq_false hn]
     walk_at "r"
     have hp3 : H3 p2 = some (.tup (plV pl)):=by rw [← plV_plI,← hpl]; exact s03 _ _ hp2
     refine ⟨r.wd,ap,pk,rfl,rfl,hpa,?_⟩
     rw [(hpk r.wd).1,hw]
     walk_at "r"
     refine ⟨_,rfl,L.m,C,L.dx,_,_,rfl,M3.ins,fs_top L S.steps,MP,?_⟩
     walk_at "r"
     exact ⟨p2,D,D2,pl,ys,zs,nowO bc r.ops,nowA bc r.ar,HB,kvs,L,S,S',sub,n,th,x,rfl,M3,hp3,hys3,al23,hzs,al3,nA2,FA3,by omega,by unfold nowO; rw [List.length_map]; omega,R,hx,fun v H' t e' M' t'=>q v H' t ((s03.m L).trans e') M' t'⟩
    | @new pl hpl hn hw =>
     rw [decide_eq_false hn]
     walk_at "r"
     have hp3 : H3 p2 = some (.tup (plV pl)):=by rw [← plV_plI,← hpl]; exact s03 _ _ hp2
     refine ⟨r.wd,ap,pk,rfl,rfl,hpa,?_⟩
     rw [(hpk r.wd).1,hw]
     walk_at "r"
     refine ⟨_,rfl,L.m,C,L.dx,_,_,rfl,M3.ins,(fs_no L S.steps).2.1,MR,?_⟩
     walk_at "r"
     exact ⟨r.wd,p2,D,D2,pl,ys,zs,nowO bc r.ops,nowA bc r.ar,HB,kvs,L,S,rfl,M3,hp3,SqL.of hys3,al23,SqL.of hzs,al3,by omega,fun v H' e' M' t'=>q v H' L.td ((s03.m L).trans e') M' t'⟩
open K19 in
inductive GoG (sub : List Nat→Option (Str × Dt)) (fl : List Nat) : List Rx→List (Str × V)→MS→List (Str × V)→MS→Prop where
 | nil {bc : List (Str × V)} {S : MS} : GoG sub fl [] bc S bc S
 | cons {r : Rx} {rs : List Rx} {bc bc' : List (Str × V)} {S S1 S' : MS} {x : Str × V} (hs : S.rows.length < 9000) (ht : S.things.length < 8000) (ok : RowOkG bc.length r) (h1 : RowG sub fl bc r S S1 x) (h2 : GoG sub fl rs (bc ++ [x]) S1 bc' S') : GoG sub fl (r :: rs) bc S bc' S'
theorem RunM.wait {sub : List Nat→Option (Str × Dt)} {n : Nat} {S S' : MS} (h : RunM sub n S S') : S'.wait = []:=by
 induction h with
 | nil h=>exact h
 | cons _ _ _ ih=>exact ih
theorem RowG.wait {sub : List Nat→Option (Str × Dt)} {fl : List Nat} {bc : List (Str × V)} {r : Rx} {S S' : MS} {x : Str × V} (h : RowG sub fl bc r S S' x) (hw : S.wait = []) : S'.wait = []:=by
 cases h with
 | fill _ R _=>exact R.wait
 | parts _ _ _ R _=>exact R.wait
 | new _ _ _=>exact hw
theorem upd_upd (H : Hp) (b : Addr) (o o' : HO) : upd (upd H b o) b o' = upd H b o':=by
 funext c
 by_cases e : c = b
 ·rw [e,upd_same,upd_same]
 ·rw [upd_ne e,upd_ne e,upd_ne e]
theorem _root_.L2.MAt.re {K : PySem.W.Frag} {HB H : Hp} {C : Addr} {kvs : List (List Key × V)} {L : Ml} {S : MS} (M : MAt K HB C kvs L H S) {b : Addr} {xs : List V} (hb : H b = none ∨ ∃ ys,HB b = some (.lst ys)) (hw : S.wait = []) : MAt K (upd HB b (.lst xs)) C kvs L (upd H b (.lst xs)) S:=by
 obtain ⟨rv,er,ar,sp⟩:=M.rows
 obtain ⟨wv,ew,aw⟩:=M.wait
 obtain ⟨tv,et,att⟩:=M.things
 have ewv : wv = []:=List.eq_nil_of_length_eq_zero (by rw [aw.1,hw]; rfl)
 subst ewv
 have n1 : L.m ≠ b:=by
  rintro rfl
  rcases hb with h | ⟨ys,h⟩
  ·rw [M.ins] at h; cases h
  ·rw [M.nm] at h; cases h
 have n2 : L.rd ≠ b:=by
  rintro rfl
  rcases hb with h | ⟨ys,h⟩
  ·rw [er] at h; cases h
  ·rw [M.nr] at h; cases h
 have n3 : L.wd ≠ b:=by
  rintro rfl
  rcases hb with h | ⟨ys,h⟩
  ·rw [ew] at h; cases h
  ·rw [M.nw] at h; cases h
 have n4 : L.td ≠ b:=by
  rintro rfl
  rcases hb with h | ⟨ys,h⟩
  ·rw [et] at h; cases h
  ·rw [M.nt] at h; cases h
 have n5 : L.fd ≠ b:=by
  rintro rfl
  rcases hb with h | ⟨ys,h⟩
  ·rw [M.frm] at h; cases h
  ·have:=M.frm; rw [M.base _ _ h] at this; cases this
 have sA : SameA (fun c=>L.A c ∨ upd HB b (.lst xs) c ≠ none) H (upd H b (.lst xs)):=by
  rcases hb with h | ⟨ys,h⟩
  ·exact (Same.upd h).a
  ·exact SameA.set (M.base _ _ h) (.inr (by rw [upd_same]; simp))
 have mo : ∀ c,(L.A c ∨ upd HB b (.lst xs) c ≠ none)→H c ≠ none→(L.A c ∨ HB c ≠ none):=by
  intro c hc hn
  rcases hc with z | z
  ·exact .inl z
  ·refine .inr ?_
   by_cases e : c = b
   ·rcases hb with h | ⟨ys,h⟩
    ·rw [e,h] at hn; exact absurd rfl hn
    ·rw [e,h]; simp
   ·rw [upd_ne e] at z; exact z
 refine ⟨fun c o h=>?_,(upd_ne n1).trans M.nm,(upd_ne n2).trans M.nr,(upd_ne n3).trans M.nw,(upd_ne n4).trans M.nt,(upd_ne n1).trans M.ins,(upd_ne n5).trans M.frm,M.rw,M.rt,M.wt,⟨rv,(upd_ne n2).trans er,(ar.mono (RwX.mono mo)).mono (RwX.same sA),(sp.mono mo).same sA⟩,⟨[],(upd_ne n3).trans ew,by rw [hw]; exact .nil⟩,⟨tv,(upd_ne n4).trans et,att.mono (ThAt.same sA.1)⟩⟩
 by_cases e : c = b
 ·rw [e] at h ⊢
  rw [upd_same] at h ⊢
  exact h
 ·rw [upd_ne e] at h ⊢
  exact M.base _ _ h
open K19 in
noncomputable def sp_goon (K : PySem.W.Frag) : Sp:=fun vs H Q _=>∃ (tv fv av : V) (t tf : Tr) (p q0 rd : Addr) (fl : List Nat) (d : Dt) (gs : List Tr) (n : Int) (rv : List V) (rs : List Rx) (xa : Str × V) (bc : List (Str × V)) (S' : MS),vs = [tv,.ref q0,.ref p,fv]∧TrAt K H tv t∧t.size ≤ 1000∧SqT K H p (plV fl)∧Sub t fl∧fl.length ≤ 1000∧(path t fl)[fl.length]? = some (.mk "gap" d gs)∧TrAt K H fv tf∧(withAt t fl tf).size ≤ 2000∧SqT K H q0 [av,.ref rd,.int n]∧n ≤ 500∧H rd = some (.lst rv)∧Al (RwX K (fun b=>b = rd) H) rv rs∧rs.length ≤ 9000∧ThAt K H av xa∧GoG (subW (withAt t fl tf)) fl rs [] ⟨[],[],[],n⟩ bc S'∧NowOk bc.length xa ∧
 ∀ (r' rd' : Addr) (av' : V) (rv' : List V) (H' : Hp),Same H H'→SqT K H' r' [av',.ref rd',.int S'.steps]→ThAt K H' av' (nowT bc xa)→H' rd' = some (.lst rv')→Al (RwX K (fun b=>b = rd' ∨ H b ≠ none) H') rv' S'.rows→SepR K (fun b=>b = rd' ∨ H b ≠ none) H' rv' S'.rows→H rd' = none→Q (.ref r') H'
theorem sc_go_on : FnScope ["tree", "record", "place", "form", "answer", "rows", "steps", "machine", "became", "row"] ["tree", "record", "place", "form"] (defScope s_go_on):=⟨rfl,rfl,rfl,by decide +kernel,rfl,by decide +kernel,by decide +kernel⟩
open K19 in
theorem ok_goon {C : Addr} {f : Addr} {fd : FuncData} (F : Fun K "go_on" "go_on" s_go_on f fd) (T : Txt K mg) (O : Mc K C) (C_refuse_no_gap : Callee P w K mg base 1 "refuse_no_gap" ["form"] (sp_nogap K)) (C_form_at : Callee P w K mg base 4 "form_at" ["tree", "place"] (sp_fat K)) (C_with_at : Callee P w K mg base 4 "with_at" ["tree", "place", "form"] (sp_withat K)) (C_thing_now : Callee P w K mg base 1 "thing_now" ["thing", "became"] (sp_now K)) (C_thing_of_row : Callee P w K mg base 7 "thing_of_row" ["machine", "row", "filled", "became"] (sp_trow K C)) (MK_Machine : MakeX CX0 P w K mg base 2 "Machine" C ["self", "tree", "steps"] (sp_init K C)) : FnOk P w K mg base CX0 8 f fd ["tree", "record", "place", "form"] (sp_goon K):=by
 refine F.okq sc_go_on (fun vs H Q E h=>?_) (fun cdv A outer s H vs Q E hr h=>?_)
 ·obtain ⟨tv,fv,av,t,tf,p,q0,rd,fl,d,gs,n,rv,rs,xa,bc,S',rfl,_⟩:=h
  rfl
 ·obtain ⟨tv,fv,av,t,tf,p,q0,rd,fl,d,gs,n,rv,rs,xa,bc,S',rfl,ht,hz,hp,hs,hl,hg,hf,hz2,hq,hn,hrd,alr,hrl,hav,G,nok,q⟩:=h
  refine ⟨_,qss_cons (qs_expr (qe_fn C_refuse_no_gap (hr.mono (by decide)) (qa_cons (qe_fn C_form_at (hr.mono (by decide)) (qa_cons (qv 0) (qa_cons (qv 2) qa_nil))) qa_nil)))
   (qss_cons (qs_asg (qv 1) (qg_tupK K (n:=3) rfl (qgs_cons (qg_name (i:=4) sc_go_on.nd rfl (Or.inl rfl)) (qgs_cons (qg_name (i:=5) sc_go_on.nd rfl (Or.inl rfl)) (qgs_cons (qg_name (i:=6) sc_go_on.nd rfl (Or.inl rfl)) (qgs_nil))))))
   (qss_cons (qs_set (i:=7) sc_go_on.nd rfl (Or.inl rfl) (qe_new MK_Machine (hr.mono (by decide)) pass0 (qa_cons (qe_fn C_with_at (hr.mono (by decide)) (qa_cons (qv 0) (qa_cons (qv 2) (qa_cons (qv 3) qa_nil)))) (qa_cons (qv 6) qa_nil))))
   (qss_cons (qs_set (i:=8) sc_go_on.nd rfl (Or.inl rfl) (qe_lst (qa_nil)))
   (qss_cons (qs_for PassesOwn.never rfl (qi_anyK K (qv 5)) (qg_name (i:=9) sc_go_on.nd rfl (Or.inl rfl)) (qss_one (qs_expr (qe_bmK K PySem.F.plainAttrs_list PySem.F.slot_list_append PySem.F.type_list_append mt_append (qv 8) (qa_cons (qe_fn C_thing_of_row (hr.mono (by decide)) (qa_cons (qv 7) (qa_cons (qv 9) (qa_cons (qv 2) (qa_cons (qv 8) qa_nil))))) qa_nil)))))
   (qss_one (qs_ret (qe_tup (qa_cons (qe_fn C_thing_now (hr.mono (by decide)) (qa_cons (qv 4) (qa_cons (qv 8) qa_nil))) (qa_cons (qe_fldK K (qv 7)) (qa_cons (qe_fldK K (qv 7)) qa_nil)))))))))),?_⟩
  have bg:=big
  walk_at "r"
  refine ⟨tv,t,p,fl,_,rfl,ht,hp,hs,hl,hg,fun u H1 s1 tu=>?_⟩
  walk_at "r"
  refine ⟨u,d,gs,rfl,tu,?_⟩
  walk_at "r"
  refine s_gtup (s1.tup hq) rfl ?_
  walk_at "r"
  unfold tNew
  walk_at "r"
  refine ⟨tv,fv,t,tf,p,fl,rfl,ht.same s1,s1.tup hp,hs,hl,hz,hf.same s1,fun v' H2 s2 hv'=>?_⟩
  have s02:=s1.trans s2
  walk_at "r"
  intro m dx h1 h2 h3
  refine ⟨m,dx,H2,v',_,n,rfl,hn,h1,h2,h3,rfl,hv',hz2,fun H3 L kvs hm M FA=>⟨rfl,?_⟩⟩
  subst hm
  walk_at "r"
  refine ⟨by show 0 ≤ sizeLine; decide,fun b hb=>?_⟩
  have M0:=M.re (xs:=[]) (.inl hb) rfl
  have nb2 : H2 b = none:=by
   cases h : H2 b with
   | none=>rfl
   | some o=>rw [M.base _ _ h] at hb; cases hb
  have sB : Same H2 (upd H2 b (.lst [])):=Same.upd nb2
  have FA0:=FA.same (Same.upd (o:=.lst []) hb).t
  have nrb : rd ≠ b:=fun z=>by rw [← z,s02 _ _ hrd] at nb2; cases nb2
  have hpB:=s02.tup hp
  have alr2:=alr.mono (RwX.same s02.a)
  have alr2 : Al (RwX K (fun _=>False) H2) rv rs:=alr2.mono (RwX.mono fun b hb _=>hb.elim)
  have hall : ∀ xs,Al (RwX K (fun _=>False) (upd H2 b (.lst xs))) rv rs:=fun xs=>alr2.mono (RwX.same (Same.upd nb2).a)
  walk_at "r"
  refine .inl ⟨rd,rfl,⟨_,SqL.of (((M.base.trans (Same.upd hb))) _ _ (s02 _ _ hrd))⟩,?_⟩
  refine for_list (K:=K) (a:=rd) (xs:=rv) (fun i σ' H'=>∃ v9 bv bci Si t',σ' = [some tv,some (.ref q0),some (.ref p),some fv,some av,some (.ref rd),some (.int n),some (.ref L.m),some (.ref b),v9]∧MAt K (upd H2 b (.lst bv)) C kvs (L.with t') H' Si∧Al (ThAt K H') bv bci∧FormsAt K H' kvs (subW (withAt t fl tf))∧Si.wait = []∧bci.length = i∧GoG (subW (withAt t fl tf)) fl (rs.drop i) bci Si bc S') ⟨none,[],[],_,L.td,rfl,M0,.nil,FA0,rfl,rfl,G⟩ ?_ ?_ ?_
  ·rintro i σ' H' _ ⟨_,bv,_,_,_,_,M',_⟩
   exact SqL.of (M'.base _ _ ((upd_ne nrb).trans (s02 _ _ hrd)))
  ·rintro i y σ' H4 hy ⟨v9,bv,bci,Si,t',rfl,Mi,albi,FAi,hwi,hli,Gi⟩
   obtain ⟨r,hr1,hr2⟩:=(hall bv).get hy
   have hri:=(List.getElem?_eq_some_iff.mp hr1).1
   have dr : rs.drop i = r :: rs.drop (i + 1):=by
    rw [List.drop_eq_getElem_cons hri]
    congr 1
    rw [List.getElem?_eq_getElem hri] at hr1
    exact Option.some.inj hr1
   rw [dr] at Gi
   cases Gi with
   | @cons _ _ _ _ _ S1 _ x hs9 ht8 ok G1 G2 =>
   have hbl:=albi.1
   walk_at "r"
   refine s_tyL (SqL.of (Mi.base _ _ upd_same)) ?_
   walk_at "r"
   refine ⟨y,p,b,r,fl,bv,bci,_,kvs,L.with t',Si,S1,_,x,rfl,Mi,hr2,(Same.upd nb2).tup hpB,upd_same,albi,ok,FAi,hs9,by rw [hwi]; decide,ht8,G1,fun v H5 t5 e5 M5 tv5=>?_⟩
   walk_at "r"
   have hw1:=G1.wait hwi
   refine s_app (M5.base _ _ upd_same) (by omega) ?_
   have M6:=M5.re (b:=b) (xs:=bv ++ [v]) (.inr ⟨bv,upd_same⟩) hw1
   rw [upd_upd] at M6
   have t56 : SameT H5 (upd H5 b (.lst (bv ++ [v]))):=SameT.set (M5.base _ _ upd_same)
   have t46:=(Mi.t e5).trans t56
   refine ⟨_,bv ++ [v],bci ++ [x],S1,t5,rfl,M6,(albi.mono (ThAt.same t46)).snoc (ThAt.same t56 _ _ tv5),FAi.same t46,hw1,by rw [List.length_append,hli]; rfl,G2⟩
  ·rintro σ' H4 ⟨v9,bv,bci,Si,t',rfl,Mi,albi,FAi,hwi,hli,Gi⟩
   rw [List.drop_of_length_le (by rw [alr.1]; exact Nat.le_refl _)] at Gi
   cases Gi
   have s24 : Same H2 H4:=(Same.upd nb2).trans Mi.base
   have s04:=s02.trans s24
   walk_at "r"
   refine ⟨av,b,bv,xa,_,rfl,ThAt.same s04.t _ _ hav,SqL.of (Mi.base _ _ upd_same),albi,nok,fun v5 tv5=>?_⟩
   obtain ⟨rv5,er5,ar5,spr5⟩:=Mi.rows
   walk_at "r"
   refine ⟨_,rfl,L.m,C,L.dx,_,_,rfl,Mi.ins,O.cl,O.nr,fs_rows (L.with t') _,?_⟩
   walk_at "r"
   refine ⟨_,rfl,L.m,C,L.dx,_,_,rfl,Mi.ins,O.cl,O.ns,fs_steps (L.with t') _,?_⟩
   walk_at "r"
   refine ⟨by show 3 ≤ sizeLine; decide,fun r' hr'=>?_⟩
   have s5 : Same H4 (upd H4 r' (.tup [v5,.ref L.rd,.int S'.steps])):=Same.upd hr'
   have mo : ∀ c,(c = L.rd ∨ H c ≠ none)→H4 c ≠ none→((L.with t').A c ∨ upd H2 b (.lst bv) c ≠ none):=by
    intro c hc _
    rcases hc with z | z
    ·exact .inl (.inl z)
    ·refine .inr ?_
     cases h : H c with
     | none=>exact absurd h z
     | some o=>rw [(s02.trans (Same.upd nb2)) _ _ h]; simp
   refine q r' L.rd v5 rv5 _ (s04.trans s5) (SqT.of upd_same) (ThAt.same s5.t _ _ tv5) (s5 _ _ er5) ((ar5.mono (RwX.mono mo)).mono (RwX.same s5.a)) ((spr5.mono mo).same s5.a) ?_
   cases h : H L.rd with
   | none=>rfl
   | some o=>have:=(s02.trans (Same.upd (o:=.lst bv) nb2)) _ _ h; rw [show upd H2 b (.lst bv) L.rd = none from Mi.nr] at this; cases this
end
end K51
namespace K51
open PySem L2
noncomputable def lookN (wd : Str) (nv : V) (ar : List (Str × Str × V)) : Option (Str × V):=match nv with
 | .str z=>if wd = "name" then lookA ar z else none
 | _=>none
noncomputable def leafG (wd : Str) (nv : V) (k : Nat) (pl : List Nat) (ar : List (Str × Str × V)) : (Str × V) × List Rx:=if wd ∈ (["num", "truth"] : List Str) then ((wd,nv),[]) else match lookN wd nv ar with
 | some th=>(th,[])
 | none=>(("row",.int (k : Nat)),[⟨wd,plI pl,[],if wd = "gap" then ar else []⟩])
theorem leafS_N (S : MS) (wd : Str) (nv : V) (pl : List Nat) (ar : List (Str × Str × V)) : leafS S wd nv pl ar = if wd ∈ (["num", "truth"] : List Str) then ((wd,nv),S) else match lookN wd nv ar with
  | some th=>(th,S)
  | none=>(("row",.int (S.rows.length : Nat)),{ S with rows:=S.rows ++ [⟨wd,plI pl,[],if wd ∈ WA then ar else []⟩] }):=by
 unfold leafS
 cases nv <;> rfl
theorem LeafOk.word {wd : Str} {nv : V} (h : LeafOk wd nv) : partsA wd = none∧NoteOk wd (.flat nv)∧(wd ∈ WA ↔ wd = "gap"):=by
 rcases h with ⟨rfl,_,rfl⟩ | ⟨rfl,_,rfl⟩ | ⟨rfl,_,rfl⟩ | ⟨rfl,_,rfl⟩ | ⟨rfl,rfl⟩
 ·exact ⟨by decide +kernel,⟨fun _=>⟨_,rfl⟩,fun h=>absurd h (by decide +kernel)⟩,by decide +kernel⟩
 ·exact ⟨by decide +kernel,⟨fun _=>⟨_,rfl⟩,fun h=>absurd h (by decide +kernel)⟩,by decide +kernel⟩
 ·exact ⟨by decide +kernel,⟨fun _=>⟨_,rfl⟩,fun _=>⟨_,rfl⟩⟩,by decide +kernel⟩
 ·exact ⟨by decide +kernel,⟨fun _=>⟨_,rfl⟩,fun _=>⟨_,rfl⟩⟩,by decide +kernel⟩
 ·exact ⟨by decide +kernel,⟨fun _=>⟨_,rfl⟩,fun h=>absurd h (by decide +kernel)⟩,by decide +kernel⟩
theorem leafS_G (S : MS) {wd : Str} {nv : V} (h : LeafOk wd nv) (pl : List Nat) (ar : List (Str × Str × V)) : leafS S wd nv pl ar = ((leafG wd nv S.rows.length pl ar).1,{ S with rows:=S.rows ++ (leafG wd nv S.rows.length pl ar).2 }):=by
 have hw:=h.word.2.2
 rw [leafS_N]
 unfold leafG
 by_cases h : wd ∈ (["num", "truth"] : List Str)
 ·rw [if_pos h,if_pos h]
  simp
 ·rw [if_neg h,if_neg h]
  cases lookN wd nv ar with
  | some th=>simp
  | none =>
   by_cases hg : wd = "gap"
   ·simp only [if_pos hg,if_pos (hw.mpr hg)]
   ·simp only [if_neg hg,if_neg fun x=>hg (hw.mp x)]
end K51
namespace K51
open PySem L2
section
variable {P : Program} {w : World} {K : PySem.W.Frag} {mg : Str→Option Value} {base : Heap}
noncomputable def SameR (r : Addr) (H H' : Hp) : Prop:=∀ b o,b ≠ r→H b = some o→H' b = some o
theorem SameR.trans {r : Addr} {H H1 H2 : Hp} (a : SameR r H H1) (b : SameR r H1 H2) : SameR r H H2:=fun c o n h=>b c o n (a c o n h)
theorem _root_.L2.Same.r {H H' : Hp} (e : Same H H') (r : Addr) : SameR r H H':=fun b o _ h=>e b o h
theorem SameR.upd {r : Addr} {H : Hp} {o : HO} : SameR r H (upd H r o):=fun b o' n h=>by rw [upd_ne n]; exact h
theorem SameR.a {r : Addr} {H H' : Hp} {rv : List V} (e : SameR r H H') (h : H r = some (.lst rv)) : SameA (fun b=>b = r) H H':=⟨fun b=>⟨fun xs hb=>e b _ (fun z=>by rw [z,h] at hb; cases hb) hb,fun o u hb=>e b _ (fun z=>by rw [z,h] at hb; cases hb) hb⟩,fun b xs n hb=>e b _ n hb⟩
structure DueAt (K : PySem.W.Frag) (H : Hp) (r : Addr) (rs : List Rx) : Prop where
 ex : ∃ rv,H r = some (.lst rv)∧Al (RwX K (fun b=>b = r) H) rv rs
theorem DueAt.same {K : PySem.W.Frag} {H H' : Hp} {r : Addr} {rs : List Rx} (h : DueAt K H r rs) (e : Same H H') : DueAt K H' r rs:=by
 obtain ⟨rv,h1,h2⟩:=h.ex
 exact ⟨rv,e _ _ h1,h2.mono (RwX.same e.a)⟩
theorem DueAt.add {K : PySem.W.Frag} {H : Hp} {r : Addr} {rs : List Rx} {rv : List V} {v : V} {x : Rx} (h1 : H r = some (.lst rv)) (h2 : Al (RwX K (fun b=>b = r) H) rv rs) (hv : RwX K (fun b=>b = r) H v x) : DueAt K (upd H r (.lst (rv ++ [v]))) r (rs ++ [x]):=by
 have e : SameR r H (L2.upd H r (.lst (rv ++ [v]))):=SameR.upd
 exact ⟨_,upd_same,(h2.snoc hv).mono (RwX.same (e.a h1))⟩
theorem lookA_hit {z : Str} {x : Str × Str × V} (ar : List (Str × Str × V)) : ∀ i : Nat,ar[i]? = some x→x.1 = z→(∀ (j : Nat) (y : Str × Str × V),ar[j]? = some y→i < j→y.1 ≠ z)→lookA ar z = some x.2:=by
 refine snoc_ind (P:=fun ar=>∀ i : Nat,ar[i]? = some x→x.1 = z→(∀ (j : Nat) (y : Str × Str × V),ar[j]? = some y→i < j→y.1 ≠ z)→lookA ar z = some x.2) (fun i h=>by simp at h) (fun l y ih i hi hx hj=>?_) ar
 rw [lookA_snoc]
 by_cases hl : i < l.length
 ·have hy : y.1 ≠ z:=hj l.length y (by simp) hl
  rw [if_neg hy]
  refine ih i ?_ hx fun j u hu hij=>hj j u ?_ hij
  ·rw [List.getElem?_append_left hl] at hi; exact hi
  ·rw [List.getElem?_append_left (List.getElem?_eq_some_iff.mp hu).1]; exact hu
 ·have : i < (l ++ [y]).length:=(List.getElem?_eq_some_iff.mp hi).1
  rw [List.length_append,List.length_singleton] at this
  have e : i = l.length:=by omega
  rw [e] at hi
  simp at hi
  rw [hi,if_pos hx]
theorem lookA_miss {z : Str} {ar : List (Str × Str × V)} (h : ∀ x ∈ ar,x.1 ≠ z) : lookA ar z = none:=by
 unfold lookA
 rw [List.find?_eq_none.mpr]
 ·rfl
 ·intro x hx
  rw [decide_eq_true_iff]
  exact h x (List.mem_reverse.mp hx)
noncomputable def sp_comes (K : PySem.W.Frag) : Sp:=fun vs H Q _=>∃ (fv : V) (wd : Str) (nv : V) (p e r : Addr) (pl : List Nat) (rs : List Rx) (ev : List V) (ar : List (Str × Str × V)),vs = [fv,.ref p,.ref e,.ref r]∧TrAt K H fv (.mk wd (.flat nv) [])∧LeafOk wd nv∧H p = some (.tup (plV pl))∧H e = some (.lst ev)∧Al (PrAt K H) ev ar∧e ≠ r∧DueAt K H r rs∧rs.length ≤ 100 ∧
 ∀ v H',SameR r H H'→DueAt K H' r (rs ++ (leafG wd nv rs.length pl ar).2)→ThAt K H' v (leafG wd nv rs.length pl ar).1→Q v H'
theorem sc_law_comes : FnScope ["_law_form", "_law_place", "_law_around", "_law_rows", "_law_word", "_law_note", "_law_parts", "_law_name", "_law_thing"] ["_law_form", "_law_place", "_law_around", "_law_rows"] (defScope s_law_comes):=⟨rfl,rfl,rfl,by decide +kernel,rfl,by decide +kernel,by decide +kernel⟩
theorem ok_comes {f : Addr} {fd : FuncData} (F : Fun K "_law_comes" "_law_comes" s_law_comes f fd) (T : Txt K mg) : FnOk P w K mg base CX0 1 f fd ["_law_form", "_law_place", "_law_around", "_law_rows"] (sp_comes K):=by
 refine F.okq sc_law_comes (fun vs H Q E h=>?_) (fun cdv A outer s H vs Q E hr h=>?_)
 ·obtain ⟨fv,wd,nv,p,e,r,pl,rs,ev,ar,rfl,_⟩:=h
  rfl
 ·obtain ⟨fv,wd,nv,p,e,r,pl,rs,ev,an,rfl,ht,ok,hp,he,ale,ner,D,hl,q⟩:=h
  refine ⟨_,qss_cons (qs_asg (qv 0) (qg_tupK K (n:=3) rfl (qgs_cons (qg_name (i:=4) sc_law_comes.nd rfl (Or.inl rfl)) (qgs_cons (qg_name (i:=5) sc_law_comes.nd rfl (Or.inl rfl)) (qgs_cons (qg_name (i:=6) sc_law_comes.nd rfl (Or.inl rfl)) (qgs_nil))))))
   (qss_cons (qs_if (qt_cmpR (k_in K) (qv 4) (qe_tup (qa_cons (qe_str) (qa_cons (qe_str) qa_nil))) (by rfl)) (qss_one (qs_ret (qe_tup (qa_cons (qv 4) (qa_cons (qv 5) qa_nil))))) (qss_nil))
   (qss_cons (qs_for PassesOwn.never rfl (qi_revK K rfl T.reversed (qa_cons (qv 2) qa_nil)) (qg_tupK K (n:=2) rfl (qgs_cons (qg_name (i:=7) sc_law_comes.nd rfl (Or.inl rfl)) (qgs_cons (qg_name (i:=8) sc_law_comes.nd rfl (Or.inl rfl)) (qgs_nil)))) (qss_one (qs_if (QW.qt (qw_and (qt_cmpR (k_eq K hr.u200) (qv 4) (qe_str) (nomark _)) (qw_and1 (qt_cmpR (k_eq K hr.u200) (qv 7) (qv 5) (nomark _))))) (qss_one (qs_ret (qv 8))) (qss_nil))))
   (qss_cons (qs_if (qt_cmpR (k_eq K hr.u200) (qv 4) (qe_str) (nomark _)) (qss_one (qs_expr (qe_bmK K PySem.F.plainAttrs_list PySem.F.slot_list_append PySem.F.type_list_append mt_append (qv 3) (qa_cons (qe_tup (qa_cons (qv 4) (qa_cons (qv 1) (qa_cons (qe_lst (qa_nil)) (qa_cons (qe_callTy (k_list K) (by rfl) T.list (by decide +kernel) (qa_cons (qv 2) qa_nil)) qa_nil))))) qa_nil)))) (qss_one (qs_expr (qe_bmK K PySem.F.plainAttrs_list PySem.F.slot_list_append PySem.F.type_list_append mt_append (qv 3) (qa_cons (qe_tup (qa_cons (qv 4) (qa_cons (qv 1) (qa_cons (qe_lst (qa_nil)) (qa_cons (qe_lst (qa_nil)) qa_nil))))) qa_nil)))))
   (qss_one (qs_ret (qe_tup (qa_cons (qe_str) (qa_cons (qe_op op_sub (qe_callB (k_len K) (by rfl) T.len (by decide +kernel) (qa_cons (qv 3) qa_nil)) (qe_int)) qa_nil)))))))),?_⟩
  have bg:=big
  cases ht with
  | @mk b pp _ nv' _ vs _ qb hn qpp hl2 hch =>
  have env' : nv' = nv:=by
   rcases hn with ⟨_,h⟩ | ⟨_,_,_,_,_,h⟩
   ·injection h with h; exact h.symm
   ·cases h
  subst env'
  unfold leafG at q
  walk_at "r"
  refine s_gtup qb rfl ?_
  walk_at "r"
  refine ⟨by show 2 ≤ sizeLine; decide,fun p1 h1=>?_⟩
  refine s_in_seq (.inr (SqT.of upd_same)) rfl rfl ?_
  have s1 : Same H (upd H p1 (.tup [.str "num",.str "truth"])):=Same.upd h1
  rw [if_neg Bool.false_ne_true,show inV (.str wd) [.str "num",.str "truth"] = decide (wd ∈ (["num", "truth"] : List Str)) from in_dec (ws:=["num", "truth"])]
  revert s1
  generalize upd H p1 (.tup [.str "num",.str "truth"]) = H1
  intro s1
  walk_at "r"
  refine ite2 (fun h=>?_) (fun h=>?_)
  ·have h : wd ∈ (["num", "truth"] : List Str):=of_decide_eq_true h
   rw [if_pos h] at q
   walk_at "r"
   refine ⟨by show 2 ≤ sizeLine; decide,fun p2 h2=>?_⟩
   have s2:=s1.put (o:=.tup [.str wd,nv']) h2
   exact q _ _ (s2.r r) (by rw [List.append_nil]; exact D.same s2) ⟨ok.flat,p2,rfl,SqT.of upd_same⟩
  have h : ¬ wd ∈ (["num", "truth"] : List Str):=fun x=>h (decide_eq_true x)
  rw [if_neg h] at q
  walk_at "r"
  refine ⟨e,ev,rfl,SqL.of (s1 _ _ he),?_⟩
  have ale1 : Al (PrAt K H1) ev an:=ale.mono (PrAt.same s1.t)
  have hel:=ale.1
  refine for_rev (K:=K) (a:=e) (xs:=ev) (fun j σ' H'=>∃ v7 v8,σ' = [some (.ref b),some (.ref p),some (.ref e),some (.ref r),some (.str wd),some nv',some (.ref pp),v7,v8]∧H' = H1∧∀ z,wd = "name"→nv' = .str z→∀ (i : Nat) (y : Str × Str × V),an[i]? = some y→an.length - j ≤ i→y.1 ≠ z) ⟨none,none,rfl,rfl,fun z _ _ i y hi hj=>absurd (List.getElem?_eq_some_iff.mp hi).1 (by omega)⟩ ?_ ?_ ?_
  ·rintro j σ' H' _ ⟨_,_,_,rfl,_⟩
   exact SqL.of (s1 _ _ he)
  ·rintro i y σ' H' hi hy ⟨v7,v8,rfl,rfl,inv⟩
   obtain ⟨x,hx,a,u,rfl,qa,tu⟩:=ale1.get hy
   walk_at "r"
   refine s_gtup qa rfl ?_
   walk_at "r"
   rw [dec_str]
   by_cases hnm : wd = "name"
   ·rw [decide_eq_true hnm]
    obtain ⟨z,rfl⟩ : ∃ z,nv' = .str z:=by
     rcases ok with ⟨h,_⟩ | ⟨h,_⟩ | ⟨_,h⟩ | ⟨_,h⟩ | ⟨h,_⟩
     ·rw [hnm] at h; exact absurd h (by decide +kernel)
     ·rw [hnm] at h; exact absurd h (by decide +kernel)
     ·exact h
     ·exact h
     ·rw [hnm] at h; exact absurd h (by decide +kernel)
    walk_at "r"
    rw [dec_str]
    by_cases hz : x.1 = z
    ·rw [decide_eq_true hz]
     walk_at "r"
     have hk : lookN wd (.str z) an = some x.2:=(if_pos hnm).trans <| lookA_hit an _ hx hz fun j y hj hlt=>inv z hnm rfl j y hj (by omega)
     simp only [hk] at q
     exact q _ _ (s1.r r) (by rw [List.append_nil]; exact D.same s1) tu
    ·rw [decide_eq_false hz]
     walk_at "r"
     refine ⟨_,_,rfl,rfl,fun z' h1 h2 j y hj hij=>?_⟩
     cases h2
     by_cases hjj : an.length - i ≤ j
     ·exact inv z hnm rfl j y hj hjj
     ·have : j = ev.length - 1 - i:=by omega
      rw [this,hx] at hj
      cases hj
      exact hz
   ·rw [decide_eq_false hnm]
    walk_at "r"
    exact ⟨_,_,rfl,rfl,fun z' h1=>absurd h1 hnm⟩
  ·rintro σ' H' ⟨v7,v8,rfl,rfl,inv⟩
   have miss : lookN wd nv' an = none:=by
    unfold lookN
    split
    ·rename_i z
     by_cases hnm : wd = "name"
     ·rw [if_pos hnm]
      refine lookA_miss fun x hx=>?_
      obtain ⟨j,hj⟩:=List.mem_iff_getElem?.mp hx
      exact inv z hnm rfl j x hj (by have:=ale.1; omega)
     ·rw [if_neg hnm]
    ·rfl
   simp only [miss] at q
   obtain ⟨rv,er,ar⟩:=(D.same s1).ex
   have hrl:=ar.1
   walk_at "r"
   rw [dec_str]
   refine ite2 (fun hg=>?_) (fun hg=>?_)
   ·have hg : wd = "gap":=of_decide_eq_true hg
    rw [if_pos hg] at q
    walk_at "r"
    refine s_tyL (SqL.of er) ?_
    walk_at "r"
    refine ⟨by show 0 ≤ sizeLine; decide,fun o ho=>?_⟩
    have s2 : Same H' (upd H' o (.lst [])):=Same.upd ho
    have e2 : upd H' o (.lst []) o = some (.lst []):=upd_same
    revert s2 e2
    generalize upd H' o (.lst []) = H2
    intro s2 e2
    walk_at "r"
    refine ⟨e,ev,rfl,.inl (SqL.of (s2 _ _ (s1 _ _ he))),fun k hk=>?_⟩
    have s3 : Same H2 (upd H2 k (.lst ev)):=Same.upd hk
    have e3 : upd H2 k (.lst ev) k = some (.lst ev):=upd_same
    revert s3 e3
    generalize upd H2 k (.lst ev) = H3
    intro s3 e3
    walk_at "r"
    refine ⟨by show 4 ≤ sizeLine; decide,fun u hu=>?_⟩
    have s4 : Same H3 (upd H3 u (.tup [.str wd,.ref p,.ref o,.ref k])):=Same.upd hu
    have e4 : upd H3 u (.tup [.str wd,.ref p,.ref o,.ref k]) u = some (.tup [.str wd,.ref p,.ref o,.ref k]):=upd_same
    revert s4 e4
    generalize upd H3 u (.tup [.str wd,.ref p,.ref o,.ref k]) = H4
    intro s4 e4
    have s24:=s2.trans (s3.trans s4)
    have s04:=s1.trans s24
    have er4:=s24 _ _ er
    walk_at "r"
    refine s_app er4 (by omega) ?_
    have nor : o ≠ r:=fun z=>by rw [z,er] at ho; cases ho
    have nkr : k ≠ r:=fun z=>by rw [z,s2 _ _ er] at hk; cases hk
    have D5:=DueAt.add (x:=⟨wd,plI pl,[],an⟩) er4 (ar.mono (RwX.same s24.a)) ⟨⟨u,p,o,k,[],ev,rfl,SqT.of e4,by rw [plV_plI]; exact SqT.of (s04 _ _ hp),s4 _ _ (s3 _ _ e2),.nil,s4 _ _ e3,ale.mono (PrAt.same s04.t),nor,nkr⟩,u,p,o,k,rfl,SqT.of e4,by rw [plV_plI]; exact s04 _ _ hp⟩
    have r5 : SameR r H (upd H4 r (.lst (rv ++ [.ref u]))):=(s04.r r).trans SameR.upd
    have er5 : upd H4 r (.lst (rv ++ [.ref u])) r = some (.lst (rv ++ [.ref u])):=upd_same
    revert D5 r5 er5
    generalize upd H4 r (.lst (rv ++ [.ref u])) = H5
    intro D5 r5 er5
    walk_at "r"
    refine s_len_lst (SqL.of er5) ?_
    walk_at "r"
    refine ⟨by show 2 ≤ sizeLine; decide,fun t ht=>?_⟩
    have e6 : (((rv ++ [V.ref u]).length : Nat) : Int) - 1 = ((rs.length : Nat) : Int):=by rw [List.length_append,List.length_singleton]; omega
    rw [e6]
    have s6 : Same H5 (upd H5 t (.tup [.str "row",.int (rs.length : Nat)])):=Same.upd ht
    exact q _ _ (r5.trans (s6.r r)) (D5.same s6) ⟨rfl,t,rfl,SqT.of upd_same⟩
   ·have hg : ¬ wd = "gap":=fun x=>hg (decide_eq_true x)
    rw [if_neg hg] at q
    walk_at "r"
    refine s_tyL (SqL.of er) ?_
    walk_at "r"
    refine ⟨by show 0 ≤ sizeLine; decide,fun o ho=>?_⟩
    have s2 : Same H' (upd H' o (.lst [])):=Same.upd ho
    have e2 : upd H' o (.lst []) o = some (.lst []):=upd_same
    revert s2 e2
    generalize upd H' o (.lst []) = H2
    intro s2 e2
    walk_at "r"
    refine ⟨by show 0 ≤ sizeLine; decide,fun k hk=>?_⟩
    have s3 : Same H2 (upd H2 k (.lst [])):=Same.upd hk
    have e3 : upd H2 k (.lst []) k = some (.lst []):=upd_same
    revert s3 e3
    generalize upd H2 k (.lst []) = H3
    intro s3 e3
    walk_at "r"
    refine ⟨by show 4 ≤ sizeLine; decide,fun u hu=>?_⟩
    have s4 : Same H3 (upd H3 u (.tup [.str wd,.ref p,.ref o,.ref k])):=Same.upd hu
    have e4 : upd H3 u (.tup [.str wd,.ref p,.ref o,.ref k]) u = some (.tup [.str wd,.ref p,.ref o,.ref k]):=upd_same
    revert s4 e4
    generalize upd H3 u (.tup [.str wd,.ref p,.ref o,.ref k]) = H4
    intro s4 e4
    have s24:=s2.trans (s3.trans s4)
    have s04:=s1.trans s24
    have er4:=s24 _ _ er
    walk_at "r"
    refine s_app er4 (by omega) ?_
    have nor : o ≠ r:=fun z=>by rw [z,er] at ho; cases ho
    have nkr : k ≠ r:=fun z=>by rw [z,s2 _ _ er] at hk; cases hk
    have D5:=DueAt.add (x:=⟨wd,plI pl,[],[]⟩) er4 (ar.mono (RwX.same s24.a)) ⟨⟨u,p,o,k,[],[],rfl,SqT.of e4,by rw [plV_plI]; exact SqT.of (s04 _ _ hp),s4 _ _ (s3 _ _ e2),.nil,s4 _ _ e3,.nil,nor,nkr⟩,u,p,o,k,rfl,SqT.of e4,by rw [plV_plI]; exact s04 _ _ hp⟩
    have r5 : SameR r H (upd H4 r (.lst (rv ++ [.ref u]))):=(s04.r r).trans SameR.upd
    have er5 : upd H4 r (.lst (rv ++ [.ref u])) r = some (.lst (rv ++ [.ref u])):=upd_same
    revert D5 r5 er5
    generalize upd H4 r (.lst (rv ++ [.ref u])) = H5
    intro D5 r5 er5
    walk_at "r"
    refine s_len_lst (SqL.of er5) ?_
    walk_at "r"
    refine ⟨by show 2 ≤ sizeLine; decide,fun t ht=>?_⟩
    have e6 : (((rv ++ [V.ref u]).length : Nat) : Int) - 1 = ((rs.length : Nat) : Int):=by rw [List.length_append,List.length_singleton]; omega
    rw [e6]
    have s6 : Same H5 (upd H5 t (.tup [.str "row",.int (rs.length : Nat)])):=Same.upd ht
    exact q _ _ (r5.trans (s6.r r)) (D5.same s6) ⟨rfl,t,rfl,SqT.of upd_same⟩
noncomputable def joinR (wd : Str) (pl : List Nat) (k : Nat) (x y : Str × V) : (Str × V) × List Rx:=if wd ∈ OPS∧x.1 = "num"∧y.1 = "num" then (recT wd (numV x.2) (numV y.2),[]) else (("row",.int (k : Nat)),[⟨wd,plI pl,[x,y],[]⟩])
noncomputable def sp_joined (K : PySem.W.Frag) : Sp:=fun vs H Q _=>∃ (wd : Str) (p r : Addr) (xv yv : V) (x y : Str × V) (pl : List Nat) (rs : List Rx),vs = [.str wd,.ref p,xv,yv,.ref r]∧(wd ∈ OPS ∨ wd = "call")∧H p = some (.tup (plV pl))∧ThAt K H xv x∧ThAt K H yv y∧NumOk x∧NumOk y∧DueAt K H r rs∧rs.length ≤ 100 ∧
 ∀ v H',SameR r H H'→DueAt K H' r (rs ++ (joinR wd pl rs.length x y).2)→ThAt K H' v (joinR wd pl rs.length x y).1→Q v H'
theorem sc_law_joined : FnScope ["_law_word", "_law_place", "_law_one", "_law_other", "_law_rows"] ["_law_word", "_law_place", "_law_one", "_law_other", "_law_rows"] (defScope s_law_joined):=⟨rfl,rfl,rfl,by decide +kernel,rfl,by decide +kernel,by decide +kernel⟩
theorem ok_joined {f : Addr} {fd : FuncData} (F : Fun K "_law_joined" "_law_joined" s_law_joined f fd) (T : Txt K mg) : FnOk P w K mg base CX0 1 f fd ["_law_word", "_law_place", "_law_one", "_law_other", "_law_rows"] (sp_joined K):=by
 refine F.okq sc_law_joined (fun vs H Q E h=>?_) (fun cdv A outer s H vs Q E hr h=>?_)
 ·obtain ⟨wd,p,r,xv,yv,x,y,pl,rs,rfl,_⟩:=h
  rfl
 ·obtain ⟨wd,p,r,xv,yv,x,y,pl,rs,rfl,hw,hp,hx,hy,ox,oy,D,hl,q⟩:=h
  refine ⟨_,qss_cons (qs_if (QW.qt (qw_and (qt_cmpR (k_ne K hr.u200) (qv 0) (qe_str) (nomark _)) (qw_and (qt_cmpR (k_eq K hr.u200) (qe_ix (k_ix K) (qv 2) (qe_int) (fun _ _=>rfl)) (qe_str) (nomark _)) (qw_and1 (qt_cmpR (k_eq K hr.u200) (qe_ix (k_ix K) (qv 3) (qe_int) (fun _ _=>rfl)) (qe_str) (nomark _)))))) (qss_cons (qs_if (qt_cmpR (k_eq K hr.u200) (qv 0) (qe_str) (nomark _)) (qss_one (qs_ret (qe_tup (qa_cons (qe_str) (qa_cons (qe_op (k_add K) (qe_ix (k_ix K) (qv 2) (qe_int) (fun _ _=>rfl)) (qe_ix (k_ix K) (qv 3) (qe_int) (fun _ _=>rfl))) qa_nil))))) (qss_nil))
   (qss_cons (qs_if (qt_cmpR (k_eq K hr.u200) (qv 0) (qe_str) (nomark _)) (qss_one (qs_ret (qe_tup (qa_cons (qe_str) (qa_cons (qe_op op_sub (qe_ix (k_ix K) (qv 2) (qe_int) (fun _ _=>rfl)) (qe_ix (k_ix K) (qv 3) (qe_int) (fun _ _=>rfl))) qa_nil))))) (qss_nil))
   (qss_one (qs_ret (qe_tup (qa_cons (qe_str) (qa_cons (qe_cmpR op_ltA (qe_ix (k_ix K) (qv 2) (qe_int) (fun _ _=>rfl)) (qe_ix (k_ix K) (qv 3) (qe_int) (fun _ _=>rfl)) (nomark _)) qa_nil))))))) (qss_nil))
   (qss_cons (qs_expr (qe_bmK K PySem.F.plainAttrs_list PySem.F.slot_list_append PySem.F.type_list_append mt_append (qv 4) (qa_cons (qe_tup (qa_cons (qv 0) (qa_cons (qv 1) (qa_cons (qe_lst (qa_cons (qv 2) (qa_cons (qv 3) qa_nil))) (qa_cons (qe_lst (qa_nil)) qa_nil))))) qa_nil)))
   (qss_one (qs_ret (qe_tup (qa_cons (qe_str) (qa_cons (qe_op op_sub (qe_callB (k_len K) (by rfl) T.len (by decide +kernel) (qa_cons (qv 4) qa_nil)) (qe_int)) qa_nil)))))),?_⟩
  have bg:=big
  obtain ⟨ax,ex,qx⟩:=hx.2
  obtain ⟨ay,ey,qy⟩:=hy.2
  subst ex ey
  obtain ⟨rv,er,ar⟩:=D.ex
  have hrl:=ar.1
  have row : ∀ o,H o = none→∀ k,upd H o (.lst [.ref ax,.ref ay]) k = none→∀ u,upd (upd H o (.lst [.ref ax,.ref ay])) k (.lst []) u = none →
    ∃ H5,H5 = upd (upd (upd (upd H o (.lst [.ref ax,.ref ay])) k (.lst [])) u (.tup [.str wd,.ref p,.ref o,.ref k])) r (.lst (rv ++ [.ref u]))∧upd (upd (upd H o (.lst [.ref ax,.ref ay])) k (.lst [])) u (.tup [.str wd,.ref p,.ref o,.ref k]) r = some (.lst rv)∧H5 r = some (.lst (rv ++ [.ref u]))∧SameR r H H5∧DueAt K H5 r (rs ++ [⟨wd,plI pl,[x,y],[]⟩]):=by
   intro o ho k hk u hu
   have s2 : Same H (upd H o (.lst [.ref ax,.ref ay])):=Same.upd ho
   have s3 : Same (upd H o (.lst [.ref ax,.ref ay])) (upd (upd H o (.lst [.ref ax,.ref ay])) k (.lst [])):=Same.upd hk
   have s4 : Same (upd (upd H o (.lst [.ref ax,.ref ay])) k (.lst [])) (upd (upd (upd H o (.lst [.ref ax,.ref ay])) k (.lst [])) u (.tup [.str wd,.ref p,.ref o,.ref k])):=Same.upd hu
   have e2:=s4 _ _ (s3 _ _ (upd_same (H:=H) (a:=o) (o:=.lst [.ref ax,.ref ay])))
   have e3:=s4 _ _ (upd_same (H:=upd H o (.lst [.ref ax,.ref ay])) (a:=k) (o:=.lst []))
   have e4 : upd (upd (upd H o (.lst [.ref ax,.ref ay])) k (.lst [])) u (.tup [.str wd,.ref p,.ref o,.ref k]) u = some (.tup [.str wd,.ref p,.ref o,.ref k]):=upd_same
   have nor : o ≠ r:=fun z=>by rw [z,er] at ho; cases ho
   have nkr : k ≠ r:=fun z=>by rw [z,s2 _ _ er] at hk; cases hk
   have s04:=s2.trans (s3.trans s4)
   revert s04 e2 e3 e4
   generalize upd (upd (upd H o (.lst [.ref ax,.ref ay])) k (.lst [])) u (.tup [.str wd,.ref p,.ref o,.ref k]) = H4
   intro e2 e3 e4 s04
   have er4:=s04 _ _ er
   refine ⟨_,rfl,er4,upd_same,(s04.r r).trans SameR.upd,DueAt.add (x:=⟨wd,plI pl,[x,y],[]⟩) er4 (ar.mono (RwX.same s04.a)) ⟨⟨u,p,o,k,[.ref ax,.ref ay],[],rfl,SqT.of e4,by rw [plV_plI]; exact SqT.of (s04 _ _ hp),e2,?_,e3,.nil,nor,nkr⟩,u,p,o,k,rfl,SqT.of e4,by rw [plV_plI]; exact s04 _ _ hp⟩⟩
   exact (Al.nil.snoc (ThAt.same s04.t _ _ hx)).snoc (ThAt.same s04.t _ _ hy)
  unfold joinR at q
  walk_at "r"
  rw [dec_str]
  by_cases wc : wd = "call"
  ·rw [decide_eq_true wc]
   have hn : ¬ (wd ∈ OPS∧x.1 = "num"∧y.1 = "num"):=fun h=>absurd h.1 (by rw [wc]; decide +kernel)
   rw [if_neg hn] at q
   walk_at "r"
   refine s_tyL (SqL.of er) ?_
   walk_at "r"
   refine ⟨by show 2 ≤ sizeLine; decide,fun o ho=>?_⟩
   walk_at "r"
   refine ⟨by show 0 ≤ sizeLine; decide,fun k hk=>?_⟩
   walk_at "r"
   refine ⟨by show 4 ≤ sizeLine; decide,fun u hu=>?_⟩
   walk_at "r"
   obtain ⟨H5,hH5,er4,er5,r5,D5⟩:=row o ho k hk u hu
   refine s_app er4 (by omega) ?_
   rw [← hH5]
   walk_at "r"
   refine s_len_lst (SqL.of er5) ?_
   walk_at "r"
   refine ⟨by show 2 ≤ sizeLine; decide,fun t ht=>?_⟩
   have e6 : (((rv ++ [V.ref u]).length : Nat) : Int) - 1 = ((rs.length : Nat) : Int):=by rw [List.length_append,List.length_singleton]; omega
   rw [e6]
   have s6 : Same H5 (upd H5 t (.tup [.str "row",.int (rs.length : Nat)])):=Same.upd ht
   exact q _ _ (r5.trans (s6.r r)) (D5.same s6) ⟨rfl,t,rfl,SqT.of upd_same⟩
  have hwo : wd ∈ OPS:=by
   rcases hw with h | h
   ·exact h
   ·exact absurd h wc
  rw [decide_eq_false wc]
  walk_at "r"
  refine s_ix_tup qx rfl ?_
  walk_at "r"
  rw [dec_str]
  by_cases hx1 : x.1 = "num"
  ·rw [decide_eq_true hx1]
   walk_at "r"
   refine s_ix_tup qy rfl ?_
   walk_at "r"
   rw [dec_str]
   by_cases hy1 : y.1 = "num"
   ·rw [decide_eq_true hy1]
    rw [if_pos ⟨hwo,hx1,hy1⟩] at q
    obtain ⟨i,ei⟩:=ox hx1
    obtain ⟨j,ej⟩:=oy hy1
    rw [ei] at qx
    rw [ej] at qy
    rw [show numV x.2 = i by rw [ei]; rfl,show numV y.2 = j by rw [ej]; rfl] at q
    have ret : ∀ v,ThAt K H v (recT wd i j)→True:=fun _ _=>trivial
    unfold recT at q
    walk_at "r"
    rw [dec_str]
    refine ite2 (fun h=>?_) (fun h=>?_)
    ·have h : wd = "plus":=of_decide_eq_true h
     rw [if_pos h] at q
     walk_at "r"
     refine s_ix_tup qx rfl ?_
     walk_at "r"
     refine s_ix_tup qy rfl ?_
     walk_at "r"
     refine ⟨by show 2 ≤ sizeLine; decide,fun t ht=>?_⟩
     have s6:=Same.upd (o:=.tup [.str "num",.int (i + j)]) ht
     exact q _ _ (s6.r r) (by rw [List.append_nil]; exact D.same s6) ⟨rfl,t,rfl,SqT.of upd_same⟩
    have h : ¬ wd = "plus":=fun x=>h (decide_eq_true x)
    rw [if_neg h] at q
    walk_at "r"
    rw [dec_str]
    refine ite2 (fun h=>?_) (fun h=>?_)
    ·have h : wd = "minus":=of_decide_eq_true h
     rw [if_pos h] at q
     walk_at "r"
     refine s_ix_tup qx rfl ?_
     walk_at "r"
     refine s_ix_tup qy rfl ?_
     walk_at "r"
     refine ⟨by show 2 ≤ sizeLine; decide,fun t ht=>?_⟩
     have s6:=Same.upd (o:=.tup [.str "num",.int (i - j)]) ht
     exact q _ _ (s6.r r) (by rw [List.append_nil]; exact D.same s6) ⟨rfl,t,rfl,SqT.of upd_same⟩
    have h : ¬ wd = "minus":=fun x=>h (decide_eq_true x)
    rw [if_neg h] at q
    walk_at "r"
    refine s_ix_tup qx rfl ?_
    walk_at "r"
    refine s_ix_tup qy rfl ?_
    walk_at "r"
    refine ⟨by show 2 ≤ sizeLine; decide,fun t ht=>?_⟩
    have s6:=Same.upd (o:=.tup [.str "truth",.bl (decide (i < j))]) ht
    exact q _ _ (s6.r r) (by rw [List.append_nil]; exact D.same s6) ⟨rfl,t,rfl,SqT.of upd_same⟩
   ·rw [decide_eq_false hy1]
    have hn : ¬ (wd ∈ OPS∧x.1 = "num"∧y.1 = "num"):=fun h=>hy1 h.2.2
    rw [if_neg hn] at q
    walk_at "r"
    refine s_tyL (SqL.of er) ?_
    walk_at "r"
    refine ⟨by show 2 ≤ sizeLine; decide,fun o ho=>?_⟩
    walk_at "r"
    refine ⟨by show 0 ≤ sizeLine; decide,fun k hk=>?_⟩
    walk_at "r"
    refine ⟨by show 4 ≤ sizeLine; decide,fun u hu=>?_⟩
    walk_at "r"
    obtain ⟨H5,hH5,er4,er5,r5,D5⟩:=row o ho k hk u hu
    refine s_app er4 (by omega) ?_
    rw [← hH5]
    walk_at "r"
    refine s_len_lst (SqL.of er5) ?_
    walk_at "r"
    refine ⟨by show 2 ≤ sizeLine; decide,fun t ht=>?_⟩
    have e6 : (((rv ++ [V.ref u]).length : Nat) : Int) - 1 = ((rs.length : Nat) : Int):=by rw [List.length_append,List.length_singleton]; omega
    rw [e6]
    have s6 : Same H5 (upd H5 t (.tup [.str "row",.int (rs.length : Nat)])):=Same.upd ht
    exact q _ _ (r5.trans (s6.r r)) (D5.same s6) ⟨rfl,t,rfl,SqT.of upd_same⟩
  ·rw [decide_eq_false hx1]
   have hn : ¬ (wd ∈ OPS∧x.1 = "num"∧y.1 = "num"):=fun h=>hx1 h.2.1
   rw [if_neg hn] at q
   walk_at "r"
   refine s_tyL (SqL.of er) ?_
   walk_at "r"
   refine ⟨by show 2 ≤ sizeLine; decide,fun o ho=>?_⟩
   walk_at "r"
   refine ⟨by show 0 ≤ sizeLine; decide,fun k hk=>?_⟩
   walk_at "r"
   refine ⟨by show 4 ≤ sizeLine; decide,fun u hu=>?_⟩
   walk_at "r"
   obtain ⟨H5,hH5,er4,er5,r5,D5⟩:=row o ho k hk u hu
   refine s_app er4 (by omega) ?_
   rw [← hH5]
   walk_at "r"
   refine s_len_lst (SqL.of er5) ?_
   walk_at "r"
   refine ⟨by show 2 ≤ sizeLine; decide,fun t ht=>?_⟩
   have e6 : (((rv ++ [V.ref u]).length : Nat) : Int) - 1 = ((rs.length : Nat) : Int):=by rw [List.length_append,List.length_singleton]; omega
   rw [e6]
   have s6 : Same H5 (upd H5 t (.tup [.str "row",.int (rs.length : Nat)])):=Same.upd ht
   exact q _ _ (r5.trans (s6.r r)) (D5.same s6) ⟨rfl,t,rfl,SqT.of upd_same⟩
end
end K51
namespace K51
open PySem L2
noncomputable def stp (wd : Str) : Int:=if wd = "gap" then 0 else 1
theorem stp_le (wd : Str) : 0 ≤ stp wd∧stp wd ≤ 1:=by unfold stp; split <;> decide
theorem come_leafG {S : MS} {wd : Str} {nv : V} (h : LeafOk wd nv) (pl : List Nat) (ar : List (Str × Str × V)) : comeS S wd (.flat nv) pl ar = ⟨S.rows ++ (leafG wd nv S.rows.length pl ar).2,S.wait,S.things ++ [(leafG wd nv S.rows.length pl ar).1],S.steps + stp wd⟩:=by
 unfold comeS
 rw [h.word.1]
 by_cases g : wd = "gap"
 ·simp only [if_pos g,leafS_G _ h,dtV,stp,Int.add_zero]
 ·simp only [if_neg g,leafS_G _ h,dtV,stp]
structure OkT (rs : List Rx) (x : Str × V) : Prop where
 n : NumOk x
 r : RowOk rs x
 f : isFnT rs x = false
theorem isFn_more {rs : List Rx} {x : Str × V} (h : RowOk rs x) (l : List Rx) : isFnT (rs ++ l) x = isFnT rs x:=by
 obtain ⟨w,v⟩:=x
 cases v with
 | int k =>
  show (decide (w = "row") && _) = (decide (w = "row") && _)
  by_cases e : w = "row"
  ·obtain ⟨j,h1,h2⟩:=h e
   cases h1
   rw [Int.toNat_natCast,List.getElem?_append_left h2]
  ·rw [decide_eq_false e]
   rfl
 | _=>rfl
theorem RowOk.more {rs l : List Rx} {x : Str × V} (h : RowOk rs x) : RowOk (rs ++ l) x:=fun e=>by
 obtain ⟨k,h1,h2⟩:=h e
 exact ⟨k,h1,by rw [List.length_append]; omega⟩
theorem OkT.more {rs : List Rx} {x : Str × V} (h : OkT rs x) (l : List Rx) : OkT (rs ++ l) x:=⟨h.n,h.r.more,by rw [isFn_more h.r]; exact h.f⟩
theorem OkT.new {rs : List Rx} {r : Rx} (h : r.wd ∉ (["fn", "rec"] : List Str)) : OkT (rs ++ [r]) ("row",.int (rs.length : Nat)):=by
 refine ⟨fun e=>absurd (show ("row" : Str) = "num" from e) (by decide +kernel),fun _=>⟨rs.length,rfl,by simp⟩,?_⟩
 show (decide (("row" : Str) = "row") && (match (rs ++ [r])[((rs.length : Nat) : Int).toNat]? with | some r=>decide (r.wd ∈ (["fn", "rec"] : List Str)) | none=>false)) = false
 rw [Int.toNat_natCast]
 simp only [List.getElem?_concat_length]
 rw [decide_eq_false h,Bool.and_false]
theorem lookN_mem {wd : Str} {nv : V} {ar : List (Str × Str × V)} {th : Str × V} (h : lookN wd nv ar = some th) : ∃ y ∈ ar,y.2 = th:=by
 unfold lookN at h
 split at h
 ·split at h
  ·unfold lookA at h
   obtain ⟨y,hy,e⟩:=Option.map_eq_some_iff.mp h
   exact ⟨y,List.mem_reverse.mp (List.mem_of_find?_eq_some hy),e⟩
  ·cases h
 ·cases h
theorem leafG_ok {wd : Str} {nv : V} {ar : List (Str × Str × V)} {rs : List Rx} (G : ∀ y ∈ ar,OkT rs y.2) (ok : LeafOk wd nv) (pl : List Nat) : OkT (rs ++ (leafG wd nv rs.length pl ar).2) (leafG wd nv rs.length pl ar).1:=by
 have wok : wd ∉ (["fn", "rec"] : List Str)∧¬ wd = "row":=by
  rcases ok with ⟨rfl,_⟩ | ⟨rfl,_⟩ | ⟨rfl,_⟩ | ⟨rfl,_⟩ | ⟨rfl,_⟩ <;> exact ⟨by decide +kernel,by decide +kernel⟩
 unfold leafG
 by_cases hm : wd ∈ (["num", "truth"] : List Str)
 ·rw [if_pos hm]
  refine ⟨fun e=>?_,fun e=>absurd e wok.2,?_⟩
  ·have e : wd = "num":=e
   rcases ok with ⟨_,i,rfl⟩ | ⟨rfl,_⟩ | ⟨rfl,_⟩ | ⟨rfl,_⟩ | ⟨rfl,_⟩
   ·exact ⟨i,rfl⟩
   all_goals exact absurd e (by decide +kernel)
  ·unfold isFnT
   split
   ·rename_i w k e
    cases e
    rw [decide_eq_false wok.2]
    rfl
   ·rfl
 ·rw [if_neg hm]
  cases h : lookN wd nv ar with
  | some th =>
   obtain ⟨y,hy,rfl⟩:=lookN_mem h
   exact (G y hy).more _
  | none=>exact OkT.new wok.1
noncomputable def leafT (w : Str) (n : V) : Tr:=.mk w (.flat n) []
noncomputable def twoT (wd : Str) (a b : Str × V) : Tr:=.mk wd (.flat .non) [leafT a.1 a.2,leafT b.1 b.2]
noncomputable def recL (a : Str × V) : (Str × V) × List Rx:=leafG a.1 a.2 0 [0] []
noncomputable def recR (a b : Str × V) : (Str × V) × List Rx:=leafG b.1 b.2 (recL a).2.length [1] []
noncomputable def recJ (wd : Str) (a b : Str × V) : (Str × V) × List Rx:=joinR wd [] ((recL a).2 ++ (recR a b).2).length (recL a).1 (recR a b).1
noncomputable def recRs (wd : Str) (a b : Str × V) : List Rx:=(recL a).2 ++ (recR a b).2 ++ (recJ wd a b).2
noncomputable def recSt (a b : Str × V) : Int:=1 + stp a.1 + stp b.1
theorem sub_two (wd : Str) (a b : Str × V) : subW (twoT wd a b) [] = some (wd,.flat .non)∧subW (twoT wd a b) [0] = some (a.1,.flat a.2)∧subW (twoT wd a b) [1] = some (b.1,.flat b.2):=by
 have e : walk [] (twoT wd a b) = [([],twoT wd a b),([0],leafT a.1 a.2),([1],leafT b.1 b.2)]:=by
  unfold twoT
  rw [walk,walks,walks,walks,leafT,walk,walks,leafT,walk,walks]
  rfl
 unfold subW lastW
 rw [e]
 exact ⟨rfl,rfl,rfl⟩
theorem leafG_nil (w : Str) (n : V) (k : Nat) (pl : List Nat) : leafG w n k pl [] = if w ∈ (["num", "truth"] : List Str) then ((w,n),[]) else (("row",.int (k : Nat)),[⟨w,plI pl,[],[]⟩]):=by
 have e : lookN w n [] = none:=by
  unfold lookN
  split
  ·split <;> rfl
  ·rfl
 unfold leafG
 rw [e]
 by_cases h : w = "gap"
 ·simp [h]
 ·simp [h]
structure LeafGo (sub : List Nat→Option (Str × Dt)) (fl pl : List Nat) (a c : Str × V) (ds : Int) : Prop where
 go : ∀ (bc : List (Str × V)) (S : MS),S.wait = []→S.things = []→S.rows.length ≤ 100→S.steps + 1 ≤ 500→∃ X : List (Str × V),X.length = (leafG a.1 a.2 bc.length pl []).2.length∧(∀ rest bc' S',GoG sub fl rest (bc ++ X) { S with rows:=S.rows ++ (leafG c.1 c.2 S.rows.length pl []).2,steps:=S.steps + ds } bc' S'→GoG sub fl ((leafG a.1 a.2 bc.length pl []).2 ++ rest) bc S bc' S')∧∀ Y,nowT (bc ++ X ++ Y) (leafG a.1 a.2 bc.length pl []).1 = (leafG c.1 c.2 S.rows.length pl []).1
theorem now_row (bc Y : List (Str × V)) (x : Str × V) : nowT (bc ++ [x] ++ Y) ("row",.int (bc.length : Nat)) = x:=by
 unfold nowT
 rw [if_pos rfl]
 simp
theorem plI_inj {a b : List Nat} (h : plI a = plI b) : a = b:=by
 unfold plI at h
 induction a generalizing b with
 | nil=>cases b with
  | nil=>rfl
  | cons y r=>simp at h
 | cons x l ih=>cases b with
  | nil=>simp at h
  | cons y r =>
   simp only [List.map_cons,List.cons.injEq] at h
   rw [ih h.2,show x = y by omega]
theorem rowok_nil (n : Nat) (w : Str) (pl : List Int) : RowOkG n ⟨w,pl,[],[]⟩:=⟨fun y h=>(nomatch h),fun y h=>(nomatch h),Nat.zero_le _,Nat.zero_le _⟩
theorem go_other {sub : List Nat→Option (Str × Dt)} {fl pl : List Nat} {a : Str × V} (ok : LeafOk a.1 a.2) (hn : pl ≠ fl) : LeafGo sub fl pl a a 0:=⟨fun bc S hw ht hl h5=>by
 rw [leafG_nil,leafG_nil]
 by_cases h : a.1 ∈ (["num", "truth"] : List Str)
 ·rw [if_pos h,if_pos h]
  refine ⟨[],rfl,fun rest bc' S' G=>?_,fun Y=>?_⟩
  ·rw [List.append_nil] at G
   have e : ({ S with rows:=S.rows ++ [],steps:=S.steps + 0 } : MS) = S:=by rw [List.append_nil,Int.add_zero]
   rw [e] at G
   exact G
  ·unfold nowT
   rw [if_neg]
   rintro z
   have z : a.1 = "row":=z
   rw [z] at h
   exact absurd h (by decide +kernel)
 ·rw [if_neg h,if_neg h]
  refine ⟨[("row",.int (S.rows.length : Nat))],rfl,fun rest bc' S' G=>?_,fun Y=>now_row bc Y _⟩
  refine .cons (by omega) (by rw [ht]; decide) (rowok_nil _ _ _) (.new (pl:=pl) rfl (fun z=>hn (plI_inj z)) (by rw [show (⟨a.1,plI pl,[],[]⟩ : Rx).wd = a.1 from rfl,ok.word.1]; rfl)) ?_
  have e : (if (⟨a.1,plI pl,[],[]⟩ : Rx).wd ∈ WA then nowA bc (⟨a.1,plI pl,[],[]⟩ : Rx).ar else []) = []:=by
   split <;> rfl
  rw [e]
  rw [show nowO bc (⟨a.1,plI pl,[],[]⟩ : Rx).ops = [] from rfl]
  rw [Int.add_zero] at G
  exact G⟩
theorem go_gap {sub : List Nat→Option (Str × Dt)} {fl : List Nat} {c : Str × V} (ok : LeafOk c.1 c.2) (hs : sub fl = some (c.1,.flat c.2)) : LeafGo sub fl fl ("gap",.non) c (stp c.1):=⟨fun bc S hw ht hl h5=>by
 rw [leafG_nil,if_neg (by decide +kernel)]
 refine ⟨[(leafG c.1 c.2 S.rows.length fl []).1],rfl,fun rest bc' S' G=>?_,fun Y=>now_row bc Y _⟩
 refine .cons (by omega) (by rw [ht]; decide) (rowok_nil _ _ _) (S1:={ S with rows:=S.rows ++ (leafG c.1 c.2 S.rows.length fl []).2,steps:=S.steps + stp c.1 }) (x:=(leafG c.1 c.2 S.rows.length fl []).1) ?_ G
 obtain ⟨rows,wait,things,steps⟩:=S
 have hw : wait = []:=hw
 have ht : things = []:=ht
 subst hw ht
 have R : RunM sub 1 ⟨rows,[] ++ [⟨fl,nowA bc (⟨"gap",plI fl,[],[]⟩ : Rx).ar,false⟩],[],steps⟩ ⟨rows ++ (leafG c.1 c.2 rows.length fl []).2,[],[] ++ [(leafG c.1 c.2 rows.length fl []).1],steps + stp c.1⟩:=by
  refine .cons ⟨by show rows.length < 9000; have : rows.length ≤ 100:=hl; omega,by show 1 < 9000; decide,by show 0 < 9000; decide⟩ (.come (x:=⟨fl,[],false⟩) (w:=[]) rfl rfl hs ok.word.2.1 h5) ?_
  rw [come_leafG ok]
  exact .nil rfl
 exact RowG.fill (S':=⟨rows ++ (leafG c.1 c.2 rows.length fl []).2,[],[] ++ [(leafG c.1 c.2 rows.length fl []).1],steps + stp c.1⟩) (th:=[]) (x:=(leafG c.1 c.2 rows.length fl []).1) rfl R rfl⟩
theorem leafG_ok0 {wd : Str} {nv : V} {rs : List Rx} (ok : LeafOk wd nv) (pl : List Nat) : OkT (rs ++ (leafG wd nv rs.length pl []).2) (leafG wd nv rs.length pl []).1:=leafG_ok (fun y h=>by cases h) ok pl
theorem go_join {sub : List Nat→Option (Str × Dt)} {fl : List Nat} {wd : Str} {bc : List (Str × V)} {S : MS} {x y x' y' : Str × V} (hs : sub [] = some (wd,.flat .non)) (hf : fl ≠ []) (hw : wd ∈ OPS ∨ wd = "call") (w0 : S.wait = []) (t0 : S.things = []) (hl : S.rows.length ≤ 100) (ok : RowOkG bc.length ⟨wd,plI [],[x,y],[]⟩) (ex : nowT bc x = x') (ey : nowT bc y = y') (hx : OkT S.rows x') (hy : OkT S.rows y') :
  GoG sub fl [⟨wd,plI [],[x,y],[]⟩] bc S (bc ++ [(joinR wd [] S.rows.length x' y').1]) { S with rows:=S.rows ++ (joinR wd [] S.rows.length x' y').2 }:=by
 obtain ⟨rows,wait,things,steps⟩:=S
 have w0 : wait = []:=w0
 have t0 : things = []:=t0
 subst w0 t0
 have hl : rows.length ≤ 100:=hl
 have hp : (partsA wd).isSome = true:=by
  rcases hw with h | rfl
  ·unfold OPS at h
   simp only [List.mem_cons,List.not_mem_nil,or_false] at h
   rcases h with rfl | rfl | rfl <;> decide +kernel
  ·decide +kernel
 have hi : wd ∈ OPS ∨ wd = "call"∧isFnT rows x' = false:=hw.imp id fun h=>⟨h,hx.f⟩
 refine .cons (by show rows.length < 9000; omega) (by show 0 < 8000; decide) ok (S1:=⟨rows ++ (joinR wd [] rows.length x' y').2,[],[],steps⟩) (x:=(joinR wd [] rows.length x' y').1) ?_ .nil
 have fu : furS ⟨rows,[],[x',y'],steps⟩ wd [] [] x' y' = ⟨rows ++ (joinR wd [] rows.length x' y').2,[],[] ++ [(joinR wd [] rows.length x' y').1],steps⟩:=by
  unfold furS joinR
  by_cases h : wd ∈ OPS∧x'.1 = "num"∧y'.1 = "num"
  ·rw [if_pos h,if_pos h]
   simp
  ·rw [if_neg h,if_neg h]
 have R : RunM sub 1 ⟨rows,[] ++ [⟨[],nowA bc (⟨wd,plI [],[x,y],[]⟩ : Rx).ar,true⟩],[] ++ nowO bc (⟨wd,plI [],[x,y],[]⟩ : Rx).ops,steps⟩ ⟨rows ++ (joinR wd [] rows.length x' y').2,[],[] ++ [(joinR wd [] rows.length x' y').1],steps⟩:=by
  rw [show nowO bc (⟨wd,plI [],[x,y],[]⟩ : Rx).ops = [x',y'] by show [nowT bc x,nowT bc y] = _; rw [ex,ey]]
  refine .cons ⟨by show rows.length < 9000; omega,by show 1 < 9000; decide,by show 2 < 9000; decide⟩ (S1:=furS ⟨rows,[],[x',y'],steps⟩ wd [] [] x' y') (.further (x:=⟨[],[],true⟩) (w:=[]) rfl rfl hs (.two (th:=[]) hi rfl hx.r hx.n hy.n) (by show 0 ≤ 9000; decide)) ?_
  rw [fu]
  exact .nil rfl
 exact RowG.parts (pl:=[]) (S':=⟨rows ++ (joinR wd [] rows.length x' y').2,[],[] ++ [(joinR wd [] rows.length x' y').1],steps⟩) (th:=[]) (x:=(joinR wd [] rows.length x' y').1) rfl (fun z=>hf (plI_inj z).symm) hp R rfl
theorem leafG_len0 (w : Str) (n : V) (k k' : Nat) (pl : List Nat) : (leafG w n k pl []).2.length = (leafG w n k' pl []).2.length∧(leafG w n k pl []).2.length ≤ 1:=by
 rw [leafG_nil,leafG_nil]
 split
 ·exact ⟨rfl,Nat.zero_le _⟩
 ·exact ⟨rfl,Nat.le_refl _⟩
theorem leaf_now {w : Str} {n : V} {k m : Nat} {pl : List Nat} (h : k + (leafG w n k pl []).2.length ≤ m) : NowOk m (leafG w n k pl []).1:=by
 rw [leafG_nil] at h ⊢
 by_cases e : w ∈ (["num", "truth"] : List Str)
 ·rw [if_pos e]
  intro z
  have z : w = "row":=z
  rw [z] at e
  exact absurd e (by decide +kernel)
 ·rw [if_neg e] at h ⊢
  exact fun _=>⟨k,rfl,h⟩
theorem go_two {wd : Str} {a b c d : Str × V} {da db : Int} {fl : List Nat} (hw : wd ∈ OPS ∨ wd = "call") (ha : LeafOk c.1 c.2) (hb : LeafOk d.1 d.2) (hf : fl ≠ []) (hd : da ≤ 1∧0 ≤ da∧db ≤ 1∧0 ≤ db)
  (h0 : LeafGo (subW (twoT wd c d)) fl [0] a c da) (h1 : LeafGo (subW (twoT wd c d)) fl [1] b d db) (hr : (recL a).1.1 = "row" ∨ (recR a b).1.1 = "row") :
  ∃ bc S',GoG (subW (twoT wd c d)) fl (recRs wd a b) [] ⟨[],[],[],recSt a b⟩ bc S'∧NowOk bc.length (recJ wd a b).1∧S'.rows = recRs wd c d∧S'.steps = recSt a b + da + db∧nowT bc (recJ wd a b).1 = (recJ wd c d).1:=by
 have st:=stp_le a.1
 have st':=stp_le b.1
 have j : recJ wd a b = ((("row" : Str),V.int (((recL a).2 ++ (recR a b).2).length : Nat)),[(⟨wd,plI [],[(recL a).1,(recR a b).1],[]⟩ : Rx)]):=by
  unfold recJ joinR
  rw [if_neg]
  rintro ⟨_,z1,z2⟩
  rcases hr with h | h
  ·rw [h] at z1; exact absurd z1 (by decide +kernel)
  ·rw [h] at z2; exact absurd z2 (by decide +kernel)
 obtain ⟨X,lX,gX,nX⟩:=h0.go [] ⟨[],[],[],recSt a b⟩ rfl rfl (Nat.zero_le _) (by show recSt a b + 1 ≤ 500; unfold recSt; omega)
 have lX : X.length = (recL a).2.length:=lX
 have el : (leafG c.1 c.2 0 [0] []).2 = (recL c).2:=rfl
 have lc : (recL c).2.length ≤ 1:=(leafG_len0 c.1 c.2 0 0 [0]).2
 obtain ⟨Y,lY,gY,nY⟩:=h1.go X ⟨(recL c).2,[],[],recSt a b + da⟩ rfl rfl (by show (recL c).2.length ≤ 100; omega) (by show recSt a b + da + 1 ≤ 500; unfold recSt; omega)
 have eR : leafG b.1 b.2 X.length [1] [] = recR a b:=by unfold recR; rw [lX]
 rw [eR] at lY gY nY
 have eC : leafG d.1 d.2 (recL c).2.length [1] [] = recR c d:=rfl
 simp only [eC] at gY nY
 have ox : OkT ((recL c).2 ++ (recR c d).2) (recL c).1:=(leafG_ok0 (rs:=[]) ha [0]).more _
 have oy : OkT ((recL c).2 ++ (recR c d).2) (recR c d).1:=leafG_ok0 hb [1]
 have ld : (recR c d).2.length ≤ 1:=(leafG_len0 d.1 d.2 (recL c).2.length 0 [1]).2
 have lenXY : (X ++ Y).length = (recL a).2.length + (recR a b).2.length:=by rw [List.length_append,lX,lY]
 have rok : RowOkG (X ++ Y).length ⟨wd,plI [],[(recL a).1,(recR a b).1],[]⟩:=by
  refine ⟨fun y hy=>?_,fun y h=>(nomatch h),by show 2 ≤ 1000; decide,Nat.zero_le _⟩
  rw [lenXY]
  simp only [List.mem_cons,List.not_mem_nil,or_false] at hy
  rcases hy with rfl | rfl
  ·exact leaf_now (by show 0 + (recL a).2.length ≤ _; omega)
  ·exact leaf_now (by show (recL a).2.length + (recR a b).2.length ≤ _; omega)
 have G3:=go_join (sub:=subW (twoT wd c d)) (fl:=fl) (bc:=X ++ Y) (S:=⟨(recL c).2 ++ (recR c d).2,[],[],recSt a b + da + db⟩) (x:=(recL a).1) (y:=(recR a b).1) (sub_two wd c d).1 hf hw rfl rfl (by show ((recL c).2 ++ (recR c d).2).length ≤ 100; rw [List.length_append]; omega) rok (nX Y) (by have:=nY []; rw [List.append_nil] at this; exact this) ox oy
 refine ⟨X ++ Y ++ [(recJ wd c d).1],⟨(recL c).2 ++ (recR c d).2 ++ (recJ wd c d).2,[],[],recSt a b + da + db⟩,?_,?_,rfl,rfl,?_⟩
 ·unfold recRs
  rw [j,List.append_assoc]
  exact gX _ _ _ (gY _ _ _ G3)
 ·rw [j]
  intro _
  exact ⟨_,rfl,by rw [List.length_append,← lenXY]; simp only [List.length_append,List.length_singleton]; omega⟩
 ·rw [j,List.length_append,← lenXY]
  have:=now_row (X ++ Y) [] (recJ wd c d).1
  rw [List.append_nil] at this
  exact this
end K51
namespace K51
open PySem L2
section
variable {P : Program} {w : World} {K : PySem.W.Frag} {mg : Str→Option Value} {base : Heap}
noncomputable def sp_record (K : PySem.W.Frag) : Sp:=fun vs H Q _=>∃ (tv : V) (wd : Str) (a b : Str × V),vs = [tv]∧TrAt K H tv (twoT wd a b)∧(wd ∈ OPS ∨ wd = "call")∧LeafOk a.1 a.2∧LeafOk b.1 b.2∧∀ (r rd : Addr) (av : V) (H' : Hp),Same H H'→SqT K H' r [av,.ref rd,.int (recSt a b)]→ThAt K H' av (recJ wd a b).1→DueAt K H' rd (recRs wd a b)→H rd = none→Q (.ref r) H'
theorem stp_dec (wd : Str) : (if (!decide (V.str wd = V.str "gap")) = true then (1 : Int) else 0) = stp wd:=by
 rw [dec_str]
 unfold stp
 by_cases h : wd = "gap"
 ·rw [if_pos h,decide_eq_true h]; rfl
 ·rw [if_neg h,decide_eq_false h]; rfl
theorem sc_law_record : FnScope ["_law_tree", "_law_word", "_law_note", "_law_parts", "_law_rows", "_law_left", "_law_right", "_law_answer"] ["_law_tree"] (defScope s_law_record):=⟨rfl,rfl,rfl,by decide +kernel,rfl,by decide +kernel,by decide +kernel⟩
theorem ok_record {f : Addr} {fd : FuncData} (F : Fun K "_law_record" "_law_record" s_law_record f fd) (T : Txt K mg) (C__law_comes : Callee P w K mg base 1 "_law_comes" ["_law_form", "_law_place", "_law_around", "_law_rows"] (sp_comes K)) (C__law_joined : Callee P w K mg base 1 "_law_joined" ["_law_word", "_law_place", "_law_one", "_law_other", "_law_rows"] (sp_joined K)) : FnOk P w K mg base CX0 2 f fd ["_law_tree"] (sp_record K):=by
 refine F.okq sc_law_record (fun vs H Q E h=>?_) (fun cdv A outer s H vs Q E hr h=>?_)
 ·obtain ⟨tv,wd,a,b,rfl,_⟩:=h
  rfl
 ·obtain ⟨tv,wd,a,b,rfl,ht,hw,oa,ob,q⟩:=h
  refine ⟨_,qss_cons (qs_asg (qv 0) (qg_tupK K (n:=3) rfl (qgs_cons (qg_name (i:=1) sc_law_record.nd rfl (Or.inl rfl)) (qgs_cons (qg_name (i:=2) sc_law_record.nd rfl (Or.inl rfl)) (qgs_cons (qg_name (i:=3) sc_law_record.nd rfl (Or.inl rfl)) (qgs_nil))))))
   (qss_cons (qs_set (i:=4) sc_law_record.nd rfl (Or.inl rfl) (qe_lst (qa_nil)))
   (qss_cons (qs_set (i:=5) sc_law_record.nd rfl (Or.inl rfl) (qe_fn C__law_comes (hr.mono (by decide)) (qa_cons (qe_ix (k_ix K) (qv 3) (qe_int) (fun _ _=>rfl)) (qa_cons (qe_tup (qa_cons (qe_int) qa_nil)) (qa_cons (qe_lst (qa_nil)) (qa_cons (qv 4) qa_nil))))))
   (qss_cons (qs_set (i:=6) sc_law_record.nd rfl (Or.inl rfl) (qe_fn C__law_comes (hr.mono (by decide)) (qa_cons (qe_ix (k_ix K) (qv 3) (qe_int) (fun _ _=>rfl)) (qa_cons (qe_tup (qa_cons (qe_int) qa_nil)) (qa_cons (qe_lst (qa_nil)) (qa_cons (qv 4) qa_nil))))))
   (qss_cons (qs_set (i:=7) sc_law_record.nd rfl (Or.inl rfl) (qe_fn C__law_joined (hr.mono (by decide)) (qa_cons (qv 1) (qa_cons (qe_tup (qa_nil)) (qa_cons (qv 5) (qa_cons (qv 6) (qa_cons (qv 4) qa_nil)))))))
   (qss_one (qs_ret (qe_tup (qa_cons (qv 7) (qa_cons (qv 4) (qa_cons (qe_op (k_add K) (qe_op (k_add K) (qe_int) (qe_callTy k_int (by rfl) T.int (by decide +kernel) (qa_cons (qe_cmpR (k_ne K hr.u200) (qe_ix (k_ix K) (qe_ix (k_ix K) (qv 3) (qe_int) (fun _ _=>rfl)) (qe_int) (fun _ _=>rfl)) (qe_str) (nomark _)) qa_nil))) (qe_callTy k_int (by rfl) T.int (by decide +kernel) (qa_cons (qe_cmpR (k_ne K hr.u200) (qe_ix (k_ix K) (qe_ix (k_ix K) (qv 3) (qe_int) (fun _ _=>rfl)) (qe_int) (fun _ _=>rfl)) (qe_str) (nomark _)) qa_nil))) qa_nil)))))))))),?_⟩
  have bg:=big
  unfold twoT at ht
  cases ht with
  | @mk c pp _ nv _ us _ qb hn qp l hch =>
  obtain ⟨u0,u1,rfl⟩ : ∃ u0 u1,us = [u0,u1]:=by
   match us,l with
   | [u0,u1],_=>exact ⟨u0,u1,rfl⟩
  have t0:=hch 0 u0 _ rfl rfl
  have t1:=hch 1 u1 _ rfl rfl
  walk_at "r"
  refine s_gtup qb rfl ?_
  walk_at "r"
  refine ⟨by show 0 ≤ sizeLine; decide,fun rd hrd=>?_⟩
  have s1 : Same H (upd H rd (.lst [])):=Same.upd hrd
  have e1 : upd H rd (.lst []) rd = some (.lst []):=upd_same
  have D1 : DueAt K (upd H rd (.lst [])) rd []:=⟨[],e1,.nil⟩
  revert s1 e1 D1
  generalize upd H rd (.lst []) = H1
  intro s1 e1 D1
  walk_at "r"
  refine s_ix_tup (s1.tup qp) rfl ?_
  walk_at "r"
  refine ⟨by show 1 ≤ sizeLine; decide,fun p2 hp2=>?_⟩
  have s2 : Same H1 (upd H1 p2 (.tup [.int 0])):=Same.upd hp2
  have e2 : upd H1 p2 (.tup [.int 0]) p2 = some (.tup [.int 0]):=upd_same
  revert s2 e2
  generalize upd H1 p2 (.tup [.int 0]) = H2
  intro s2 e2
  walk_at "r"
  refine ⟨by show 0 ≤ sizeLine; decide,fun k3 hk3=>?_⟩
  have s3 : Same H2 (upd H2 k3 (.lst [])):=Same.upd hk3
  have e3 : upd H2 k3 (.lst []) k3 = some (.lst []):=upd_same
  have nk3 : k3 ≠ rd:=fun z=>by rw [z,s2 _ _ e1] at hk3; cases hk3
  revert s3 e3
  generalize upd H2 k3 (.lst []) = H3
  intro s3 e3
  have s13:=s2.trans s3
  have s03:=s1.trans s13
  walk_at "r"
  refine ⟨u0,a.1,a.2,p2,k3,rd,[0],[],[],[],rfl,t0.same s03,oa,s3 _ _ e2,e3,.nil,nk3,D1.same s13,by decide,fun lv H4 r4 D4 tl4=>?_⟩
  have D4 : DueAt K H4 rd (recL a).2:=D4
  have tl4 : ThAt K H4 lv (recL a).1:=tl4
  have s04 : Same H H4:=fun x o h=>r4 x o (fun z=>by rw [z,hrd] at h; cases h) (s03 _ _ h)
  clear s13 s03 s3 s2 s1 e1 e2 e3 D1 r4
  walk_at "r"
  refine s_ix_tup (s04.tup qp) rfl ?_
  walk_at "r"
  refine ⟨by show 1 ≤ sizeLine; decide,fun p5 hp5=>?_⟩
  have s5 : Same H4 (upd H4 p5 (.tup [.int 1])):=Same.upd hp5
  have e5 : upd H4 p5 (.tup [.int 1]) p5 = some (.tup [.int 1]):=upd_same
  revert s5 e5
  generalize upd H4 p5 (.tup [.int 1]) = H5
  intro s5 e5
  walk_at "r"
  refine ⟨by show 0 ≤ sizeLine; decide,fun k6 hk6=>?_⟩
  have s6 : Same H5 (upd H5 k6 (.lst [])):=Same.upd hk6
  have e6 : upd H5 k6 (.lst []) k6 = some (.lst []):=upd_same
  have nk6 : k6 ≠ rd:=fun z=>by
   obtain ⟨rv,er,_⟩:=(D4.same s5).ex
   rw [z,er] at hk6; cases hk6
  revert s6 e6
  generalize upd H5 k6 (.lst []) = H6
  intro s6 e6
  have s46:=s5.trans s6
  have la:=(leafG_len0 a.1 a.2 0 0 [0]).2
  have lb:=(leafG_len0 b.1 b.2 (recL a).2.length 0 [1]).2
  walk_at "r"
  refine ⟨u1,b.1,b.2,p5,k6,rd,[1],(recL a).2,[],[],rfl,(t1.same s04).same s46,ob,s6 _ _ e5,e6,.nil,nk6,D4.same s46,by show (recL a).2.length ≤ 100; unfold recL; omega,fun rv H7 r7 D7 tr7=>?_⟩
  have D7 : DueAt K H7 rd ((recL a).2 ++ (recR a b).2):=D7
  have tr7 : ThAt K H7 rv (recR a b).1:=tr7
  have tl7 : ThAt K H7 lv (recL a).1:=by
   obtain ⟨rv,er,_⟩:=(D4.same s46).ex
   exact ThAt.same (s46.t.trans (r7.a er).1) _ _ tl4
  have s07 : Same H H7:=fun x o h=>r7 x o (fun z=>by rw [z,hrd] at h; cases h) (s46 _ _ (s04 _ _ h))
  clear s46 s5 s6 e5 e6 D4 r7 tl4 s04
  walk_at "r"
  refine ⟨by show 0 ≤ sizeLine; decide,fun p8 hp8=>?_⟩
  have s8 : Same H7 (upd H7 p8 (.tup [])):=Same.upd hp8
  have e8 : upd H7 p8 (.tup []) p8 = some (.tup []):=upd_same
  revert s8 e8
  generalize upd H7 p8 (.tup []) = H8
  intro s8 e8
  walk_at "r"
  refine ⟨wd,p8,rd,lv,rv,(recL a).1,(recR a b).1,[],(recL a).2 ++ (recR a b).2,rfl,hw,e8,ThAt.same s8.t _ _ tl7,ThAt.same s8.t _ _ tr7,(leafG_ok0 (rs:=[]) oa [0]).n,(leafG_ok0 (rs:=(recL a).2) ob [1]).n,D7.same s8,by rw [List.length_append]; show (leafG a.1 a.2 0 [0] []).2.length + (leafG b.1 b.2 (recL a).2.length [1] []).2.length ≤ 100; omega,fun jv H9 r9 D9 tj9=>?_⟩
  have D9 : DueAt K H9 rd (recRs wd a b):=D9
  have tj9 : ThAt K H9 jv (recJ wd a b).1:=tj9
  have s09 : Same H H9:=fun x o h=>r9 x o (fun z=>by rw [z,hrd] at h; cases h) (s8 _ _ (s07 _ _ h))
  cases t0 with
  | @mk c0 pp0 _ nv0 _ us0 _ qb0 hn0 qp0 l0 hch0 =>
  cases t1 with
  | @mk c1 pp1 _ nv1 _ us1 _ qb1 hn1 qp1 l1 hch1 =>
  walk_at "r"
  refine s_ix_tup (s09.tup qp) rfl ?_
  walk_at "r"
  refine s_ix_tup (s09.tup qb0) rfl ?_
  walk_at "r"
  refine s_ix_tup (s09.tup qp) rfl ?_
  walk_at "r"
  refine s_ix_tup (s09.tup qb1) rfl ?_
  walk_at "r"
  rw [stp_dec,stp_dec]
  refine ⟨by show 3 ≤ sizeLine; decide,fun r hr'=>?_⟩
  have s10 : Same H9 (upd H9 r (.tup [jv,.ref rd,.int (recSt a b)])):=Same.upd hr'
  exact q r rd jv _ (s09.trans s10) (SqT.of upd_same) (ThAt.same s10.t _ _ tj9) (D9.same s10) hrd
theorem viaS {t : TS} {X : St→Hp→Prop} {rt : VK} {bk ct : St→Hp→Prop} {σ : St} {H : Hp} (R : St→Hp→Prop) (h2 : ∀ σ' H',R σ' H'→X σ' H') (h1 : ∀ Y : St→Hp→Prop,(∀ σ' H',R σ' H'→Y σ' H')→t ⟨Y,rt,bk,ct⟩ σ H) : t ⟨X,rt,bk,ct⟩ σ H:=h1 X h2
noncomputable def recD (x : Str × V) (rs : List Rx) (n : Int) : Dt:=.tup [thD x,.lst (rs.map rzD),.flat (.int n)]
theorem rec_isD {K : PySem.W.Frag} {H : Hp} {A : Addr→Prop} {r rd : Addr} {av : V} {rv : List V} {x : Str × V} {rs : List Rx} {n : Int} (q : SqT K H r [av,.ref rd,.int n]) (hx : ThAt K H av x) (hr : H rd = some (.lst rv)) (al : Al (RwAt K A H) rv rs) : IsD K H 6 (.ref r) (recD x rs n):=by
 refine .tup q rfl fun j v d h1 h2=>?_
 match j,h1,h2 with
 | 0,h1,h2=>cases h1; cases h2; exact (ThAt.d hx).up (by decide)
 | 1,h1,h2=>cases h1; cases h2; exact Al.lstD al (SqL.of hr) fun v x h=>RwAt.d h
 | 2,h1,h2=>cases h1; cases h2; exact .flat rfl
noncomputable def LstP (H : Hp) (n : Nat) (b : Addr) : Prop:=∃ xs,H b = some (.lst xs)∧xs.length ≤ n
theorem LstP.same {H H' : Hp} {n m : Nat} {b : Addr} (h : LstP H n b) (e : Same H H') (hm : n ≤ m) : LstP H' m b:=by
 obtain ⟨xs,h1,h2⟩:=h
 exact ⟨xs,e _ _ h1,by omega⟩
theorem LstP.set {H : Hp} {n : Nat} {b o : Addr} {zs : List V} (h : LstP H n b) (hz : zs.length ≤ n + 1) : LstP (upd H o (.lst zs)) (n + 1) b:=by
 obtain ⟨xs,h1,h2⟩:=h
 by_cases e : b = o
 ·rw [e]
  exact ⟨zs,upd_same,hz⟩
 ·exact ⟨xs,by rw [upd_ne e]; exact h1,by omega⟩
noncomputable def RowP (K : PySem.W.Frag) (HB H : Hp) (rd : Addr) (n : Nat) (v : V) : Prop:=∃ (a p o e : Addr) (wd : Str),v = .ref a∧SqT K H a [.str wd,.ref p,.ref o,.ref e]∧HB o = none∧o ≠ rd∧HB e = none∧e ≠ rd∧LstP H n o∧LstP H n e
theorem RowP.same {K : PySem.W.Frag} {HB H H' : Hp} {rd : Addr} {n m : Nat} {v : V} (h : RowP K HB H rd n v) (e : Same H H') (hm : n ≤ m) : RowP K HB H' rd m v:=by
 obtain ⟨a,p,o,k,wd,h1,h2,h3,h4,h5,h6,h7,h8⟩:=h
 exact ⟨a,p,o,k,wd,h1,e.tup h2,h3,h4,h5,h6,h7.same e hm,h8.same e hm⟩
theorem RowP.set {K : PySem.W.Frag} {HB H : Hp} {rd o : Addr} {n : Nat} {v : V} {ys zs : List V} (h : RowP K HB H rd n v) (ho : H o = some (.lst ys)) (hz : zs.length ≤ n + 1) : RowP K HB (upd H o (.lst zs)) rd (n + 1) v:=by
 obtain ⟨a,p,o',k,wd,h1,h2,h3,h4,h5,h6,h7,h8⟩:=h
 exact ⟨a,p,o',k,wd,h1,(SameT.set ho).tup h2,h3,h4,h5,h6,h7.set hz,h8.set hz⟩
theorem leafG_rows (wd : Str) (nv : V) (k : Nat) (pl : List Nat) : ∀ x ∈ (leafG wd nv k pl []).2,x.pl = plI pl∧x.ops = []∧x.ar = []:=by
 rw [leafG_nil]
 split
 ·intro x hx; exact nomatch hx
 ·intro x hx; rw [List.mem_singleton.mp hx]; exact ⟨rfl,rfl,rfl⟩
theorem joinR_rows (wd : Str) (pl : List Nat) (k : Nat) (a b : Str × V) : (joinR wd pl k a b).2.length ≤ 1∧∀ x ∈ (joinR wd pl k a b).2,x.pl = plI pl∧x.ops = [a,b]∧x.ar = []:=by
 unfold joinR
 split
 ·exact ⟨Nat.zero_le _,fun x hx=>nomatch hx⟩
 ·exact ⟨Nat.le_refl _,fun x hx=>by rw [List.mem_singleton.mp hx]; exact ⟨rfl,rfl,rfl⟩⟩
theorem rec_small (wd : Str) (a b : Str × V) : (∀ x ∈ recRs wd a b,x.Ok)∧(recRs wd a b).length ≤ 3∧∀ x ∈ recRs wd a b,x.ops.length ≤ 2∧x.ar.length = 0:=by
 have l1 : (recL a).2.length ≤ 1:=(leafG_len0 a.1 a.2 0 0 [0]).2
 have l2 : (recR a b).2.length ≤ 1:=(leafG_len0 b.1 b.2 (recL a).2.length 0 [1]).2
 have j1 : (recJ wd a b).2.length ≤ 1:=(joinR_rows wd [] _ _ _).1
 have all : ∀ x ∈ recRs wd a b,x.pl.length ≤ 1∧x.ops.length ≤ 2∧x.ar.length = 0:=by
  intro x hx
  rcases List.mem_append.mp hx with hx | hx
  ·rcases List.mem_append.mp hx with hx | hx
   ·obtain ⟨h1,h2,h3⟩:=leafG_rows _ _ _ _ x hx
    rw [h1,h2,h3]; exact ⟨by decide,by decide,rfl⟩
   ·obtain ⟨h1,h2,h3⟩:=leafG_rows _ _ _ _ x hx
    rw [h1,h2,h3]; exact ⟨by decide,by decide,rfl⟩
  ·obtain ⟨h1,h2,h3⟩:=(joinR_rows wd [] _ _ _).2 x hx
   rw [h1,h2,h3]; exact ⟨by decide,Nat.le_refl _,rfl⟩
 refine ⟨fun x hx=>?_,by unfold recRs; rw [List.length_append,List.length_append]; omega,fun x hx=>(all x hx).2⟩
 obtain ⟨h1,h2,h3⟩:=all x hx
 exact ⟨by omega,by omega,by omega⟩
open K19 in
structure Fit (wd : Str) (a b c d f : Str × V) (i : Nat) : Prop where
 la : LeafOk a.1 a.2
 lb : LeafOk b.1 b.2
 lc : LeafOk c.1 c.2
 ld : LeafOk d.1 d.2
 sub : Sub (twoT wd a b) [i]
 path : (path (twoT wd a b) [i])[1]? = some (.mk "gap" (.flat .non) [])
 wat : withAt (twoT wd a b) [i] (leafT f.1 f.2) = twoT wd c d
 go : ∃ bc S',GoG (subW (twoT wd c d)) [i] (recRs wd a b) [] ⟨[],[],[],recSt a b⟩ bc S'∧NowOk bc.length (recJ wd a b).1∧S'.rows = recRs wd c d∧S'.steps = recSt c d∧nowT bc (recJ wd a b).1 = (recJ wd c d).1
noncomputable def gapL : Str × V:=(("gap" : Str),V.non)
theorem gapL_ok : LeafOk gapL.1 gapL.2:=.inr (.inr (.inr (.inr ⟨rfl,rfl⟩)))
theorem gapL_row (k : Nat) (pl : List Nat) : (leafG gapL.1 gapL.2 k pl []).1.1 = "row":=by
 rw [leafG_nil,if_neg (by decide +kernel)]
theorem fit0 {wd : Str} {o f : Str × V} (hw : wd ∈ OPS ∨ wd = "call") (ho : LeafOk o.1 o.2) (hf : LeafOk f.1 f.2) : Fit wd gapL o f o f 0:=by
 have sl:=stp_le f.1
 refine ⟨gapL_ok,ho,hf,ho,.cons rfl (.nil _),rfl,rfl,?_⟩
 obtain ⟨bc,S',h1,h2,h3,h4,h5⟩:=go_two (wd:=wd) (a:=gapL) (b:=o) (c:=f) (d:=o) (da:=stp f.1) (db:=0) (fl:=[0]) hw hf ho (by decide) (by omega) (go_gap hf (sub_two wd f o).2.1) (go_other ho (by decide)) (.inl (gapL_row _ _))
 refine ⟨bc,S',h1,h2,h3,?_,h5⟩
 rw [h4]
 unfold recSt
 rw [show stp gapL.1 = 0 from if_pos rfl]
 omega
theorem fit1 {wd : Str} {o f : Str × V} (hw : wd ∈ OPS ∨ wd = "call") (ho : LeafOk o.1 o.2) (hf : LeafOk f.1 f.2) : Fit wd o gapL o f f 1:=by
 have sl:=stp_le f.1
 refine ⟨ho,gapL_ok,ho,hf,.cons rfl (.nil _),rfl,rfl,?_⟩
 obtain ⟨bc,S',h1,h2,h3,h4,h5⟩:=go_two (wd:=wd) (a:=o) (b:=gapL) (c:=o) (d:=f) (da:=0) (db:=stp f.1) (fl:=[1]) hw ho hf (by decide) (by omega) (go_other ho (by decide)) (go_gap hf (sub_two wd o f).2.2) (.inr (gapL_row _ _))
 refine ⟨bc,S',h1,h2,h3,?_,h5⟩
 rw [h4]
 unfold recSt
 rw [show stp gapL.1 = 0 from if_pos rfl]
 omega
noncomputable def sp_law (K : PySem.W.Frag) : Sp:=fun vs H Q _=>∃ (a : Addr) (ns : List Int),vs = [.ref a]∧SqL K H a (ns.map V.int)∧ns.length ≤ 63∧∀ H',Q (.bl true) H'
theorem sc_law : FnScope ["_law_script", "_law_word", "_law_names_here", "_law_other", "_law_form", "_law_gap", "_law_side", "_law_tree", "_law_filled", "_law_record_here", "_law_found", "_law_row"] ["_law_script"] (defScope s_law):=⟨rfl,rfl,rfl,by decide +kernel,rfl,by decide +kernel,by decide +kernel⟩
theorem ok_law {f : Addr} {fd : FuncData} (F : Fun K "law" "law" s_law f fd) (T : Txt K mg) (C__law_cell : Callee P w K mg base 1 "_law_cell" ["_law_script", "_law_k"] (sp_cell K)) (C__law_names : Callee P w K mg base 2 "_law_names" ["_law_cell_here", "_law_many"] sp_names) (C__law_leaf : Callee P w K mg base 2 "_law_leaf" ["_law_cell_here", "_law_other", "_law_names_here"] (sp_lleaf K)) (C__law_record : Callee P w K mg base 2 "_law_record" ["_law_tree"] (sp_record K))
  (C_go_on : Callee P w K mg base 8 "go_on" ["tree", "record", "place", "form"] (sp_goon K)) (C__law_same : Callee P w K mg base 9 "_law_same" ["_law_found", "_law_due"] (sp_same K 8)) : FnOk P w K mg base CX0 10 f fd ["_law_script"] (sp_law K):=by
 refine F.okq sc_law (fun vs H Q E h=>?_) (fun cdv A outer s H vs Q E hr h=>?_)
 ·obtain ⟨a,ns,rfl,_⟩:=h
  rfl
 ·obtain ⟨a,ns,rfl,hS,hn,q⟩:=h
  have S : Script K H a:=⟨ns,hS,hn⟩
  refine ⟨_,qss_cons (qs_set (i:=1) sc_law.nd rfl (Or.inl rfl) (qe_ix (k_ix K) (qe_lst (qa_consts (xs:=[.str "plus",.str "minus",.str "less",.str "call"]) rfl)) (qe_op op_mod (qe_fn C__law_cell (hr.mono (by decide)) (qa_cons (qv 0) (qa_cons (qe_int) qa_nil))) (qe_int)) (fun _ _=>rfl)))
   (qss_cons (qs_set (i:=2) sc_law.nd rfl (Or.inl rfl) (qe_fn C__law_names (hr.mono (by decide)) (qa_cons (qe_fn C__law_cell (hr.mono (by decide)) (qa_cons (qv 0) (qa_cons (qe_int) qa_nil))) (qa_cons (qe_int) qa_nil))))
   (qss_cons (qs_set (i:=3) sc_law.nd rfl (Or.inl rfl) (qe_fn C__law_leaf (hr.mono (by decide)) (qa_cons (qe_fn C__law_cell (hr.mono (by decide)) (qa_cons (qv 0) (qa_cons (qe_int) qa_nil))) (qa_cons (qe_fn C__law_cell (hr.mono (by decide)) (qa_cons (qv 0) (qa_cons (qe_int) qa_nil))) (qa_cons (qv 2) qa_nil)))))
   (qss_cons (qs_set (i:=4) sc_law.nd rfl (Or.inl rfl) (qe_fn C__law_leaf (hr.mono (by decide)) (qa_cons (qe_fn C__law_cell (hr.mono (by decide)) (qa_cons (qv 0) (qa_cons (qe_int) qa_nil))) (qa_cons (qe_fn C__law_cell (hr.mono (by decide)) (qa_cons (qv 0) (qa_cons (qe_int) qa_nil))) (qa_cons (qv 2) qa_nil)))))
   (qss_cons (qs_set (i:=5) sc_law.nd rfl (Or.inl rfl) (qe_tup (qa_cons (qe_str) (qa_cons (qe_non) (qa_cons (qe_tup (qa_nil)) qa_nil)))))
   (qss_cons (qs_set (i:=6) sc_law.nd rfl (Or.inl rfl) (qe_op op_mod (qe_op op_fdiv (qe_fn C__law_cell (hr.mono (by decide)) (qa_cons (qv 0) (qa_cons (qe_int) qa_nil))) (qe_int)) (qe_int)))
   (qss_cons (qs_set (i:=7) sc_law.nd rfl (Or.inl rfl) (qe_tup (qa_cons (qv 1) (qa_cons (qe_non) (qa_cons (qe_tup (qa_cons (qv 5) (qa_cons (qv 3) qa_nil))) qa_nil)))))
   (qss_cons (qs_set (i:=8) sc_law.nd rfl (Or.inl rfl) (qe_tup (qa_cons (qv 1) (qa_cons (qe_non) (qa_cons (qe_tup (qa_cons (qv 4) (qa_cons (qv 3) qa_nil))) qa_nil)))))
   (qss_cons (qs_if (qt_cmpR (k_eq K hr.u200) (qv 6) (qe_int) (nomark _)) (qss_cons (qs_set (i:=7) sc_law.nd rfl (Or.inl rfl) (qe_tup (qa_cons (qv 1) (qa_cons (qe_non) (qa_cons (qe_tup (qa_cons (qv 3) (qa_cons (qv 5) qa_nil))) qa_nil)))))
   (qss_one (qs_set (i:=8) sc_law.nd rfl (Or.inl rfl) (qe_tup (qa_cons (qv 1) (qa_cons (qe_non) (qa_cons (qe_tup (qa_cons (qv 3) (qa_cons (qv 4) qa_nil))) qa_nil))))))) (qss_nil))
   (qss_cons (qs_set (i:=9) sc_law.nd rfl (Or.inl rfl) (qe_fn C__law_record (hr.mono (by decide)) (qa_cons (qv 7) qa_nil)))
   (qss_cons (qs_set (i:=10) sc_law.nd rfl (Or.inl rfl) (qe_fn C_go_on (hr.mono (by decide)) (qa_cons (qv 7) (qa_cons (qv 9) (qa_cons (qe_tup (qa_cons (qv 6) qa_nil)) (qa_cons (qv 4) qa_nil))))))
   (qss_cons (qs_if (QW.qt (qw_or (qt_not (qt_val (qe_fn C__law_same (hr.mono (by decide)) (qa_cons (qv 10) (qa_cons (qe_fn C__law_record (hr.mono (by decide)) (qa_cons (qv 8) qa_nil)) qa_nil))))) (qw_or1 (qt_not (qt_val (qe_fn C__law_same (hr.mono (by decide)) (qa_cons (qv 9) (qa_cons (qe_fn C__law_record (hr.mono (by decide)) (qa_cons (qv 7) qa_nil)) qa_nil)))))))) (qss_one (qs_ret (qe_bl))) (qss_nil))
   (qss_cons (qs_for PassesOwn.never rfl (qi_anyK K (qe_ix (k_ix K) (qv 10) (qe_int) (fun _ _=>rfl))) (qg_name (i:=11) sc_law.nd rfl (Or.inl rfl)) (qss_cons (qs_expr (qe_bmK K PySem.F.plainAttrs_list PySem.F.slot_list_append PySem.F.type_list_append mt_append (qe_ix (k_ix K) (qv 11) (qe_int) (fun _ _=>rfl)) (qa_cons (qe_tup (qa_cons (qe_str) (qa_cons (qe_int) qa_nil))) qa_nil)))
   (qss_one (qs_expr (qe_bmK K PySem.F.plainAttrs_list PySem.F.slot_list_append PySem.F.type_list_append mt_append (qe_ix (k_ix K) (qv 11) (qe_int) (fun _ _=>rfl)) (qa_cons (qe_tup (qa_cons (qe_str) (qa_cons (qe_tup (qa_cons (qe_str) (qa_cons (qe_int) qa_nil))) qa_nil))) qa_nil))))))
   (qss_cons (qs_if (qt_not (qt_val (qe_fn C__law_same (hr.mono (by decide)) (qa_cons (qv 9) (qa_cons (qe_fn C__law_record (hr.mono (by decide)) (qa_cons (qv 7) qa_nil)) qa_nil))))) (qss_one (qs_ret (qe_bl))) (qss_nil))
   (qss_one (qs_ret (qe_fn C__law_same (hr.mono (by decide)) (qa_cons (qe_fn C_go_on (hr.mono (by decide)) (qa_cons (qv 7) (qa_cons (qv 9) (qa_cons (qe_tup (qa_cons (qv 6) qa_nil)) (qa_cons (qv 4) qa_nil))))) (qa_cons (qe_fn C__law_record (hr.mono (by decide)) (qa_cons (qv 8) qa_nil)) qa_nil)))))))))))))))))),?_⟩
  have bg:=big
  walk_at "r"
  refine ⟨by show 4 ≤ sizeLine; decide,fun p0 h0=>?_⟩
  have s1 : Same H (upd H p0 (.lst [.str "plus",.str "minus",.str "less",.str "call"])):=Same.upd h0
  have e1 : upd H p0 (.lst [.str "plus",.str "minus",.str "less",.str "call"]) p0 = some (.lst [.str "plus",.str "minus",.str "less",.str "call"]):=upd_same
  revert s1 e1
  generalize upd H p0 (.lst [.str "plus",.str "minus",.str "less",.str "call"]) = H1
  intro s1 e1
  walk_at "r"
  refine ⟨a,0,rfl,S.same s1,by decide,by decide,fun z0=>?_⟩
  walk_at "r"
  obtain ⟨v,hv,m⟩:=atI_in (xs:=([.str "plus",.str "minus",.str "less",.str "call"] : List V)) (i:=z0 % 4) (Int.emod_nonneg _ (by decide)) (Int.emod_lt_of_pos _ (by decide))
  obtain ⟨wd,rfl,hw⟩ : ∃ wd,v = V.str wd∧(wd ∈ OPS ∨ wd = "call"):=by
   simp only [List.mem_cons,List.not_mem_nil,or_false] at m
   rcases m with h | h | h | h
   ·exact ⟨_,h,.inl (by decide +kernel)⟩
   ·exact ⟨_,h,.inl (by decide +kernel)⟩
   ·exact ⟨_,h,.inl (by decide +kernel)⟩
   ·exact ⟨_,h,.inr rfl⟩
  refine s_ix_lst (SqL.of e1) hv ?_
  walk_at "r"
  refine ⟨a,5,rfl,S.same s1,by decide,by decide,fun z5=>?_⟩
  walk_at "r"
  refine ⟨z5,rfl,fun pn t0 t1 t2 H2 s2 _ hpn=>?_⟩
  have s02:=s1.trans s2
  walk_at "r"
  refine ⟨a,1,rfl,S.same s02,by decide,by decide,fun z1=>?_⟩
  walk_at "r"
  refine ⟨a,2,rfl,S.same s02,by decide,by decide,fun z2=>?_⟩
  walk_at "r"
  refine ⟨z1,z2,pn,t0,t1,t2,rfl,SqL.of hpn,fun ov w1 n1 H3 s3 ht1 ok1=>?_⟩
  have s03:=s02.trans s3
  walk_at "r"
  refine ⟨a,3,rfl,S.same s03,by decide,by decide,fun z3=>?_⟩
  walk_at "r"
  refine ⟨a,4,rfl,S.same s03,by decide,by decide,fun z4=>?_⟩
  walk_at "r"
  refine ⟨z3,z4,pn,t0,t1,t2,rfl,SqL.of (s3 _ _ hpn),fun fv w2 n2 H4 s4 ht2 ok2=>?_⟩
  have s04:=s03.trans s4
  have ht1:=ht1.same s4
  walk_at "r"
  refine ⟨by show 0 ≤ sizeLine; decide,fun p5 h5=>?_⟩
  have s5 : Same H4 (upd H4 p5 (.tup [])):=Same.upd h5
  have e5 : upd H4 p5 (.tup []) p5 = some (.tup []):=upd_same
  revert s5 e5
  generalize upd H4 p5 (.tup []) = H5
  intro s5 e5
  walk_at "r"
  refine ⟨by show 3 ≤ sizeLine; decide,fun gp h6=>?_⟩
  have s6 : Same H5 (upd H5 gp (.tup [.str "gap",.non,.ref p5])):=Same.upd h6
  have e6 : upd H5 gp (.tup [.str "gap",.non,.ref p5]) gp = some (.tup [.str "gap",.non,.ref p5]):=upd_same
  revert s6 e6
  generalize upd H5 gp (.tup [.str "gap",.non,.ref p5]) = H6
  intro s6 e6
  have htg : TrAt K H6 (.ref gp) (leafT gapL.1 gapL.2):=.mk (SqT.of e6) (.inl ⟨rfl,rfl⟩) (SqT.of (s6 _ _ e5)) rfl (fun j v t f1 f2=>nomatch f1)
  have s46:=s5.trans s6
  have ht1 : TrAt K H6 ov (leafT w1 n1):=ht1.same s46
  have ht2 : TrAt K H6 fv (leafT w2 n2):=ht2.same s46
  have s06:=s04.trans s46
  have two : ∀ (H' : Hp) (x y : V) (l m : Str × V),Same H6 H'→TrAt K H6 x (leafT l.1 l.2)→TrAt K H6 y (leafT m.1 m.2)→∀ pi,H' pi = none→∀ pt,upd H' pi (.tup [x,y]) pt = none→Same H' (upd (upd H' pi (.tup [x,y])) pt (.tup [.str wd,.non,.ref pi]))∧TrAt K (upd (upd H' pi (.tup [x,y])) pt (.tup [.str wd,.non,.ref pi])) (.ref pt) (twoT wd l m):=by
   intro H' x y l m e hx hy pi hpi pt hpt
   have s1 : Same H' (upd H' pi (.tup [x,y])):=Same.upd hpi
   have s2 : Same (upd H' pi (.tup [x,y])) (upd (upd H' pi (.tup [x,y])) pt (.tup [.str wd,.non,.ref pi])):=Same.upd hpt
   have e1:=s2 _ _ (upd_same (H:=H') (a:=pi) (o:=.tup [x,y]))
   have ee:=e.trans (s1.trans s2)
   exact ⟨s1.trans s2,.mk (SqT.of upd_same) (.inl ⟨rfl,rfl⟩) (SqT.of e1) rfl (fun j v t f1 f2=>by
    match j,f1,f2 with
    | 0,f1,f2=>cases f1; cases f2; exact hx.same ee
    | 1,f1,f2=>cases f1; cases f2; exact hy.same ee)⟩
  clear s1 e1 s2 s02 s3 s03 s04 s4 hpn e5 e6 s5 s6 s46
  walk_at "r"
  refine ⟨a,0,rfl,S.same s06,by decide,by decide,fun z6=>?_⟩
  walk_at "r"
  refine ⟨by show 2 ≤ sizeLine; decide,fun i1 hi1=>?_⟩
  walk_at "r"
  refine ⟨by show 3 ≤ sizeLine; decide,fun t1' ht1'=>?_⟩
  obtain ⟨s7,tr7⟩:=two H6 (.ref gp) ov gapL (w1,n1) (Same.refl _) htg ht1 i1 hi1 t1' ht1'
  revert s7 tr7
  generalize upd (upd H6 i1 (.tup [.ref gp,ov])) t1' (.tup [.str wd,.non,.ref i1]) = H7
  intro s7 tr7
  walk_at "r"
  refine ⟨by show 2 ≤ sizeLine; decide,fun i2 hi2=>?_⟩
  walk_at "r"
  refine ⟨by show 3 ≤ sizeLine; decide,fun t2' ht2'=>?_⟩
  obtain ⟨s8,tr8⟩:=two H7 fv ov (w2,n2) (w1,n1) s7 ht2 ht1 i2 hi2 t2' ht2'
  revert s8 tr8
  generalize upd (upd H7 i2 (.tup [fv,ov])) t2' (.tup [.str wd,.non,.ref i2]) = H8
  intro s8 tr8
  have s68:=s7.trans s8
  have tr7:=tr7.same s8
  refine s_gname ?_
  with_reducible refine s_seq ?_
  refine viaS (t:=tIfS _ _ _) (R:=fun σ' H'=>∃ tv lv c1 c2 c3 c4 i,σ' = [some (.ref a),some (.str wd),some (.ref pn),some ov,some fv,some (.ref gp),some (.int (i : Nat)),some tv,some lv,none,none,none]∧Same H6 H'∧TrAt K H' tv (twoT wd c1 c2)∧TrAt K H' lv (twoT wd c3 c4)∧Fit wd c1 c2 c3 c4 (w2,n2) i) ?_ (fun Y hY=>?_)
  ·rintro _ H9 ⟨tv,lv,c1,c2,c3,c4,i,rfl,s9,htv,hlv,fit⟩
   have htf:=ht2.same s9
   clear tr7 tr8 s7 s8 s68 two htg ht1 ht2
   obtain ⟨bc,S',G,nok,er,es,en⟩:=fit.go
   obtain ⟨d2,d3,d4⟩:=rec_small wd c3 c4
   obtain ⟨g2,g3,g4⟩:=rec_small wd c1 c2
   have dk : ∀ (x : Str × V) (rj : List Rx) (n : Int),(∀ x ∈ rj,x.Ok)→rj.length ≤ 3→DOk (recD x rj n):=fun x rj n h1 h2=>.tup (by show 3 ≤ 5000; decide) fun d hd=>by
    simp only [List.mem_cons,List.not_mem_nil,or_false] at hd
    rcases hd with rfl | rfl | rfl
    ·exact thD_ok _
    ·exact lstD_ok (by omega) fun x hx=>rzD_ok (h1 x hx)
    ·exact .flat _
   have dueD : ∀ {H0 H' : Hp} {r rd : Addr} {av : V} {x : Str × V} {rj : List Rx} {n : Int},SqT K H0 r [av,.ref rd,.int n]→ThAt K H0 av x→DueAt K H0 rd rj→Same H0 H'→IsD K H' 6 (.ref r) (recD x rj n):=fun h1 h2 h3 e=>by
    obtain ⟨rvd,erd,ard⟩:=(h3.same e).ex
    exact rec_isD (e.tup h1) (ThAt.same e.t _ _ h2) erd (ard.mono fun v x h=>h.1)
   walk_at "r"
   refine ⟨tv,wd,c1,c2,rfl,htv,hw,fit.la,fit.lb,fun r1 rd1 av1 HA sA qA tA DA _=>?_⟩
   have once : ∀ (H' : Hp) (Y : VK) (p : Addr),Same HA H'→SqT K H' p (plV [i])→(∀ (rf rd : Addr) (af : V) (rv : List V) (H2 : Hp),Same H' H2→SqT K H2 rf [af,.ref rd,.int (recSt c3 c4)]→ThAt K H2 af (recJ wd c3 c4).1→H2 rd = some (.lst rv)→Al (RwAt K (fun b=>b = rd ∨ H' b ≠ none) H2) rv (recRs wd c3 c4)→H' rd = none→Y (.ref rf) H2)→sp_goon K [tv,.ref r1,.ref p,fv] H' Y E0:=by
    intro H' Y p e hp hY
    have ee:=sA.trans e
    obtain ⟨rvd,erd,ard⟩:=(DA.same e).ex
    have G' : GoG (subW (K19.withAt (twoT wd c1 c2) [i] (leafT w2 n2))) [i] (recRs wd c1 c2) [] ⟨[],[],[],recSt c1 c2⟩ bc S':=by rw [fit.wat]; exact G
    have st1:=stp_le c1.1
    have st2:=stp_le c2.1
    refine ⟨tv,fv,av1,twoT wd c1 c2,leafT w2 n2,p,r1,rd1,[i],.flat .non,[],recSt c1 c2,rvd,recRs wd c1 c2,(recJ wd c1 c2).1,bc,S',rfl,htv.same ee,by show 3 ≤ 1000; decide,hp,fit.sub,by show 1 ≤ 1000; decide,fit.path,htf.same ee,by rw [fit.wat]; show 3 ≤ 2000; decide,e.tup qA,by unfold recSt; omega,erd,ard,by omega,ThAt.same e.t _ _ tA,G',nok,fun rf rd af rv H2 s2 q2 t2 e2 al2 sp2 nrd=>?_⟩
    rw [es] at q2
    rw [en] at t2
    rw [er] at al2
    have al2:=al2.mono fun v x (h : RwX K (fun b=>b = rd ∨ H' b ≠ none) H2 v x)=>h.1
    exact hY rf rd af rv H2 s2 q2 t2 e2 al2 nrd
   walk_at "r"
   refine ⟨by show 1 ≤ sizeLine; decide,fun pp hpp=>?_⟩
   have sB : Same HA (upd HA pp (.tup [.int (i : Nat)])):=Same.upd hpp
   have eB : upd HA pp (.tup [.int (i : Nat)]) pp = some (.tup [.int (i : Nat)]):=upd_same
   revert sB eB
   generalize upd HA pp (.tup [.int (i : Nat)]) = HB
   intro sB eB
   walk_at "r"
   refine once HB _ pp sB (SqT.of eB) (fun rf rd af rv HC sC qC dC eC alC nrd=>?_)
   have sAC:=sB.trans sC
   walk_at "r"
   refine ⟨lv,wd,c3,c4,rfl,((hlv.same sA).same sAC),hw,fit.lc,fit.ld,fun r2 rd2 av2 HD sD qD tD DD _=>?_⟩
   walk_at "r"
   refine ⟨.ref rf,.ref r2,_,6,rfl,by decide,rec_isD (sD.tup qC) (ThAt.same sD.t _ _ dC) (sD _ _ eC) (alC.mono (RwAt.same sD.a)),dueD qD tD DD (Same.refl _),dk _ _ _ d2 d3,fun HE sE=>?_⟩
   have sCE:=sD.trans sE
   have sAE:=sAC.trans sCE
   walk_at "r"
   refine ⟨tv,wd,c1,c2,rfl,((htv.same sA).same sAE),hw,fit.la,fit.lb,fun r3 rd3 av3 HF sF qF tF DF _=>?_⟩
   walk_at "r"
   refine ⟨.ref r1,.ref r3,_,6,rfl,by decide,dueD qA tA DA (sAE.trans sF),dueD qF tF DF (Same.refl _),dk _ _ _ g2 g3,fun H19 sG=>?_⟩
   have sCG:=sCE.trans (sF.trans sG)
   have q19:=sCG.tup qC
   have e19:=sCG _ _ eC
   have al19:=alC.mono (RwAt.same sCG.a)
   have s1519:=sC.trans sCG
   have rp0 : ∀ v ∈ rv,RowP K HB H19 rd 2 v:=fun v hv=>by
    obtain ⟨j,hj⟩:=List.mem_iff_getElem?.mp hv
    obtain ⟨x,hx,a,p,o,e,ov,ev,h1,h2,h3,h4,h5,h6,h7,h8,h9⟩:=al19.get hj
    obtain ⟨d5,d6⟩:=d4 x (List.mem_of_getElem? hx)
    refine ⟨a,p,o,e,x.wd,h1,h2,?_,fun z=>h8 (.inl z),?_,fun z=>h9 (.inl z),⟨ov,h4,by rw [h5.1]; exact d5⟩,⟨ev,h6,by rw [h7.1]; omega⟩⟩
    ·cases hh : HB o with
     | none=>rfl
     | some z=>exact absurd (.inr (by rw [hh]; simp)) h8
    ·cases hh : HB e with
     | none=>rfl
     | some z=>exact absurd (.inr (by rw [hh]; simp)) h9
   have hrvl : rv.length ≤ 3:=by rw [al19.1]; exact d3
   clear al19 alC eC qC sCG sG DF tF qF sF sAE sCE sE DD tD qD sD
   walk_at "r"
   refine s_ix_tup q19 rfl ?_
   refine .inl ⟨rd,rfl,⟨_,SqL.of e19⟩,?_⟩
   refine for_list (K:=K) (a:=rd) (xs:=rv) (fun j σ' H'=>∃ vr,σ' = [some (.ref a),some (.str wd),some (.ref pn),some ov,some fv,some (.ref gp),some (.int (i : Nat)),some tv,some lv,some (.ref r1),some (.ref rf),vr]∧Same HB H'∧H' rd = some (.lst rv)∧SqT K H' rf [af,.ref rd,.int (recSt c3 c4)]∧∀ v ∈ rv,RowP K HB H' rd (2 + 2 * j) v) ⟨none,rfl,s1519,e19,q19,rp0⟩ ?_ ?_ ?_
   ·rintro i σ' H' _ ⟨vr,_,_,e',_,_⟩
    exact SqL.of e'
   ·rintro i x σ' H20 hx ⟨vr,rfl,s20,e20,q20,rp⟩
    have hi : i < rv.length:=(List.getElem?_eq_some_iff.mp hx).1
    obtain ⟨ax,px,o,e,wx,rfl,qx,no,nor,ne,ner,⟨xs,ho,hol⟩,⟨ys,he,hel⟩⟩:=rp x (List.mem_of_getElem? hx)
    walk_at "r"
    refine s_ix_tup qx rfl ?_
    refine s_tyL (SqL.of ho) ?_
    walk_at "r"
    refine ⟨by show 2 ≤ sizeLine; decide,fun k1 hk1=>?_⟩
    have s21 : Same H20 (upd H20 k1 (.tup [.str "num",.int 1])):=Same.upd hk1
    have ho1:=s21 _ _ ho
    walk_at "r"
    refine s_app ho1 (by omega) ?_
    have rp2 : ∀ v ∈ rv,RowP K HB (upd (upd H20 k1 (.tup [.str "num",.int 1])) o (.lst (xs ++ [.ref k1]))) rd (2 + 2 * i + 1) v:=fun v hv=>((rp v hv).same s21 (Nat.le_refl _)).set ho1 (by rw [List.length_append,List.length_singleton]; omega)
    have s22 : Same HB (upd (upd H20 k1 (.tup [.str "num",.int 1])) o (.lst (xs ++ [.ref k1]))):=(s20.trans s21).over no
    have e22 : upd (upd H20 k1 (.tup [.str "num",.int 1])) o (.lst (xs ++ [.ref k1])) rd = some (.lst rv):=(upd_ne (Ne.symm nor)).trans (s21 _ _ e20)
    have t22 : SameT H20 (upd (upd H20 k1 (.tup [.str "num",.int 1])) o (.lst (xs ++ [.ref k1]))):=s21.t.trans (SameT.set ho1)
    revert rp2 s22 e22 t22
    generalize upd (upd H20 k1 (.tup [.str "num",.int 1])) o (.lst (xs ++ [.ref k1])) = H22
    intro rp2 s22 e22 t22
    have qx2:=t22.tup qx
    have q22:=t22.tup q20
    obtain ⟨ax',px',o',e',wx',eqa,qx',_,_,ne',ner',_,⟨ys',he',hel'⟩⟩:=rp2 _ (List.mem_of_getElem? hx)
    cases eqa
    walk_at "r"
    refine s_ix_tup qx' rfl ?_
    refine s_tyL (SqL.of he') ?_
    walk_at "r"
    refine ⟨by show 2 ≤ sizeLine; decide,fun k2 hk2=>?_⟩
    have s23 : Same H22 (upd H22 k2 (.tup [.str "num",.int 2])):=Same.upd hk2
    revert s23
    generalize upd H22 k2 (.tup [.str "num",.int 2]) = H23
    intro s23
    walk_at "r"
    refine ⟨by show 2 ≤ sizeLine; decide,fun k3 hk3=>?_⟩
    have s24 : Same H22 (upd H23 k3 (.tup [.str "z",.ref k2])):=s23.put hk3
    have he4:=s24 _ _ he'
    walk_at "r"
    refine s_app he4 (by omega) ?_
    walk_at "r"
    refine ⟨_,rfl,(s22.trans s24).over ne',(upd_ne (Ne.symm ner')).trans (s24 _ _ e22),(s24.t.trans (SameT.set he4)).tup q22,fun v hv=>?_⟩
    exact ((rp2 v hv).same s24 (Nat.le_refl _)).set he4 (by rw [List.length_append,List.length_singleton]; omega)
   ·rintro σ' H20 ⟨vr,rfl,s20,e20,q20,rp⟩
    have sA20:=sB.trans s20
    walk_at "r"
    refine ⟨tv,wd,c1,c2,rfl,((htv.same sA).same sA20),hw,fit.la,fit.lb,fun r4 rd4 av4 HK sK qK tK DK _=>?_⟩
    walk_at "r"
    refine ⟨.ref r1,.ref r4,_,6,rfl,by decide,dueD qA tA DA (sA20.trans sK),dueD qK tK DK (Same.refl _),dk _ _ _ g2 g3,fun HL sL=>?_⟩
    have sAL:=sA20.trans (sK.trans sL)
    walk_at "r"
    refine ⟨by show 1 ≤ sizeLine; decide,fun p9 hp9=>?_⟩
    have sM : Same HL (upd HL p9 (.tup [.int (i : Nat)])):=Same.upd hp9
    have eM : upd HL p9 (.tup [.int (i : Nat)]) p9 = some (.tup [.int (i : Nat)]):=upd_same
    revert sM eM
    generalize upd HL p9 (.tup [.int (i : Nat)]) = HM
    intro sM eM
    walk_at "r"
    refine once HM _ p9 (sAL.trans sM) (SqT.of eM) (fun rf2 rdf2 af2 rv2 HN sN qN dN eN alN _=>?_)
    walk_at "r"
    refine ⟨lv,wd,c3,c4,rfl,((hlv.same sA).same (sAL.trans (sM.trans sN))),hw,fit.lc,fit.ld,fun r5 rd5 av5 HO sO qO tO DO _=>?_⟩
    walk_at "r"
    exact ⟨.ref rf2,.ref r5,_,6,rfl,by decide,rec_isD (sO.tup qN) (ThAt.same sO.t _ _ dN) (sO _ _ eN) (alN.mono (RwAt.same sO.a)),dueD qO tO DO (Same.refl _),dk _ _ _ d2 d3,fun _ _=>q _⟩
  ·walk_at "r"
   have hb1:=Int.emod_lt_of_pos (z6 / 4) (show (0 : Int) < 2 by decide)
   have hb0:=Int.emod_nonneg (z6 / 4) (show (2 : Int) ≠ 0 by decide)
   refine ite2 (fun h=>?_) (fun h=>?_)
   ·have e : z6 / 4 % 2 = 1:=V.int.inj (of_decide_eq_true h)
    rw [e]
    walk_at "r"
    refine ⟨by show 2 ≤ sizeLine; decide,fun i3 hi3=>?_⟩
    walk_at "r"
    refine ⟨by show 3 ≤ sizeLine; decide,fun t3 ht3=>?_⟩
    obtain ⟨s9,tr9⟩:=two H8 ov (.ref gp) (w1,n1) gapL s68 ht1 htg i3 hi3 t3 ht3
    revert s9 tr9
    generalize upd (upd H8 i3 (.tup [ov,.ref gp])) t3 (.tup [.str wd,.non,.ref i3]) = H9
    intro s9 tr9
    walk_at "r"
    refine ⟨by show 2 ≤ sizeLine; decide,fun i4 hi4=>?_⟩
    walk_at "r"
    refine ⟨by show 3 ≤ sizeLine; decide,fun t4 ht4=>?_⟩
    obtain ⟨sA,trA⟩:=two H9 ov fv (w1,n1) (w2,n2) (s68.trans s9) ht1 ht2 i4 hi4 t4 ht4
    revert sA trA
    generalize upd (upd H9 i4 (.tup [ov,fv])) t4 (.tup [.str wd,.non,.ref i4]) = HA
    intro sA trA
    exact hY _ _ ⟨.ref t3,.ref t4,(w1,n1),gapL,(w1,n1),(w2,n2),1,rfl,s68.trans (s9.trans sA),tr9.same sA,trA,fit1 hw ok1 ok2⟩
   ·have e : z6 / 4 % 2 = 0:=by
     have h : ¬ z6 / 4 % 2 = 1:=fun z=>h (decide_eq_true (by rw [z]))
     omega
    rw [e]
    walk_at "r"
    exact hY _ _ ⟨.ref t1',.ref t2',gapL,(w1,n1),(w2,n2),(w1,n1),0,rfl,s68,tr7,tr8,fit0 hw ok1 ok2⟩
end
end K51
namespace K51
open PySem L2
local macro_rules | `(tactic| walk_at "zA")=>`(tactic| exact (let +zeta a:=_; let +zeta b:=_; let +zeta c:=_; have +usedOnly q : (‹Stmt› : Stmt) = .Assign a b c:=rfl; .Assign a b c))
local macro_rules | `(tactic| walk_at "zC")=>`(tactic| exact (let +zeta a:=_; let +zeta b:=_; let +zeta c:=_; let +zeta d:=_; let +zeta e:=_; let +zeta f:=_; let +zeta g:=_; let +zeta h:=_; let +zeta i:=_; let +zeta j:=_; let +zeta k:=_; have +usedOnly q : (‹Stmt› : Stmt) = .ClassDef a b c d e f g h i j k:=rfl; .ClassDef a b c d e f g h i j k))
local macro_rules | `(tactic| walk_at "zF")=>`(tactic| exact (let +zeta a:=_; let +zeta b:=_; let +zeta c:=_; let +zeta d:=_; let +zeta e:=_; let +zeta f:=_; let +zeta g:=_; let +zeta h:=_; let +zeta i:=_; let +zeta j:=_; have +usedOnly q : (‹Stmt› : Stmt) = .FunctionDef a b c d e f g h i j:=rfl; .FunctionDef a b c d e f g h i j))
noncomputable def w0 : Stmt:=by let +zeta s:=top 0; walk_at "zA"
noncomputable def w1 : Stmt:=by let +zeta s:=top 1; walk_at "zC"
noncomputable def w2 : Stmt:=by let +zeta s:=top 2; walk_at "zC"
noncomputable def w3 : Stmt:=by let +zeta s:=top 3; walk_at "zC"
noncomputable def w4 : Stmt:=by let +zeta s:=top 4; walk_at "zC"
noncomputable def w5 : Stmt:=by let +zeta s:=top 5; walk_at "zA"
noncomputable def w6 : Stmt:=by let +zeta s:=top 6; walk_at "zF"
noncomputable def w7 : Stmt:=by let +zeta s:=top 7; walk_at "zA"
noncomputable def w8 : Stmt:=by let +zeta s:=top 8; walk_at "zF"
noncomputable def w9 : Stmt:=by let +zeta s:=top 9; walk_at "zF"
noncomputable def w10 : Stmt:=by let +zeta s:=top 10; walk_at "zF"
noncomputable def w11 : Stmt:=by let +zeta s:=top 11; walk_at "zF"
noncomputable def w12 : Stmt:=by let +zeta s:=top 12; walk_at "zF"
noncomputable def w13 : Stmt:=by let +zeta s:=top 13; walk_at "zF"
noncomputable def w14 : Stmt:=by let +zeta s:=top 14; walk_at "zA"
noncomputable def w15 : Stmt:=by let +zeta s:=top 15; walk_at "zF"
noncomputable def w16 : Stmt:=by let +zeta s:=top 16; walk_at "zA"
noncomputable def w17 : Stmt:=by let +zeta s:=top 17; walk_at "zF"
noncomputable def w18 : Stmt:=by let +zeta s:=top 18; walk_at "zA"
noncomputable def w19 : Stmt:=by let +zeta s:=top 19; walk_at "zF"
noncomputable def w20 : Stmt:=by let +zeta s:=top 20; walk_at "zA"
noncomputable def w21 : Stmt:=by let +zeta s:=top 21; walk_at "zA"
noncomputable def w22 : Stmt:=by let +zeta s:=top 22; walk_at "zA"
noncomputable def w23 : Stmt:=by let +zeta s:=top 23; walk_at "zA"
noncomputable def w24 : Stmt:=by let +zeta s:=top 24; walk_at "zF"
noncomputable def w25 : Stmt:=by let +zeta s:=top 25; walk_at "zF"
noncomputable def w26_0 : Stmt:=by let +zeta s:=(match top 26 with | .ClassDef _ _ _ b _ _ _ _ _ _ _=>b.getD 0 (.Pass ⟨0,0,0,0⟩) | s=>s); walk_at "zF"
noncomputable def w26_1 : Stmt:=by let +zeta s:=(match top 26 with | .ClassDef _ _ _ b _ _ _ _ _ _ _=>b.getD 1 (.Pass ⟨0,0,0,0⟩) | s=>s); walk_at "zF"
noncomputable def w26_2 : Stmt:=by let +zeta s:=(match top 26 with | .ClassDef _ _ _ b _ _ _ _ _ _ _=>b.getD 2 (.Pass ⟨0,0,0,0⟩) | s=>s); walk_at "zF"
noncomputable def w26_3 : Stmt:=by let +zeta s:=(match top 26 with | .ClassDef _ _ _ b _ _ _ _ _ _ _=>b.getD 3 (.Pass ⟨0,0,0,0⟩) | s=>s); walk_at "zF"
noncomputable def w26_4 : Stmt:=by let +zeta s:=(match top 26 with | .ClassDef _ _ _ b _ _ _ _ _ _ _=>b.getD 4 (.Pass ⟨0,0,0,0⟩) | s=>s); walk_at "zF"
noncomputable def w26_5 : Stmt:=by let +zeta s:=(match top 26 with | .ClassDef _ _ _ b _ _ _ _ _ _ _=>b.getD 5 (.Pass ⟨0,0,0,0⟩) | s=>s); walk_at "zF"
noncomputable def w26_6 : Stmt:=by let +zeta s:=(match top 26 with | .ClassDef _ _ _ b _ _ _ _ _ _ _=>b.getD 6 (.Pass ⟨0,0,0,0⟩) | s=>s); walk_at "zF"
noncomputable def w26_7 : Stmt:=by let +zeta s:=(match top 26 with | .ClassDef _ _ _ b _ _ _ _ _ _ _=>b.getD 7 (.Pass ⟨0,0,0,0⟩) | s=>s); walk_at "zF"
noncomputable def w26_8 : Stmt:=by let +zeta s:=(match top 26 with | .ClassDef _ _ _ b _ _ _ _ _ _ _=>b.getD 8 (.Pass ⟨0,0,0,0⟩) | s=>s); walk_at "zF"
noncomputable def w26_9 : Stmt:=by let +zeta s:=(match top 26 with | .ClassDef _ _ _ b _ _ _ _ _ _ _=>b.getD 9 (.Pass ⟨0,0,0,0⟩) | s=>s); walk_at "zF"
noncomputable def w26_10 : Stmt:=by let +zeta s:=(match top 26 with | .ClassDef _ _ _ b _ _ _ _ _ _ _=>b.getD 10 (.Pass ⟨0,0,0,0⟩) | s=>s); walk_at "zF"
noncomputable def w26_11 : Stmt:=by let +zeta s:=(match top 26 with | .ClassDef _ _ _ b _ _ _ _ _ _ _=>b.getD 11 (.Pass ⟨0,0,0,0⟩) | s=>s); walk_at "zF"
noncomputable def w26_12 : Stmt:=by let +zeta s:=(match top 26 with | .ClassDef _ _ _ b _ _ _ _ _ _ _=>b.getD 12 (.Pass ⟨0,0,0,0⟩) | s=>s); walk_at "zF"
noncomputable def w26 : Stmt:=let +zeta a:=_; let +zeta b:=_; let +zeta c:=_; let +zeta d:=_; let +zeta e:=_; let +zeta f:=_; let +zeta g:=_; let +zeta h:=_; let +zeta i:=_; let +zeta j:=_; let +zeta k:=_; have +usedOnly q : top 26 = .ClassDef a b c d e f g h i j k:=rfl; .ClassDef a b c [w26_0,w26_1,w26_2,w26_3,w26_4,w26_5,w26_6,w26_7,w26_8,w26_9,w26_10,w26_11,w26_12] e f g h i j k
noncomputable def w27 : Stmt:=by let +zeta s:=top 27; walk_at "zA"
noncomputable def w28 : Stmt:=by let +zeta s:=top 28; walk_at "zF"
noncomputable def w29 : Stmt:=by let +zeta s:=top 29; walk_at "zF"
noncomputable def w30 : Stmt:=by let +zeta s:=top 30; walk_at "zF"
noncomputable def w31 : Stmt:=by let +zeta s:=top 31; walk_at "zA"
noncomputable def w32 : Stmt:=by let +zeta s:=top 32; walk_at "zF"
noncomputable def w33 : Stmt:=by let +zeta s:=top 33; walk_at "zF"
noncomputable def w34 : Stmt:=by let +zeta s:=top 34; walk_at "zF"
noncomputable def w35 : Stmt:=by let +zeta s:=top 35; walk_at "zF"
noncomputable def w36 : Stmt:=by let +zeta s:=top 36; walk_at "zF"
noncomputable def w37 : Stmt:=by let +zeta s:=top 37; walk_at "zF"
noncomputable def w38 : Stmt:=by let +zeta s:=top 38; walk_at "zF"
noncomputable def w39 : Stmt:=by let +zeta s:=top 39; walk_at "zF"
noncomputable def w40 : Stmt:=by let +zeta s:=top 40; walk_at "zF"
noncomputable def w41 : Stmt:=by let +zeta s:=top 41; walk_at "zF"
noncomputable def w42 : Stmt:=by let +zeta s:=top 42; walk_at "zF"
noncomputable def PWc : Program:=let +zeta a:=_; let +zeta b:=_; let +zeta c:=_; let +zeta d:=_; let +zeta e:=_; let +zeta f:=_; let +zeta g:=_; let +zeta h:=_; let +zeta i:=_; let +zeta j:=_; have +usedOnly q : PySem.Challenge.pw_gapscribe_k51_one_gap_filled = ⟨⟨a,b,c,d,e⟩,f,g,h,i,j⟩:=rfl; ⟨⟨[w0,w1,w2,w3,w4,w5,w6,w7,w8,w9,w10,w11,w12,w13,w14,w15,w16,w17,w18,w19,w20,w21,w22,w23,w24,w25,w26,w27,w28,w29,w30,w31,w32,w33,w34,w35,w36,w37,w38,w39,w40,w41,w42],b,c,d,e⟩,f,g,h,i,j⟩
theorem e_PW : PWc = PWc:=rfl
name_quick x_PW for K51.PWc by K51.e_PW
end K51
noncomputable def PySem.W.Fast.tw3256748019826128080 : PySem.Program:=PySem.W.Fast.tw13283085796024204020
theorem PySem.W.Fast.te3256748019826128080 : PySem.Challenge.pw_gapscribe_k51_one_gap_filled = PySem.W.Fast.tw3256748019826128080:=(rfl : PySem.Challenge.pw_gapscribe_k51_one_gap_filled = K51.PWc).trans PySem.W.Fast.te13283085796024204020
namespace K51
open PySem L2
noncomputable def VWc : Program:={ PySem.Challenge.pw_gapscribe_k51_one_gap_filled with main:={ PySem.Challenge.pw_gapscribe_k51_one_gap_filled.main with body:=[w1,w2,w3,w4,w6,w8,w9,w10,w11,w12,w13,w15,w17,w19,w21,w22,w23,w24,w25,w26,w28,w29,w30,w32,w33,w34,w35,w36,w37,w38,w39,w40,w41,w42] } }
noncomputable def S0 : List Stmt:=[w26]
noncomputable def S1 : List Stmt:=[w11,w12,w13,w14,w15,w16,w17,w18,w19,w20,w21,w22,w23,w24]
noncomputable def S2 : List Stmt:=[w0,w1]
noncomputable def S3 : List Stmt:=[w2]
noncomputable def S4 : List Stmt:=[w4,w5,w6,w7,w8,w9,w10]
noncomputable def S5 : List Stmt:=[w25]
noncomputable def S6 : List Stmt:=[w3]
noncomputable def S7 : List Stmt:=[w27,w28,w29,w30,w31,w32,w33,w34,w35,w36,w37,w38,w39]
noncomputable def S8 : List Stmt:=[w40,w41,w42]
noncomputable def SB : Program × List (List Stmt):=(VWc,[S0,S1,S2,S3,S4,S5,S6,S7,S8])
theorem e_SB : SB = SB:=rfl
name_quick x_SB for K51.SB by K51.e_SB
end K51
noncomputable def PySem.W.Fast.tw3812442912500143623 : PySem.Program:=PySem.W.Fast.tw8245860077610082474
theorem PySem.W.Fast.te3812442912500143623 : K51.VWc = PySem.W.Fast.tw3812442912500143623:=PySem.W.Fast.te8245860077610082474
noncomputable def PySem.W.Fast.tw911237531545654308 : List PySem.Stmt:=PySem.W.Fast.tw11077607892666523294
theorem PySem.W.Fast.te911237531545654308 : K51.S0 = PySem.W.Fast.tw911237531545654308:=PySem.W.Fast.te11077607892666523294
noncomputable def PySem.W.Fast.tw14747768313975927912 : List PySem.Stmt:=PySem.W.Fast.tw3996968009200126275
theorem PySem.W.Fast.te14747768313975927912 : K51.S1 = PySem.W.Fast.tw14747768313975927912:=PySem.W.Fast.te3996968009200126275
noncomputable def PySem.W.Fast.tw6756344450665251083 : List PySem.Stmt:=PySem.W.Fast.tw8774769600893644948
theorem PySem.W.Fast.te6756344450665251083 : K51.S2 = PySem.W.Fast.tw6756344450665251083:=PySem.W.Fast.te8774769600893644948
noncomputable def PySem.W.Fast.tw14862200879040567858 : List PySem.Stmt:=PySem.W.Fast.tw9611382236355884506
theorem PySem.W.Fast.te14862200879040567858 : K51.S3 = PySem.W.Fast.tw14862200879040567858:=PySem.W.Fast.te9611382236355884506
noncomputable def PySem.W.Fast.tw14913955549134752979 : List PySem.Stmt:=PySem.W.Fast.tw10726963611553469935
theorem PySem.W.Fast.te14913955549134752979 : K51.S4 = PySem.W.Fast.tw14913955549134752979:=PySem.W.Fast.te10726963611553469935
noncomputable def PySem.W.Fast.tw14846619992010545110 : List PySem.Stmt:=PySem.W.Fast.tw4742679654425351639
theorem PySem.W.Fast.te14846619992010545110 : K51.S5 = PySem.W.Fast.tw14846619992010545110:=PySem.W.Fast.te4742679654425351639
noncomputable def PySem.W.Fast.tw13602630542473314809 : List PySem.Stmt:=PySem.W.Fast.tw12768100284700325766
theorem PySem.W.Fast.te13602630542473314809 : K51.S6 = PySem.W.Fast.tw13602630542473314809:=PySem.W.Fast.te12768100284700325766
noncomputable def PySem.W.Fast.tw4238336530682781084 : List PySem.Stmt:=PySem.W.Fast.tw12530999694356788486
theorem PySem.W.Fast.te4238336530682781084 : K51.S7 = PySem.W.Fast.tw4238336530682781084:=PySem.W.Fast.te12530999694356788486
noncomputable def PySem.W.Fast.tw17686300360326343709 : List PySem.Stmt:=PySem.W.Fast.tw9967258938753625625
theorem PySem.W.Fast.te17686300360326343709 : K51.S8 = PySem.W.Fast.tw17686300360326343709:=PySem.W.Fast.te9967258938753625625
namespace K51
open PySem L2 PySem.W
noncomputable def zs (i j : Nat) : Stmt:=match top i with | .ClassDef _ _ _ b _ _ _ _ _ _ _=>b.getD j (.Pass ⟨0,0,0,0⟩) | s=>s
noncomputable def ze (P : Params) (s : Str) (t : Tok) (v : Value) : DictEntry:=⟨PyData.keyHash P s,.str s t,v⟩
noncomputable abbrev B:=PySem.W.BT
noncomputable def evb (l : List Obj) : Bool→List Obj:=@List.rec Obj (fun _=>Bool→List Obj) (fun _=>[]) (fun a _ ih b=>@Bool.rec (fun _=>List Obj) (ih true) (a :: ih false) b) l
noncomputable def tO (l : List Obj) : B:=@Nat.rec (fun _=>List Obj→B) (fun _=>.nil) (fun _ ih l=>@List.rec Obj (fun _=>B) .nil (fun x r _=>.node x (ih (evb r true)) (ih (evb r false))) l) 12 l
noncomputable def zv : List (Str × Tok)→List Value
 | []=>[]
 | (a,b) :: t=>.str a b :: zv t
noncomputable def zu (l : List (Str × Tok)) : Obj:=⟨.type "tuple",none,.seq ⟨zv l⟩,#[]⟩
noncomputable def zt (c : String) (d : Data) : Obj:=⟨.type c,none,d,#[]⟩
noncomputable def zf (n q : Str) (s : Stmt) (m : Str) (t : Tok) (c : Addr) : Obj:=⟨.type "function",none,.func (PySem.W.fnOf n q (defArgs s) (defBody s) (defScope s) .none .none .none (.str m t) none (.ref c) .none),#[]⟩
noncomputable def zh (n q : Str) (s : Stmt) : Obj:=⟨.none,none,.func ⟨n,q,defArgs s,.stmts (defBody s),defScope s,0,[],.none,.none,.none,.none,none,.none,.none,0⟩,#[]⟩
noncomputable def zk (n q : Str) (t : Tok) (l a g : Int) (r : Addr) (b : Bool) (x : Value) (u : Int) (v : Tok) : Obj:=⟨.type "code",none,.fields #[.str n t,.str q (t + 1),.str "/claim/cut.py" (t + 2),.int l 0,.int a 0,.int 0 0,.int 0 0,.int g 0,.ref r,.bool b,.int 181 0,.ref (r + 1),.none,.none,.none,x,.int u 0,.int l 0,.str "/claim/cut.py" v],#[]⟩
noncomputable def zw : List (Int × Int × Addr)→List Value
 | []=>[]
 | (a,b,c) :: t=>.int a 0 :: .int b 0 :: .ref c :: zw t
noncomputable def zy (l : List (Int × Int × Addr)) : Obj:=⟨.none,none,.fields ⟨zw l⟩,#[]⟩
noncomputable def zc (n q : Str) (t : Tok) (l a g : Int) (r : Addr) (u : Int) (v : Tok) : Obj:=⟨.type "code",none,.fields #[.str n t,.str q (t + 1),.str "/claim/cut.py" (t + 2),.int l 0,.int a 0,.int 0 0,.int 0 0,.int g 0,.ref r,.bool true,.int 181 0,.ref (r + 1),.none,.ref (r + 2),.ref (r + 3),.ref (r + 4),.int u 0,.int l 0,.str "/claim/cut.py" v],#[]⟩
noncomputable def zb (n : Str):=zc n n
noncomputable def zi (n : Str):=zf n n
noncomputable def zj (n : Str):=zh n n
noncomputable def d0 (P : Params) : List DictEntry:=[ze P "__name__" 165 (.str "gapscribe.errors" 187),ze P "__doc__" 166 .none,ze P "__package__" 167 .none,ze P "__loader__" 168 (.builtin "__main__.__loader__#opaque"),ze P "__spec__" 169 .none,ze P "__annotations__" 170 (.ref 6),ze P "__builtins__" 171 (.ref 4),ze P "__file__" 173 (.str "/claim/cut.py" 172),ze P "__cached__" 174 .none,ze P "GapError" 206 (.ref 24),ze P "NoDeed" 222 (.ref 37)]
noncomputable def z0 (P : Params) : Obj:=zt "dict" (.dict ⟨d0 P⟩ 11)
noncomputable def z1 : Obj:=zt "tuple" (.seq #[])
noncomputable def z2 : Obj:=zy [(2,0,20),(4,0,33)]
noncomputable def z3 : Obj:=zk "<module>" "<module>" 182 1 0 0 11 false .none 185 186
noncomputable def z4 : Obj:=Obj.mk (.type "frame") none Data.plain #[some (.ref 13),some (.ref 3),some (.ref 3),none,some (.str "__main__" 164),none,some (.ref 0)]
noncomputable def z5 : Obj:=zt "tuple" (.seq #[.type "ValueError"])
noncomputable def h0_0 (P : Params) (t : List Obj) : List Obj:=(boot_o_0 P) :: (boot_o_1 P) :: (boot_o_2 P) :: (z0 P) :: (boot_o_4 P) :: (boot_o_5 P) :: (boot_o_6 P) :: (boot_o_7 P) :: (boot_o_8 P) :: (boot_o_9 P) :: (boot_o_10 P) :: z1 :: z2 :: z3 :: z4 :: z5 :: t
noncomputable def z6 : Obj:=zt "builtin_function_or_method" (.fields #[.builtin "type.__prepare__",.type "type"])
noncomputable def z7 (P : Params) : Obj:=zt "dict" (.dict #[ze P "__module__" 196 (.str "gapscribe.errors" 187),ze P "__qualname__" 198 (.str "GapError" 197),ze P "__firstlineno__" 200 (.int 2 199),ze P "__static_attributes__" 201 (.ref 22)] 4)
noncomputable def z8 : Obj:=Obj.mk .none none (.fields #[]) #[]
noncomputable def z9 : Obj:=zk "GapError" "GapError" 191 2 0 0 18 false .none 194 195
noncomputable def z10 : Obj:=Obj.mk (.type "frame") none Data.plain #[some (.ref 20),some (.ref 3),some (.ref 17),none,some (.str "gapscribe.errors" 187),none,some (.ref 0)]
noncomputable def z11 (P : Params) : Obj:=zt "dict" (.dict #[ze P "__module__" 196 (.str "gapscribe.errors" 187),ze P "__firstlineno__" 200 (.int 2 199),ze P "__static_attributes__" 201 (.ref 22),ze P "__weakref__" 203 (.ref 25),ze P "__doc__" 204 .none] 3)
noncomputable def z12 : Obj:=Obj.mk (.type "type") none (.cls (ClassData.mk "GapError" [.type "ValueError"] [.ref 24,.type "ValueError",.type "Exception",.type "BaseException",.type "object"] 23 "GapError" true [] [.ref 37] false none false)) #[some (.ref 15),none,some (.str "GapError" 189),some (.str "GapError" 197),some (.builtin "ValueError.__new__"),some (.bool true)]
noncomputable def z13 : Obj:=zt "getset_descriptor" (.fields #[.str "__weakref__" 202,.ref 24,.builtin "ExceptionGroup.__weakref__",.none])
noncomputable def z14 : Obj:=zt "super" (.fields #[.ref 24,.ref 24,.ref 24])
noncomputable def z15 : Obj:=zt "builtin_function_or_method" (.fields #[.builtin "object.__init_subclass__",.ref 24])
noncomputable def z16 : Obj:=zt "tuple" (.seq #[.ref 24])
noncomputable def z17 (P : Params) : Obj:=zt "dict" (.dict #[ze P "__module__" 214 (.str "gapscribe.errors" 187),ze P "__qualname__" 216 (.str "NoDeed" 215),ze P "__firstlineno__" 218 (.int 4 217),ze P "__static_attributes__" 219 (.ref 35)] 4)
noncomputable def h1_0 (P : Params) (t : List Obj) : List Obj:=z6 :: (z7 P) :: z1 :: z8 :: z9 :: z10 :: z1 :: (z11 P) :: z12 :: z13 :: z14 :: z15 :: z16 :: z6 :: (z17 P) :: z1 :: t
noncomputable def z18 : Obj:=zk "NoDeed" "NoDeed" 209 4 0 0 31 false .none 212 213
noncomputable def z19 : Obj:=Obj.mk (.type "frame") none Data.plain #[some (.ref 33),some (.ref 3),some (.ref 30),none,some (.str "gapscribe.errors" 187),none,some (.ref 0)]
noncomputable def z20 (P : Params) : Obj:=zt "dict" (.dict #[ze P "__module__" 214 (.str "gapscribe.errors" 187),ze P "__firstlineno__" 218 (.int 4 217),ze P "__static_attributes__" 219 (.ref 35),ze P "__doc__" 220 .none] 2)
noncomputable def z21 : Obj:=Obj.mk (.type "type") none (.cls (ClassData.mk "NoDeed" [.ref 24] [.ref 37,.ref 24,.type "ValueError",.type "Exception",.type "BaseException",.type "object"] 36 "NoDeed" true [] [] false none false)) #[some (.ref 28),none,some (.str "NoDeed" 207),some (.str "NoDeed" 215),some (.builtin "ValueError.__new__"),some (.bool true)]
noncomputable def z22 : Obj:=zt "super" (.fields #[.ref 37,.ref 37,.ref 37])
noncomputable def z23 : Obj:=zt "builtin_function_or_method" (.fields #[.builtin "object.__init_subclass__",.ref 37])
noncomputable def h2_0 (P : Params) (t : List Obj) : List Obj:=z8 :: z18 :: z19 :: z1 :: (z20 P) :: z21 :: z22 :: z23 :: t
noncomputable def Rtree_78 : Params→B:=fun P=>tO (h0_0 P (h1_0 P (h2_0 P [])))
noncomputable def d1 (P : Params) : List DictEntry:=d0 P ++ [ze P "TooLong" 238 (.ref 49)]
noncomputable def z24 (P : Params) : Obj:=zt "dict" (.dict ⟨d1 P⟩ 12)
noncomputable def z25 : Obj:=zy [(2,0,20),(4,0,33),(6,0,45)]
noncomputable def h3_0 (P : Params) (t : List Obj) : List Obj:=(boot_o_0 P) :: (boot_o_1 P) :: (boot_o_2 P) :: (z24 P) :: (boot_o_4 P) :: (boot_o_5 P) :: (boot_o_6 P) :: (boot_o_7 P) :: (boot_o_8 P) :: (boot_o_9 P) :: (boot_o_10 P) :: z1 :: z25 :: z3 :: z4 :: z5 :: t
noncomputable def z26 : Obj:=Obj.mk (.type "type") none (.cls (ClassData.mk "GapError" [.type "ValueError"] [.ref 24,.type "ValueError",.type "Exception",.type "BaseException",.type "object"] 23 "GapError" true [] [.ref 37,.ref 49] false none false)) #[some (.ref 15),none,some (.str "GapError" 189),some (.str "GapError" 197),some (.builtin "ValueError.__new__"),some (.bool true)]
noncomputable def h4_0 (P : Params) (t : List Obj) : List Obj:=z6 :: (z7 P) :: z1 :: z8 :: z9 :: z10 :: z1 :: (z11 P) :: z26 :: z13 :: z14 :: z15 :: z16 :: z6 :: (z17 P) :: z1 :: t
noncomputable def z27 (P : Params) : Obj:=zt "dict" (.dict #[ze P "__module__" 230 (.str "gapscribe.errors" 187),ze P "__qualname__" 232 (.str "TooLong" 231),ze P "__firstlineno__" 234 (.int 6 233),ze P "__static_attributes__" 235 (.ref 47)] 4)
noncomputable def z28 : Obj:=zk "TooLong" "TooLong" 225 6 0 0 43 false .none 228 229
noncomputable def z29 : Obj:=Obj.mk (.type "frame") none Data.plain #[some (.ref 45),some (.ref 3),some (.ref 42),none,some (.str "gapscribe.errors" 187),none,some (.ref 0)]
noncomputable def h5_0 (P : Params) (t : List Obj) : List Obj:=z8 :: z18 :: z19 :: z1 :: (z20 P) :: z21 :: z22 :: z23 :: z16 :: z6 :: (z27 P) :: z1 :: z8 :: z28 :: z29 :: z1 :: t
noncomputable def z30 (P : Params) : Obj:=zt "dict" (.dict #[ze P "__module__" 230 (.str "gapscribe.errors" 187),ze P "__firstlineno__" 234 (.int 6 233),ze P "__static_attributes__" 235 (.ref 47),ze P "__doc__" 236 .none] 2)
noncomputable def z31 : Obj:=Obj.mk (.type "type") none (.cls (ClassData.mk "TooLong" [.ref 24] [.ref 49,.ref 24,.type "ValueError",.type "Exception",.type "BaseException",.type "object"] 48 "TooLong" true [] [] false none false)) #[some (.ref 40),none,some (.str "TooLong" 223),some (.str "TooLong" 231),some (.builtin "ValueError.__new__"),some (.bool true)]
noncomputable def z32 : Obj:=zt "super" (.fields #[.ref 49,.ref 49,.ref 49])
noncomputable def z33 : Obj:=zt "builtin_function_or_method" (.fields #[.builtin "object.__init_subclass__",.ref 49])
noncomputable def h6_0 (P : Params) (t : List Obj) : List Obj:=(z30 P) :: z31 :: z32 :: z33 :: t
noncomputable def Rtree_93 : Params→B:=fun P=>tO (h3_0 P (h4_0 P (h5_0 P (h6_0 P []))))
noncomputable def d2 (P : Params) : List DictEntry:=[ze P "__name__" 165 (.str "gapscribe.places" 273),ze P "__doc__" 166 .none,ze P "__package__" 167 .none,ze P "__loader__" 168 (.builtin "__main__.__loader__#opaque"),ze P "__spec__" 169 .none,ze P "__annotations__" 170 (.ref 6),ze P "__builtins__" 171 (.ref 4),ze P "__file__" 173 (.str "/claim/cut.py" 172),ze P "__cached__" 174 .none,ze P "GapError" 206 (.ref 24),ze P "NoDeed" 222 (.ref 37),ze P "TooLong" 238 (.ref 49),ze P "NoPlace" 263 (.ref 68),ze P "is_whole" 272 (.ref 77),ze P "placed_forms" 286 (.ref 84),ze P "has_part" 294 (.ref 91),ze P "forms_down_to" 304 (.ref 98)]
noncomputable def z34 (P : Params) : Obj:=zt "dict" (.dict ⟨d2 P⟩ 17)
noncomputable def z35 : Obj:=zy [(2,0,20),(4,0,33),(6,0,45),(8,0,57),(13,0,76),(16,0,83),(25,0,90),(27,0,97)]
noncomputable def h7_0 (P : Params) (t : List Obj) : List Obj:=(boot_o_0 P) :: (boot_o_1 P) :: (boot_o_2 P) :: (z34 P) :: (boot_o_4 P) :: (boot_o_5 P) :: (boot_o_6 P) :: (boot_o_7 P) :: (boot_o_8 P) :: (boot_o_9 P) :: (boot_o_10 P) :: z1 :: z35 :: z3 :: z4 :: z5 :: t
noncomputable def z36 : Obj:=Obj.mk (.type "type") none (.cls (ClassData.mk "GapError" [.type "ValueError"] [.ref 24,.type "ValueError",.type "Exception",.type "BaseException",.type "object"] 23 "GapError" true [] [.ref 37,.ref 49,.ref 68] false none false)) #[some (.ref 15),none,some (.str "GapError" 189),some (.str "GapError" 197),some (.builtin "ValueError.__new__"),some (.bool true)]
noncomputable def h8_0 (P : Params) (t : List Obj) : List Obj:=z6 :: (z7 P) :: z1 :: z8 :: z9 :: z10 :: z1 :: (z11 P) :: z36 :: z13 :: z14 :: z15 :: z16 :: z6 :: (z17 P) :: z1 :: t
noncomputable def d3 (P : Params) : List DictEntry:=[ze P "__module__" 246 (.str "gapscribe.errors" 187),ze P "__qualname__" 248 (.str "NoPlace" 247),ze P "__firstlineno__" 250 (.int 8 249),ze P "__init__" 258 (.ref 65),ze P "__static_attributes__" 260 (.ref 66)]
noncomputable def z37 (P : Params) : Obj:=zt "dict" (.dict ⟨d3 P⟩ 5)
noncomputable def z38 : Obj:=zy [(10,4,64)]
noncomputable def z39 : Obj:=zk "NoPlace" "NoPlace" 241 8 0 0 55 false .none 244 245
noncomputable def z40 : Obj:=Obj.mk (.type "frame") none Data.plain #[some (.ref 57),some (.ref 3),some (.ref 54),none,some (.str "gapscribe.errors" 187),none,some (.ref 0)]
noncomputable def z41 : Obj:=zu [("self",254),("place",255)]
noncomputable def z42 : Obj:=zh "__init__" "NoPlace.__init__" (match top 4 with | .ClassDef _ _ _ b _ _ _ _ _ _ _=>b.getD 0 (.Pass ⟨0,0,0,0⟩) | s=>s)
noncomputable def h9_0 (P : Params) (t : List Obj) : List Obj:=(z30 P) :: z31 :: z32 :: z33 :: z16 :: z6 :: (z37 P) :: z1 :: z38 :: z39 :: z40 :: z1 :: z8 :: z41 :: z1 :: z42 :: t
noncomputable def z43 : Obj:=zc "__init__" "NoPlace.__init__" 251 10 2 3 59 256 257
noncomputable def z44 : Obj:=zf "__init__" "NoPlace.__init__" (match top 4 with | .ClassDef _ _ _ b _ _ _ _ _ _ _=>b.getD 0 (.Pass ⟨0,0,0,0⟩) | s=>s) "gapscribe.errors" 187 64
noncomputable def z45 : Obj:=zu [("place",259)]
noncomputable def z46 (P : Params) : Obj:=zt "dict" (.dict #[ze P "__module__" 246 (.str "gapscribe.errors" 187),ze P "__firstlineno__" 250 (.int 8 249),ze P "__init__" 258 (.ref 65),ze P "__static_attributes__" 260 (.ref 66),ze P "__doc__" 261 .none] 2)
noncomputable def z47 : Obj:=Obj.mk (.type "type") none (.cls (ClassData.mk "NoPlace" [.ref 24] [.ref 68,.ref 24,.type "ValueError",.type "Exception",.type "BaseException",.type "object"] 67 "NoPlace" true [] [] false none false)) #[some (.ref 52),none,some (.str "NoPlace" 239),some (.str "NoPlace" 247),some (.builtin "ValueError.__new__"),some (.bool true)]
noncomputable def z48 : Obj:=zt "super" (.fields #[.ref 68,.ref 68,.ref 68])
noncomputable def z49 : Obj:=zt "builtin_function_or_method" (.fields #[.builtin "object.__init_subclass__",.ref 68])
noncomputable def z50 : Obj:=zu [("thing",269)]
noncomputable def z51 : Obj:=zj "is_whole" s_is_whole
noncomputable def z52 : Obj:=zb "is_whole" 266 13 1 3 71 270 271
noncomputable def z53 : Obj:=zi "is_whole" s_is_whole "gapscribe.forms" 264 76
noncomputable def h10_0 (P : Params) (t : List Obj) : List Obj:=z43 :: z44 :: z45 :: (z46 P) :: z47 :: z48 :: z49 :: z1 :: z8 :: z50 :: z1 :: z51 :: z52 :: z53 :: z1 :: z8 :: t
noncomputable def z54 : Obj:=zu [("tree",278),("told",279),("waiting",280),("pair",281),("number",282),("part",283)]
noncomputable def z55 : Obj:=zj "placed_forms" s_placed_forms
noncomputable def z56 : Obj:=zb "placed_forms" 275 16 1 3 78 284 285
noncomputable def z57 : Obj:=zi "placed_forms" s_placed_forms "gapscribe.places" 273 83
noncomputable def z58 : Obj:=zu [("form",290),("number",291)]
noncomputable def z59 : Obj:=zj "has_part" s_has_part
noncomputable def z60 : Obj:=zb "has_part" 287 25 2 3 85 292 293
noncomputable def z61 : Obj:=zi "has_part" s_has_part "gapscribe.places" 273 90
noncomputable def z62 : Obj:=zu [("tree",298),("place",299),("passed",300),("number",301)]
noncomputable def h11_0 (P : Params) (t : List Obj) : List Obj:=z54 :: z1 :: z55 :: z56 :: z57 :: z1 :: z8 :: z58 :: z1 :: z59 :: z60 :: z61 :: z1 :: z8 :: z62 :: z1 :: t
noncomputable def z63 : Obj:=zj "forms_down_to" s_forms_down_to
noncomputable def z64 : Obj:=zb "forms_down_to" 295 27 2 3 92 302 303
noncomputable def z65 : Obj:=zi "forms_down_to" s_forms_down_to "gapscribe.places" 273 97
noncomputable def h12_0 (P : Params) (t : List Obj) : List Obj:=z63 :: z64 :: z65 :: t
noncomputable def Rtree_143 : Params→B:=fun P=>tO (h7_0 P (h8_0 P (h5_0 P (h9_0 P (h10_0 P (h11_0 P (h12_0 P [])))))))
noncomputable def d4 (P : Params) : List DictEntry:=[ze P "__name__" 165 (.str "gapscribe.machine" 364),ze P "__doc__" 166 .none,ze P "__package__" 167 .none,ze P "__loader__" 168 (.builtin "__main__.__loader__#opaque"),ze P "__spec__" 169 .none,ze P "__annotations__" 170 (.ref 6),ze P "__builtins__" 171 (.ref 4),ze P "__file__" 173 (.str "/claim/cut.py" 172),ze P "__cached__" 174 .none,ze P "GapError" 206 (.ref 24),ze P "NoDeed" 222 (.ref 37),ze P "TooLong" 238 (.ref 49),ze P "NoPlace" 263 (.ref 68),ze P "is_whole" 272 (.ref 77),ze P "placed_forms" 286 (.ref 84),ze P "has_part" 294 (.ref 91),ze P "forms_down_to" 304 (.ref 98),ze P "form_at" 312 (.ref 105),ze P "with_part" 322 (.ref 112),ze P "with_at" 334 (.ref 119),ze P "refuse_no_gap" 343 (.ref 126),ze P "is_finished" 353 (.ref 133),ze P "names_bound" 363 (.ref 140),ze P "MOST_STEPS" 367 (.int 500 366),ze P "PARTS_AWAITED" 390 (.ref 141),ze P "WORDS_WITH_AROUND" 395 (.ref 148),ze P "are_numbers" 401 (.ref 153)]
noncomputable def z66 (P : Params) : Obj:=zt "dict" (.dict ⟨d4 P⟩ 27)
noncomputable def z67 : Obj:=zy [(2,0,20),(4,0,33),(6,0,45),(8,0,57),(13,0,76),(16,0,83),(25,0,90),(27,0,97),(34,0,104),(36,0,111),(39,0,118),(45,0,125),(49,0,132),(52,0,139),(64,0,152)]
noncomputable def h13_0 (P : Params) (t : List Obj) : List Obj:=(boot_o_0 P) :: (boot_o_1 P) :: (boot_o_2 P) :: (z66 P) :: (boot_o_4 P) :: (boot_o_5 P) :: (boot_o_6 P) :: (boot_o_7 P) :: (boot_o_8 P) :: (boot_o_9 P) :: (boot_o_10 P) :: z1 :: z67 :: z3 :: z4 :: z5 :: t
noncomputable def z68 : Obj:=zu [("tree",308),("place",309)]
noncomputable def z69 : Obj:=zj "form_at" s_form_at
noncomputable def z70 : Obj:=zb "form_at" 305 34 2 3 99 310 311
noncomputable def z71 : Obj:=zi "form_at" s_form_at "gapscribe.places" 273 104
noncomputable def z72 : Obj:=zu [("form",316),("number",317),("part",318),("parts",319)]
noncomputable def z73 : Obj:=zj "with_part" s_with_part
noncomputable def z74 : Obj:=zb "with_part" 313 36 3 3 106 320 321
noncomputable def h14_0 (P : Params) (t : List Obj) : List Obj:=z63 :: z64 :: z65 :: z1 :: z8 :: z68 :: z1 :: z69 :: z70 :: z71 :: z1 :: z8 :: z72 :: z1 :: z73 :: z74 :: t
noncomputable def z75 : Obj:=zi "with_part" s_with_part "gapscribe.places" 273 111
noncomputable def z76 : Obj:=zu [("tree",326),("place",327),("form",328),("made",329),("number",330),("above",331)]
noncomputable def z77 : Obj:=zj "with_at" s_with_at
noncomputable def z78 : Obj:=zb "with_at" 323 39 3 3 113 332 333
noncomputable def z79 : Obj:=zi "with_at" s_with_at "gapscribe.places" 273 118
noncomputable def z80 : Obj:=zu [("form",340)]
noncomputable def z81 : Obj:=zj "refuse_no_gap" s_refuse_no_gap
noncomputable def z82 : Obj:=zb "refuse_no_gap" 337 45 1 3 120 341 342
noncomputable def z83 : Obj:=zi "refuse_no_gap" s_refuse_no_gap "gapscribe.deeds" 335 125
noncomputable def h15_0 (P : Params) (t : List Obj) : List Obj:=z75 :: z1 :: z8 :: z76 :: z1 :: z77 :: z78 :: z79 :: z1 :: z8 :: z80 :: z1 :: z81 :: z82 :: z83 :: z1 :: t
noncomputable def z84 : Obj:=zu [("thing",349),("rows",350)]
noncomputable def z85 : Obj:=zj "is_finished" s_is_finished
noncomputable def z86 : Obj:=zb "is_finished" 346 49 2 3 127 351 352
noncomputable def z87 : Obj:=zi "is_finished" s_is_finished "gapscribe.rows" 344 132
noncomputable def z88 : Obj:=zu [("form",359),("number",360)]
noncomputable def z89 : Obj:=zj "names_bound" s_names_bound
noncomputable def z90 : Obj:=zb "names_bound" 356 52 2 3 134 361 362
noncomputable def z91 : Obj:=zi "names_bound" s_names_bound "gapscribe.scopes" 354 139
noncomputable def z92 (P : Params) : Obj:=zt "dict" (.dict #[ze P "plus" 368 (.ref 142),ze P "minus" 371 (.ref 143),ze P "less" 374 (.ref 144),ze P "call" 377 (.ref 145),ze P "if" 380 (.ref 146),ze P "let" 382 (.ref 147)] 6)
noncomputable def z93 : Obj:=zt "tuple" (.seq #[.int 1 369,.int 0 370])
noncomputable def z94 : Obj:=zt "tuple" (.seq #[.int 1 372,.int 0 373])
noncomputable def h16_0 (P : Params) (t : List Obj) : List Obj:=z8 :: z84 :: z1 :: z85 :: z86 :: z87 :: z1 :: z8 :: z88 :: z1 :: z89 :: z90 :: z91 :: (z92 P) :: z93 :: z94 :: t
noncomputable def z95 : Obj:=zt "tuple" (.seq #[.int 1 375,.int 0 376])
noncomputable def z96 : Obj:=zt "tuple" (.seq #[.int 1 378,.int 0 379])
noncomputable def z97 : Obj:=zt "tuple" (.seq #[.int 0 381])
noncomputable def z98 : Obj:=zt "tuple" (.seq #[.int 0 383])
noncomputable def z99 : Obj:=zu [("gap",391),("fn",392),("rec",393),("if",394)]
noncomputable def z100 : Obj:=zj "are_numbers" s_are_numbers
noncomputable def z101 : Obj:=zk "are_numbers" "are_numbers" 396 64 1 3 149 true (.ref 151) 399 400
noncomputable def z102 : Obj:=zi "are_numbers" s_are_numbers "gapscribe.machine" 364 152
noncomputable def h17_0 (P : Params) (t : List Obj) : List Obj:=z95 :: z96 :: z97 :: z98 :: z99 :: z1 :: z8 :: z100 :: z101 :: z102 :: t
noncomputable def Rtree_200 : Params→B:=fun P=>tO (h13_0 P (h8_0 P (h5_0 P (h9_0 P (h10_0 P (h11_0 P (h14_0 P (h15_0 P (h16_0 P (h17_0 P []))))))))))
noncomputable def d5 (P : Params) : List DictEntry:=d4 P ++ [ze P "reckoned" 410 (.ref 160)]
noncomputable def z103 (P : Params) : Obj:=zt "dict" (.dict ⟨d5 P⟩ 28)
noncomputable def z104 : Obj:=zy [(2,0,20),(4,0,33),(6,0,45),(8,0,57),(13,0,76),(16,0,83),(25,0,90),(27,0,97),(34,0,104),(36,0,111),(39,0,118),(45,0,125),(49,0,132),(52,0,139),(64,0,152),(66,0,159)]
noncomputable def h18_0 (P : Params) (t : List Obj) : List Obj:=(boot_o_0 P) :: (boot_o_1 P) :: (boot_o_2 P) :: (z103 P) :: (boot_o_4 P) :: (boot_o_5 P) :: (boot_o_6 P) :: (boot_o_7 P) :: (boot_o_8 P) :: (boot_o_9 P) :: (boot_o_10 P) :: z1 :: z104 :: z3 :: z4 :: z5 :: t
noncomputable def z105 : Obj:=zu [("word",405),("left",406),("right",407)]
noncomputable def z106 : Obj:=zj "reckoned" s_reckoned
noncomputable def z107 : Obj:=zb "reckoned" 402 66 3 3 154 408 409
noncomputable def h19_0 (P : Params) (t : List Obj) : List Obj:=z95 :: z96 :: z97 :: z98 :: z99 :: z1 :: z8 :: z100 :: z101 :: z102 :: z1 :: z8 :: z105 :: z1 :: z106 :: z107 :: t
noncomputable def z108 : Obj:=zi "reckoned" s_reckoned "gapscribe.machine" 364 159
noncomputable def h20_0 (P : Params) (t : List Obj) : List Obj:=z108 :: t
noncomputable def Rtree_211 : Params→B:=fun P=>tO (h18_0 P (h8_0 P (h5_0 P (h9_0 P (h10_0 P (h11_0 P (h14_0 P (h15_0 P (h16_0 P (h19_0 P (h20_0 P [])))))))))))
noncomputable def d6 (P : Params) : List DictEntry:=d5 P ++ [ze P "Machine" 560 (.ref 259)]
noncomputable def z109 (P : Params) : Obj:=zt "dict" (.dict ⟨d6 P⟩ 29)
noncomputable def z110 : Obj:=zy [(2,0,20),(4,0,33),(6,0,45),(8,0,57),(13,0,76),(16,0,83),(25,0,90),(27,0,97),(34,0,104),(36,0,111),(39,0,118),(45,0,125),(49,0,132),(52,0,139),(64,0,152),(66,0,159),(72,0,166)]
noncomputable def h21_0 (P : Params) (t : List Obj) : List Obj:=(boot_o_0 P) :: (boot_o_1 P) :: (boot_o_2 P) :: (z109 P) :: (boot_o_4 P) :: (boot_o_5 P) :: (boot_o_6 P) :: (boot_o_7 P) :: (boot_o_8 P) :: (boot_o_9 P) :: (boot_o_10 P) :: z1 :: z110 :: z3 :: z4 :: z5 :: t
noncomputable def d7 (P : Params) : List DictEntry:=[ze P "__module__" 418 (.str "gapscribe.machine" 364),ze P "__qualname__" 420 (.str "Machine" 419),ze P "__firstlineno__" 422 (.int 72 421),ze P "__init__" 431 (.ref 174),ze P "make_steps" 439 (.ref 181),ze P "new_row" 451 (.ref 188),ze P "thing_of_form" 460 (.ref 195),ze P "thing_of_parts" 470 (.ref 202),ze P "thing_at_the_end" 480 (.ref 209),ze P "come_to" 486 (.ref 214),ze P "thing_of_leaf" 498 (.ref 221),ze P "go_further" 509 (.ref 228),ze P "taken_things" 518 (.ref 235),ze P "is_function" 526 (.ref 242),ze P "call" 535 (.ref 249),ze P "go_within" 547 (.ref 256),ze P "__static_attributes__" 553 (.ref 257)]
noncomputable def z111 (P : Params) : Obj:=zt "dict" (.dict ⟨d7 P⟩ 17)
noncomputable def z112 : Obj:=zy [(74,4,173),(82,4,180),(87,4,187),(92,4,194),(96,4,201),(101,4,208),(110,4,213),(120,4,220),(128,4,227),(142,4,234),(147,4,241),(150,4,248),(154,4,255)]
noncomputable def z113 : Obj:=zk "Machine" "Machine" 413 72 0 0 164 false .none 416 417
noncomputable def z114 : Obj:=Obj.mk (.type "frame") none Data.plain #[some (.ref 166),some (.ref 3),some (.ref 163),none,some (.str "gapscribe.machine" 364),none,some (.ref 0)]
noncomputable def z115 : Obj:=zu [("self",426),("tree",427),("steps",428)]
noncomputable def z116 : Obj:=zh "__init__" "Machine.__init__" s_Machine_init
noncomputable def z117 : Obj:=zc "__init__" "Machine.__init__" 423 74 3 3 168 429 430
noncomputable def z118 : Obj:=zf "__init__" "Machine.__init__" s_Machine_init "gapscribe.machine" 364 173
noncomputable def h22_0 (P : Params) (t : List Obj) : List Obj:=z108 :: z1 :: z6 :: (z111 P) :: z1 :: z112 :: z113 :: z114 :: z1 :: z8 :: z115 :: z1 :: z116 :: z117 :: z118 :: z1 :: t
noncomputable def z119 : Obj:=zu [("self",435),("many",436)]
noncomputable def z120 : Obj:=zh "make_steps" "Machine.make_steps" s_Machine_make_steps
noncomputable def z121 : Obj:=zc "make_steps" "Machine.make_steps" 432 82 2 3 175 437 438
noncomputable def z122 : Obj:=zf "make_steps" "Machine.make_steps" s_Machine_make_steps "gapscribe.machine" 364 180
noncomputable def z123 : Obj:=zu [("self",443),("word",444),("place",445),("operands",446),("around",447),("kept",448)]
noncomputable def z124 : Obj:=zh "new_row" "Machine.new_row" s_Machine_new_row
noncomputable def z125 : Obj:=zc "new_row" "Machine.new_row" 440 87 5 3 182 449 450
noncomputable def z126 : Obj:=zf "new_row" "Machine.new_row" s_Machine_new_row "gapscribe.machine" 364 187
noncomputable def z127 : Obj:=zu [("self",455),("place",456),("around",457)]
noncomputable def h23_0 (P : Params) (t : List Obj) : List Obj:=z8 :: z119 :: z1 :: z120 :: z121 :: z122 :: z1 :: z8 :: z123 :: z1 :: z124 :: z125 :: z126 :: z1 :: z8 :: z127 :: t
noncomputable def z128 : Obj:=zh "thing_of_form" "Machine.thing_of_form" s_Machine_thing_of_form
noncomputable def z129 : Obj:=zc "thing_of_form" "Machine.thing_of_form" 452 92 3 3 189 458 459
noncomputable def z130 : Obj:=zf "thing_of_form" "Machine.thing_of_form" s_Machine_thing_of_form "gapscribe.machine" 364 194
noncomputable def z131 : Obj:=zu [("self",464),("place",465),("operands",466),("around",467)]
noncomputable def z132 : Obj:=zh "thing_of_parts" "Machine.thing_of_parts" s_Machine_thing_of_parts
noncomputable def z133 : Obj:=zc "thing_of_parts" "Machine.thing_of_parts" 461 96 4 3 196 468 469
noncomputable def z134 : Obj:=zf "thing_of_parts" "Machine.thing_of_parts" s_Machine_thing_of_parts "gapscribe.machine" 364 201
noncomputable def z135 : Obj:=zu [("self",474),("place",475),("around",476),("parts_came",477)]
noncomputable def z136 : Obj:=zh "thing_at_the_end" "Machine.thing_at_the_end" s_Machine_thing_at_the_end
noncomputable def h24_0 (P : Params) (t : List Obj) : List Obj:=z1 :: z128 :: z129 :: z130 :: z1 :: z8 :: z131 :: z1 :: z132 :: z133 :: z134 :: z1 :: z8 :: z135 :: z1 :: z136 :: t
noncomputable def z137 : Obj:=zc "thing_at_the_end" "Machine.thing_at_the_end" 471 101 1 3 203 478 479
noncomputable def z138 : Obj:=zf "thing_at_the_end" "Machine.thing_at_the_end" s_Machine_thing_at_the_end "gapscribe.machine" 364 208
noncomputable def z139 : Obj:=zh "come_to" "Machine.come_to" s_Machine_come_to
noncomputable def z140 : Obj:=zk "come_to" "Machine.come_to" 481 110 3 3 210 true (.ref 212) 484 485
noncomputable def z141 : Obj:=zf "come_to" "Machine.come_to" s_Machine_come_to "gapscribe.machine" 364 213
noncomputable def z142 : Obj:=zu [("self",490),("word",491),("note",492),("place",493),("around",494),("bound",495)]
noncomputable def z143 : Obj:=zh "thing_of_leaf" "Machine.thing_of_leaf" s_Machine_thing_of_leaf
noncomputable def z144 : Obj:=zc "thing_of_leaf" "Machine.thing_of_leaf" 487 120 5 3 215 496 497
noncomputable def z145 : Obj:=zf "thing_of_leaf" "Machine.thing_of_leaf" s_Machine_thing_of_leaf "gapscribe.machine" 364 220
noncomputable def h25_0 (P : Params) (t : List Obj) : List Obj:=z137 :: z138 :: z1 :: z8 :: z139 :: z140 :: z141 :: z1 :: z8 :: z142 :: z1 :: z143 :: z144 :: z145 :: z1 :: z8 :: t
noncomputable def z146 : Obj:=zu [("self",502),("place",503),("around",504),("word",505),("operands",506)]
noncomputable def z147 : Obj:=zh "go_further" "Machine.go_further" s_Machine_go_further
noncomputable def z148 : Obj:=zc "go_further" "Machine.go_further" 499 128 3 3 222 507 508
noncomputable def z149 : Obj:=zf "go_further" "Machine.go_further" s_Machine_go_further "gapscribe.machine" 364 227
noncomputable def z150 : Obj:=zu [("self",513),("many",514),("taken",515)]
noncomputable def z151 : Obj:=zh "taken_things" "Machine.taken_things" s_Machine_taken_things
noncomputable def z152 : Obj:=zc "taken_things" "Machine.taken_things" 510 142 2 3 229 516 517
noncomputable def z153 : Obj:=zf "taken_things" "Machine.taken_things" s_Machine_taken_things "gapscribe.machine" 364 234
noncomputable def z154 : Obj:=zu [("self",522),("thing",523)]
noncomputable def h26_0 (P : Params) (t : List Obj) : List Obj:=z146 :: z1 :: z147 :: z148 :: z149 :: z1 :: z8 :: z150 :: z1 :: z151 :: z152 :: z153 :: z1 :: z8 :: z154 :: z1 :: t
noncomputable def z155 : Obj:=zh "is_function" "Machine.is_function" s_Machine_is_function
noncomputable def z156 : Obj:=zc "is_function" "Machine.is_function" 519 147 2 3 236 524 525
noncomputable def z157 : Obj:=zf "is_function" "Machine.is_function" s_Machine_is_function "gapscribe.machine" 364 241
noncomputable def z158 : Obj:=zu [("self",530),("operands",531),("row",532)]
noncomputable def z159 : Obj:=zh "call" "Machine.call" s_Machine_call
noncomputable def z160 : Obj:=zc "call" "Machine.call" 527 150 2 3 243 533 534
noncomputable def z161 : Obj:=zf "call" "Machine.call" s_Machine_call "gapscribe.machine" 364 248
noncomputable def z162 : Obj:=zu [("self",539),("place",540),("number",541),("around",542),("things",543),("names",544)]
noncomputable def z163 : Obj:=zh "go_within" "Machine.go_within" s_Machine_go_within
noncomputable def z164 : Obj:=zc "go_within" "Machine.go_within" 536 154 5 3 250 545 546
noncomputable def h27_0 (P : Params) (t : List Obj) : List Obj:=z155 :: z156 :: z157 :: z1 :: z8 :: z158 :: z1 :: z159 :: z160 :: z161 :: z1 :: z8 :: z162 :: z1 :: z163 :: z164 :: t
noncomputable def z165 : Obj:=zf "go_within" "Machine.go_within" s_Machine_go_within "gapscribe.machine" 364 255
noncomputable def z166 : Obj:=zu [("forms",548),("rows",549),("steps",550),("things",551),("waiting",552)]
noncomputable def d8 (P : Params) : List DictEntry:=[ze P "__module__" 418 (.str "gapscribe.machine" 364),ze P "__firstlineno__" 422 (.int 72 421),ze P "__init__" 431 (.ref 174),ze P "make_steps" 439 (.ref 181),ze P "new_row" 451 (.ref 188),ze P "thing_of_form" 460 (.ref 195),ze P "thing_of_parts" 470 (.ref 202),ze P "thing_at_the_end" 480 (.ref 209),ze P "come_to" 486 (.ref 214),ze P "thing_of_leaf" 498 (.ref 221),ze P "go_further" 509 (.ref 228),ze P "taken_things" 518 (.ref 235),ze P "is_function" 526 (.ref 242),ze P "call" 535 (.ref 249),ze P "go_within" 547 (.ref 256),ze P "__static_attributes__" 553 (.ref 257),ze P "__dict__" 555 (.ref 260),ze P "__weakref__" 557 (.ref 261),ze P "__doc__" 558 .none]
noncomputable def z167 (P : Params) : Obj:=zt "dict" (.dict ⟨d8 P⟩ 4)
noncomputable def z168 : Obj:=Obj.mk (.type "type") none (.cls (ClassData.mk "Machine" [.type "object"] [.ref 259,.type "object"] 258 "Machine" true [] [] false none false)) #[none,none,some (.str "Machine" 411),some (.str "Machine" 419),some (.builtin "object.__new__"),some (.bool true)]
noncomputable def z169 : Obj:=zt "getset_descriptor" (.fields #[.str "__dict__" 554,.ref 259,.builtin "function.__dict__",.builtin "function.__dict__#set"])
noncomputable def z170 : Obj:=zt "getset_descriptor" (.fields #[.str "__weakref__" 556,.ref 259,.builtin "ExceptionGroup.__weakref__",.none])
noncomputable def z171 : Obj:=zt "super" (.fields #[.ref 259,.ref 259,.ref 259])
noncomputable def z172 : Obj:=zt "builtin_function_or_method" (.fields #[.builtin "object.__init_subclass__",.ref 259])
noncomputable def h28_0 (P : Params) (t : List Obj) : List Obj:=z165 :: z166 :: (z167 P) :: z168 :: z169 :: z170 :: z171 :: z172 :: t
noncomputable def Rtree_316 : Params→B:=fun P=>tO (h21_0 P (h8_0 P (h5_0 P (h9_0 P (h10_0 P (h11_0 P (h14_0 P (h15_0 P (h16_0 P (h19_0 P (h22_0 P (h23_0 P (h24_0 P (h25_0 P (h26_0 P (h27_0 P (h28_0 P [])))))))))))))))))
noncomputable def h29_0 (P : Params) (t : List Obj) : List Obj:=(boot_o_0 P) :: (boot_o_1 P) :: (boot_o_2 P) :: (z103 P) :: (boot_o_4 P) :: (boot_o_5 P) :: (boot_o_6 P) :: (boot_o_7 P) :: (boot_o_8 P) :: (boot_o_9 P) :: (boot_o_10 P) :: z1 :: z110 :: z3 :: z4 :: z5 :: t
noncomputable def d9 (P : Params) : List DictEntry:=[ze P "__module__" 418 (.str "gapscribe.machine" 364),ze P "__qualname__" 420 (.str "Machine" 419),ze P "__firstlineno__" 422 (.int 72 421),ze P "__init__" 431 (.ref 174),ze P "make_steps" 439 (.ref 181),ze P "new_row" 451 (.ref 188),ze P "thing_of_form" 460 (.ref 195),ze P "thing_of_parts" 470 (.ref 202),ze P "thing_at_the_end" 480 (.ref 209),ze P "come_to" 486 (.ref 214),ze P "thing_of_leaf" 498 (.ref 221),ze P "go_further" 509 (.ref 228),ze P "taken_things" 518 (.ref 235)]
noncomputable def z173 (P : Params) : Obj:=zt "dict" (.dict ⟨d9 P⟩ 13)
noncomputable def z174 : Obj:=zy [(74,4,173),(82,4,180),(87,4,187),(92,4,194),(96,4,201),(101,4,208),(110,4,213),(120,4,220),(128,4,227),(142,4,234)]
noncomputable def h30_0 (P : Params) (t : List Obj) : List Obj:=z108 :: z1 :: z6 :: (z173 P) :: z1 :: z174 :: z113 :: z114 :: z1 :: z8 :: z115 :: z1 :: z116 :: z117 :: z118 :: z1 :: t
noncomputable def h31_0 (P : Params) (t : List Obj) : List Obj:=z155 :: z156 :: t
noncomputable def Rtree_398 : Params→B:=fun P=>tO (h29_0 P (h8_0 P (h5_0 P (h9_0 P (h10_0 P (h11_0 P (h14_0 P (h15_0 P (h16_0 P (h19_0 P (h30_0 P (h23_0 P (h24_0 P (h25_0 P (h26_0 P (h31_0 P []))))))))))))))))
noncomputable def d10 (P : Params) : List DictEntry:=[ze P "__name__" 165 (.str "law_gapscribe_k51_one_gap_filled" 593),ze P "__doc__" 166 .none,ze P "__package__" 167 .none,ze P "__loader__" 168 (.builtin "__main__.__loader__#opaque"),ze P "__spec__" 169 .none,ze P "__annotations__" 170 (.ref 6),ze P "__builtins__" 171 (.ref 4),ze P "__file__" 173 (.str "/claim/cut.py" 172),ze P "__cached__" 174 .none,ze P "GapError" 206 (.ref 24),ze P "NoDeed" 222 (.ref 37),ze P "TooLong" 238 (.ref 49),ze P "NoPlace" 263 (.ref 68),ze P "is_whole" 272 (.ref 77),ze P "placed_forms" 286 (.ref 84),ze P "has_part" 294 (.ref 91),ze P "forms_down_to" 304 (.ref 98),ze P "form_at" 312 (.ref 105),ze P "with_part" 322 (.ref 112),ze P "with_at" 334 (.ref 119),ze P "refuse_no_gap" 343 (.ref 126),ze P "is_finished" 353 (.ref 133),ze P "names_bound" 363 (.ref 140),ze P "MOST_STEPS" 367 (.int 500 366),ze P "PARTS_AWAITED" 390 (.ref 141),ze P "WORDS_WITH_AROUND" 395 (.ref 148),ze P "are_numbers" 401 (.ref 153),ze P "reckoned" 410 (.ref 160),ze P "Machine" 560 (.ref 259),ze P "thing_now" 570 (.ref 270),ze P "thing_of_row" 576 (.ref 275),ze P "go_on" 592 (.ref 282),ze P "_law_cell" 602 (.ref 289),ze P "_law_mixed" 610 (.ref 296),ze P "_law_same" 619 (.ref 303),ze P "_law_names" 636 (.ref 310),ze P "_law_number" 643 (.ref 317),ze P "_law_odd" 651 (.ref 324),ze P "_law_leaf" 661 (.ref 331),ze P "_law_comes" 676 (.ref 338)]
noncomputable def z175 (P : Params) : Obj:=zt "dict" (.dict ⟨d10 P⟩ 40)
noncomputable def z176 : Obj:=zy [(2,0,20),(4,0,33),(6,0,45),(8,0,57),(13,0,76),(16,0,83),(25,0,90),(27,0,97),(34,0,104),(36,0,111),(39,0,118),(45,0,125),(49,0,132),(52,0,139),(64,0,152),(66,0,159),(72,0,166),(158,0,269),(160,0,274),(169,0,281),(178,0,288),(182,0,295),(184,0,302),(201,0,309),(217,0,316),(223,0,323),(226,0,330),(237,0,337)]
noncomputable def h32_0 (P : Params) (t : List Obj) : List Obj:=(boot_o_0 P) :: (boot_o_1 P) :: (boot_o_2 P) :: (z175 P) :: (boot_o_4 P) :: (boot_o_5 P) :: (boot_o_6 P) :: (boot_o_7 P) :: (boot_o_8 P) :: (boot_o_9 P) :: (boot_o_10 P) :: z1 :: z176 :: z3 :: z4 :: z5 :: t
noncomputable def z177 : Obj:=zu [("thing",566),("became",567)]
noncomputable def z178 : Obj:=zj "thing_now" s_thing_now
noncomputable def z179 : Obj:=zb "thing_now" 563 158 2 3 264 568 569
noncomputable def z180 : Obj:=zi "thing_now" s_thing_now "gapscribe.going" 561 269
noncomputable def h33_0 (P : Params) (t : List Obj) : List Obj:=z165 :: z166 :: (z167 P) :: z168 :: z169 :: z170 :: z171 :: z172 :: z1 :: z8 :: z177 :: z1 :: z178 :: z179 :: z180 :: z1 :: t
noncomputable def z181 : Obj:=zj "thing_of_row" s_thing_of_row
noncomputable def z182 : Obj:=zk "thing_of_row" "thing_of_row" 571 160 4 3 271 true (.ref 273) 574 575
noncomputable def z183 : Obj:=zi "thing_of_row" s_thing_of_row "gapscribe.going" 561 274
noncomputable def z184 : Obj:=zu [("tree",580),("record",581),("place",582),("form",583),("answer",584),("rows",585),("steps",586),("machine",587),("became",588),("row",589)]
noncomputable def z185 : Obj:=zj "go_on" s_go_on
noncomputable def z186 : Obj:=zb "go_on" 577 169 4 3 276 590 591
noncomputable def z187 : Obj:=zi "go_on" s_go_on "gapscribe.going" 561 281
noncomputable def z188 : Obj:=zu [("_law_script",598),("_law_k",599)]
noncomputable def z189 : Obj:=zj "_law_cell" s_law_cell
noncomputable def h34_0 (P : Params) (t : List Obj) : List Obj:=z8 :: z181 :: z182 :: z183 :: z1 :: z8 :: z184 :: z1 :: z185 :: z186 :: z187 :: z1 :: z8 :: z188 :: z1 :: z189 :: t
noncomputable def z190 : Obj:=zb "_law_cell" 595 178 2 3 283 600 601
noncomputable def z191 : Obj:=zi "_law_cell" s_law_cell "law_gapscribe_k51_one_gap_filled" 593 288
noncomputable def z192 : Obj:=zu [("_law_cell_here",606),("_law_k",607)]
noncomputable def z193 : Obj:=zj "_law_mixed" s_law_mixed
noncomputable def z194 : Obj:=zb "_law_mixed" 603 182 2 3 290 608 609
noncomputable def z195 : Obj:=zi "_law_mixed" s_law_mixed "law_gapscribe_k51_one_gap_filled" 593 295
noncomputable def z196 : Obj:=zu [("_law_found",614),("_law_due",615),("_law_k",616)]
noncomputable def z197 : Obj:=zj "_law_same" s_law_same
noncomputable def z198 : Obj:=zb "_law_same" 611 184 2 3 297 617 618
noncomputable def z199 : Obj:=zi "_law_same" s_law_same "law_gapscribe_k51_one_gap_filled" 593 302
noncomputable def h35_0 (P : Params) (t : List Obj) : List Obj:=z190 :: z191 :: z1 :: z8 :: z192 :: z1 :: z193 :: z194 :: z195 :: z1 :: z8 :: z196 :: z1 :: z197 :: z198 :: z199 :: t
noncomputable def z200 : Obj:=zu [("_law_cell_here",623),("_law_many",624),("_law_signs",625),("_law_kept",626),("_law_size",627),("_law_at",628),("_law_names_here",629),("_law_k",630),("_law_word",631),("_law_j",632),("_law_step",633)]
noncomputable def z201 : Obj:=zj "_law_names" s_law_names
noncomputable def z202 : Obj:=zb "_law_names" 620 201 2 3 304 634 635
noncomputable def z203 : Obj:=zi "_law_names" s_law_names "law_gapscribe_k51_one_gap_filled" 593 309
noncomputable def z204 : Obj:=zu [("_law_cell_here",640)]
noncomputable def z205 : Obj:=zj "_law_number" s_law_number
noncomputable def z206 : Obj:=zb "_law_number" 637 217 1 3 311 641 642
noncomputable def z207 : Obj:=zi "_law_number" s_law_number "law_gapscribe_k51_one_gap_filled" 593 316
noncomputable def h36_0 (P : Params) (t : List Obj) : List Obj:=z1 :: z8 :: z200 :: z1 :: z201 :: z202 :: z203 :: z1 :: z8 :: z204 :: z1 :: z205 :: z206 :: z207 :: z1 :: z8 :: t
noncomputable def z208 : Obj:=zu [("_law_cell_here",647),("_law_signs",648)]
noncomputable def z209 : Obj:=zj "_law_odd" s_law_odd
noncomputable def z210 : Obj:=zb "_law_odd" 644 223 1 3 318 649 650
noncomputable def z211 : Obj:=zi "_law_odd" s_law_odd "law_gapscribe_k51_one_gap_filled" 593 323
noncomputable def z212 : Obj:=zu [("_law_cell_here",655),("_law_other",656),("_law_names_here",657),("_law_word",658)]
noncomputable def z213 : Obj:=zj "_law_leaf" s_law_leaf
noncomputable def z214 : Obj:=zb "_law_leaf" 652 226 3 3 325 659 660
noncomputable def z215 : Obj:=zi "_law_leaf" s_law_leaf "law_gapscribe_k51_one_gap_filled" 593 330
noncomputable def z216 : Obj:=zu [("_law_form",665),("_law_place",666),("_law_around",667),("_law_rows",668),("_law_word",669),("_law_note",670),("_law_parts",671),("_law_name",672),("_law_thing",673)]
noncomputable def h37_0 (P : Params) (t : List Obj) : List Obj:=z208 :: z1 :: z209 :: z210 :: z211 :: z1 :: z8 :: z212 :: z1 :: z213 :: z214 :: z215 :: z1 :: z8 :: z216 :: z1 :: t
noncomputable def z217 : Obj:=zj "_law_comes" s_law_comes
noncomputable def z218 : Obj:=zb "_law_comes" 662 237 4 3 332 674 675
noncomputable def z219 : Obj:=zi "_law_comes" s_law_comes "law_gapscribe_k51_one_gap_filled" 593 337
noncomputable def h38_0 (P : Params) (t : List Obj) : List Obj:=z217 :: z218 :: z219 :: t
noncomputable def Rtree_478 : Params→B:=fun P=>tO (h32_0 P (h8_0 P (h5_0 P (h9_0 P (h10_0 P (h11_0 P (h14_0 P (h15_0 P (h16_0 P (h19_0 P (h22_0 P (h23_0 P (h24_0 P (h25_0 P (h26_0 P (h27_0 P (h33_0 P (h34_0 P (h35_0 P (h36_0 P (h37_0 P (h38_0 P []))))))))))))))))))))))
noncomputable def d11 (P : Params) : List DictEntry:=d10 P ++ [ze P "_law_joined" 687 (.ref 345),ze P "_law_record" 701 (.ref 352),ze P "law" 719 (.ref 359)]
noncomputable def z220 (P : Params) : Obj:=zt "dict" (.dict ⟨d11 P⟩ 43)
noncomputable def z221 : Obj:=zy [(2,0,20),(4,0,33),(6,0,45),(8,0,57),(13,0,76),(16,0,83),(25,0,90),(27,0,97),(34,0,104),(36,0,111),(39,0,118),(45,0,125),(49,0,132),(52,0,139),(64,0,152),(66,0,159),(72,0,166),(158,0,269),(160,0,274),(169,0,281),(178,0,288),(182,0,295),(184,0,302),(201,0,309),(217,0,316),(223,0,323),(226,0,330),(237,0,337),(249,0,344),(258,0,351),(265,0,358)]
noncomputable def h39_0 (P : Params) (t : List Obj) : List Obj:=(boot_o_0 P) :: (boot_o_1 P) :: (boot_o_2 P) :: (z220 P) :: (boot_o_4 P) :: (boot_o_5 P) :: (boot_o_6 P) :: (boot_o_7 P) :: (boot_o_8 P) :: (boot_o_9 P) :: (boot_o_10 P) :: z1 :: z221 :: z3 :: z4 :: z5 :: t
noncomputable def z222 : Obj:=zu [("_law_word",680),("_law_place",681),("_law_one",682),("_law_other",683),("_law_rows",684)]
noncomputable def z223 : Obj:=zj "_law_joined" s_law_joined
noncomputable def z224 : Obj:=zb "_law_joined" 677 249 5 3 339 685 686
noncomputable def z225 : Obj:=zi "_law_joined" s_law_joined "law_gapscribe_k51_one_gap_filled" 593 344
noncomputable def z226 : Obj:=zu [("_law_tree",691),("_law_word",692),("_law_note",693),("_law_parts",694),("_law_rows",695),("_law_left",696),("_law_right",697),("_law_answer",698)]
noncomputable def z227 : Obj:=zj "_law_record" s_law_record
noncomputable def z228 : Obj:=zb "_law_record" 688 258 1 3 346 699 700
noncomputable def h40_0 (P : Params) (t : List Obj) : List Obj:=z217 :: z218 :: z219 :: z1 :: z8 :: z222 :: z1 :: z223 :: z224 :: z225 :: z1 :: z8 :: z226 :: z1 :: z227 :: z228 :: t
noncomputable def z229 : Obj:=zi "_law_record" s_law_record "law_gapscribe_k51_one_gap_filled" 593 351
noncomputable def z230 : Obj:=zu [("_law_script",705),("_law_word",706),("_law_names_here",707),("_law_other",708),("_law_form",709),("_law_gap",710),("_law_side",711),("_law_tree",712),("_law_filled",713),("_law_record_here",714),("_law_found",715),("_law_row",716)]
noncomputable def z231 : Obj:=zj "law" s_law
noncomputable def z232 : Obj:=zb "law" 702 265 1 3 353 717 718
noncomputable def z233 : Obj:=zi "law" s_law "law_gapscribe_k51_one_gap_filled" 593 358
noncomputable def h41_0 (P : Params) (t : List Obj) : List Obj:=z229 :: z1 :: z8 :: z230 :: z1 :: z231 :: z232 :: z233 :: t
noncomputable def Rtree_501 : Params→B:=fun P=>tO (h39_0 P (h8_0 P (h5_0 P (h9_0 P (h10_0 P (h11_0 P (h14_0 P (h15_0 P (h16_0 P (h19_0 P (h22_0 P (h23_0 P (h24_0 P (h25_0 P (h26_0 P (h27_0 P (h33_0 P (h34_0 P (h35_0 P (h36_0 P (h37_0 P (h40_0 P (h41_0 P [])))))))))))))))))))))))
noncomputable def Rheap_502 : Params→Heap:=fun P=>⟨⟨h39_0 P (h8_0 P (h5_0 P (h9_0 P (h10_0 P (h11_0 P (h14_0 P (h15_0 P (h16_0 P (h19_0 P (h22_0 P (h23_0 P (h24_0 P (h25_0 P (h26_0 P (h27_0 P (h33_0 P (h34_0 P (h35_0 P (h36_0 P (h37_0 P (h40_0 P (h41_0 P []))))))))))))))))))))))⟩,Life.mk [] [] [] 0 [] [] false #[] [] 0 false false false 0 [2000,10,10] false 0 true [] [] 0 false⟩
noncomputable def KK : Params→PySem.W.Frag:=fun P=>(nat_lit 2,boot_o_2 P) :: (nat_lit 3,z220 P) :: (nat_lit 23,z11 P) :: (nat_lit 24,z36) :: (nat_lit 36,z20 P) :: (nat_lit 37,z21) :: (nat_lit 48,z30 P) :: (nat_lit 49,z31) :: (nat_lit 67,z46 P) :: (nat_lit 68,z47) :: (nat_lit 76,z52) :: (nat_lit 77,z53) :: (nat_lit 83,z56) :: (nat_lit 84,z57) :: (nat_lit 90,z60) :: (nat_lit 91,z61) :: (nat_lit 97,z64) :: (nat_lit 98,z65) :: (nat_lit 104,z70) :: (nat_lit 105,z71) :: (nat_lit 111,z74) :: (nat_lit 112,z75) :: (nat_lit 118,z78) :: (nat_lit 119,z79) :: (nat_lit 125,z82) :: (nat_lit 126,z83) :: (nat_lit 132,z86) :: (nat_lit 133,z87) :: (nat_lit 139,z90) :: (nat_lit 140,z91) :: (nat_lit 141,z92 P) :: (nat_lit 142,z93) :: (nat_lit 143,z94) :: (nat_lit 144,z95) :: (nat_lit 145,z96) :: (nat_lit 146,z97) :: (nat_lit 147,z98) :: (nat_lit 148,z99) :: (nat_lit 152,z101) :: (nat_lit 153,z102) :: (nat_lit 159,z107) :: (nat_lit 160,z108) :: (nat_lit 173,z117) :: (nat_lit 174,z118) :: (nat_lit 180,z121) :: (nat_lit 181,z122) :: (nat_lit 187,z125) :: (nat_lit 188,z126) :: (nat_lit 194,z129) :: (nat_lit 195,z130) :: (nat_lit 201,z133) :: (nat_lit 202,z134) :: (nat_lit 208,z137) :: (nat_lit 209,z138) :: (nat_lit 213,z140) :: (nat_lit 214,z141) :: (nat_lit 220,z144) :: (nat_lit 221,z145) :: (nat_lit 227,z148) :: (nat_lit 228,z149) :: (nat_lit 234,z152) :: (nat_lit 235,z153) :: (nat_lit 241,z156) :: (nat_lit 242,z157) :: (nat_lit 248,z160) :: (nat_lit 249,z161) :: (nat_lit 255,z164) :: (nat_lit 256,z165) :: (nat_lit 258,z167 P) :: (nat_lit 259,z168) :: (nat_lit 269,z179) :: (nat_lit 270,z180) :: (nat_lit 274,z182) :: (nat_lit 275,z183) :: (nat_lit 281,z186) :: (nat_lit 282,z187) :: (nat_lit 288,z190) :: (nat_lit 289,z191) :: (nat_lit 295,z194) :: (nat_lit 296,z195) :: (nat_lit 302,z198) :: (nat_lit 303,z199) :: (nat_lit 309,z202) :: (nat_lit 310,z203) :: (nat_lit 316,z206) :: (nat_lit 317,z207) :: (nat_lit 323,z210) :: (nat_lit 324,z211) :: (nat_lit 330,z214) :: (nat_lit 331,z215) :: (nat_lit 337,z218) :: (nat_lit 338,z219) :: (nat_lit 344,z224) :: (nat_lit 345,z225) :: (nat_lit 351,z228) :: (nat_lit 352,z229) :: (nat_lit 358,z232) :: (nat_lit 359,z233) :: []
noncomputable def KA : List Addr:=[2,3,23,24,36,37,48,49,67,68,76,77,83,84,90,91,97,98,104,105,111,112,118,119,125,126,132,133,139,140,141,142,143,144,145,146,147,148,152,153,159,160,173,174,180,181,187,188,194,195,201,202,208,209,213,214,220,221,227,228,234,235,241,242,248,249,255,256,258,259,269,270,274,275,281,282,288,289,295,296,302,303,309,310,316,317,323,324,330,331,337,338,344,345,351,352,358,359]
noncomputable def RB (P : Params) : List PySem.W.BT × List Heap:=([Rtree_78 P,Rtree_93 P,Rtree_143 P,Rtree_200 P,Rtree_211 P,Rtree_316 P,Rtree_398 P,Rtree_478 P,Rtree_501 P],[Rheap_502 P])
theorem e_RB : RB = RB:=rfl
name_quick x_RB for K51.RB by K51.e_RB
end K51
namespace PySem.W.Fast
noncomputable def tw17944979861286704459 : PySem.Params→PySem.W.BT:=tw5597573154362123638
theorem te17944979861286704459 : K51.Rtree_78 = tw17944979861286704459:=te5597573154362123638
noncomputable def tw9962795810667267761 : PySem.Params→PySem.W.BT:=tw7285397470166445819
theorem te9962795810667267761 : K51.Rtree_93 = tw9962795810667267761:=te7285397470166445819
noncomputable def tw13366807173124726920 : PySem.Params→PySem.W.BT:=tw3282811845350058400
theorem te13366807173124726920 : K51.Rtree_143 = tw13366807173124726920:=te3282811845350058400
noncomputable def tw15809601583240081984 : PySem.Params→PySem.W.BT:=tw14557638688375081427
theorem te15809601583240081984 : K51.Rtree_200 = tw15809601583240081984:=te14557638688375081427
noncomputable def tw7464422695632516501 : PySem.Params→PySem.W.BT:=tw1444469139522042549
theorem te7464422695632516501 : K51.Rtree_211 = tw7464422695632516501:=te1444469139522042549
noncomputable def tw17159052201124051230 : PySem.Params→PySem.W.BT:=tw12280936944932214774
theorem te17159052201124051230 : K51.Rtree_316 = tw17159052201124051230:=te12280936944932214774
noncomputable def tw17265327369742968549 : PySem.Params→PySem.W.BT:=tw8169770699705997611
theorem te17265327369742968549 : K51.Rtree_398 = tw17265327369742968549:=te8169770699705997611
noncomputable def tw9003244620855960936 : PySem.Params→PySem.W.BT:=tw10764835882174145478
theorem te9003244620855960936 : K51.Rtree_478 = tw9003244620855960936:=te10764835882174145478
noncomputable def tw2914284208859418445 : PySem.Params→PySem.W.BT:=tw5558873557098133587
theorem te2914284208859418445 : K51.Rtree_501 = tw2914284208859418445:=te5558873557098133587
noncomputable def tw13949748785565106669 : PySem.Params→PySem.Heap:=tw5563935418675659229
theorem te13949748785565106669 : K51.Rheap_502 = tw13949748785565106669:=te5563935418675659229
end PySem.W.Fast
namespace K51
open PySem L2
noncomputable abbrev spLaw:=sp_law
theorem all1 {α : Type} {P : List α→Prop} (h : ∀ a,P [a]) : ∀ us : List α,us.length = 1→P us
 | [a],_=>h a
theorem all2 {α : Type} {P : List α→Prop} (h : ∀ a b,P [a,b]) : ∀ us : List α,us.length = 2→P us
 | [a,b],_=>h a b
theorem all3 {α : Type} {P : List α→Prop} (h : ∀ a b c,P [a,b,c]) : ∀ us : List α,us.length = 3→P us
 | [a,b,c],_=>h a b c
theorem all4 {α : Type} {P : List α→Prop} (h : ∀ a b c d,P [a,b,c,d]) : ∀ us : List α,us.length = 4→P us
 | [a,b,c,d],_=>h a b c d
theorem all5 {α : Type} {P : List α→Prop} (h : ∀ a b c d e,P [a,b,c,d,e]) : ∀ us : List α,us.length = 5→P us
 | [a,b,c,d,e],_=>h a b c d e
theorem rec_same {P : Program} {w : World} {K : PySem.W.Frag} {mg : Str→Option Value} {base : Heap} {f : Addr} {fd : FuncData} (F : Fun K "_law_same" "_law_same" s_law_same f fd) (T : Txt K mg)
  (mk : ∀ n,FnOk P w K mg base CX0 (n + 1) f fd ["_law_found", "_law_due"] (sp_same K n)→Callee P w K mg base (n + 1) "_law_same" ["_law_found", "_law_due"] (sp_same K n)) : ∀ n,FnOk P w K mg base CX0 (n + 1) f fd ["_law_found", "_law_due"] (sp_same K n)
 | 0=>by
  have no : ∀ vs H Q E,¬ sp_same K 0 vs H Q E:=by
   rintro vs H Q E ⟨x,y,d,m,_,h,_⟩
   exact absurd h (Nat.not_lt_zero _)
  exact ⟨fun vs H Q E h=>absurd h (no _ _ _ _),fun A outer s H args us vs Q E _ _ _ _ h=>absurd h (no _ _ _ _)⟩
 | n + 1=>ok_same F T (mk n (rec_same F T mk n))
noncomputable def pk6 (t1 t2 t3 t4 t5 t6 : Addr) : List (Str × V):=[("plus",.ref t1),("minus",.ref t2),("less",.ref t3),("call",.ref t4),("if",.ref t5),("let",.ref t6)]
theorem pk6_nd {t1 t2 t3 t4 t5 t6 : Addr} : ((pk6 t1 t2 t3 t4 t5 t6).map (·.1)).Nodup:=by
 show (["plus", "minus", "less", "call", "if", "let"] : List Str).Nodup
 decide +kernel
theorem parts_ok {K : PySem.W.Frag} {t1 t2 t3 t4 t5 t6 : Addr} (h1 : ∀ H,SqT K H t1 ([1,0].map V.int)) (h2 : ∀ H,SqT K H t2 ([1,0].map V.int)) (h3 : ∀ H,SqT K H t3 ([1,0].map V.int)) (h4 : ∀ H,SqT K H t4 ([1,0].map V.int)) (h5 : ∀ H,SqT K H t5 ([0].map V.int)) (h6 : ∀ H,SqT K H t6 ([0].map V.int)) (wd : Str) :
  (lookD (pk6 t1 t2 t3 t4 t5 t6) wd).isSome = (partsA wd).isSome∧∀ ns,partsA wd = some ns→∃ b,lookD (pk6 t1 t2 t3 t4 t5 t6) wd = some (.ref b)∧∀ H,SqT K H b (ns.map V.int):=by
 by_cases e1 : wd = "plus"
 ·subst e1
  have p : partsA "plus" = some [1,0]:=by decide +kernel
  exact ⟨by rw [p]; rfl,fun ns h=>by rw [p] at h; cases h; exact ⟨t1,rfl,h1⟩⟩
 by_cases e2 : wd = "minus"
 ·subst e2
  have p : partsA "minus" = some [1,0]:=by decide +kernel
  exact ⟨by rw [p]; rfl,fun ns h=>by rw [p] at h; cases h; exact ⟨t2,rfl,h2⟩⟩
 by_cases e3 : wd = "less"
 ·subst e3
  have p : partsA "less" = some [1,0]:=by decide +kernel
  exact ⟨by rw [p]; rfl,fun ns h=>by rw [p] at h; cases h; exact ⟨t3,rfl,h3⟩⟩
 by_cases e4 : wd = "call"
 ·subst e4
  have p : partsA "call" = some [1,0]:=by decide +kernel
  exact ⟨by rw [p]; rfl,fun ns h=>by rw [p] at h; cases h; exact ⟨t4,rfl,h4⟩⟩
 by_cases e5 : wd = "if"
 ·subst e5
  have p : partsA "if" = some [0]:=by decide +kernel
  exact ⟨by rw [p]; rfl,fun ns h=>by rw [p] at h; cases h; exact ⟨t5,rfl,h5⟩⟩
 by_cases e6 : wd = "let"
 ·subst e6
  have p : partsA "let" = some [0]:=by decide +kernel
  exact ⟨by rw [p]; rfl,fun ns h=>by rw [p] at h; cases h; exact ⟨t6,rfl,h6⟩⟩
 have p : partsA wd = none:=by
  unfold partsA
  rw [if_neg (by simp [e1,e2,e3,e4]),if_neg (by simp [e5,e6])]
 have q : lookD (pk6 t1 t2 t3 t4 t5 t6) wd = none:=by
  unfold lookD pk6
  simp [Ne.symm e1,Ne.symm e2,Ne.symm e3,Ne.symm e4,Ne.symm e5,Ne.symm e6]
 rw [p,q]
 exact ⟨rfl,fun ns h=>nomatch h⟩
theorem all_mk {l : PySem.W.OpenLaw} {w : World} {K : PySem.W.Frag} {h : Heap} {mg : Str→Option Value} {fa f1 f2 f3 f4 f5 f6 f7 f8 f9 f10 f11 f12 f13 f14 f15 f16 f17 f18 f19 f20 f21 f22 f23 f24 f25 f26 : Addr} (X : K.In h) (G : h.Ns mainGlobals mg) (hfa : mg "law" = some (.ref fa))
  {od1 an1 od2 an2 od3 an3 od4 an4 od5 an5 od6 an6 od7 an7 od8 an8 od9 an9 od10 an10 od11 an11 od12 an12 od13 an13 od14 an14 od15 an15 od16 an16 od17 an17 od18 an18 od19 an19 od20 an20 od21 an21 od22 an22 od23 an23 od24 an24 od25 an25 od26 an26 : Option Addr}
  {sl1 sl2 sl3 sl4 sl5 sl6 sl7 sl8 sl9 sl10 sl11 sl12 sl13 sl14 sl15 sl16 sl17 sl18 sl19 sl20 sl21 sl22 sl23 sl24 sl25 sl26 : Array (Option Value)}
  {oc1 kV1 dc1 pm1 cd1 ct1 oc2 kV2 dc2 pm2 cd2 ct2 oc3 kV3 dc3 pm3 cd3 ct3 oc4 kV4 dc4 pm4 cd4 ct4 oc5 kV5 dc5 pm5 cd5 ct5 oc6 kV6 dc6 pm6 cd6 ct6 oc7 kV7 dc7 pm7 cd7 ct7 oc8 kV8 dc8 pm8 cd8 ct8 oc9 kV9 dc9 pm9 cd9 ct9 oc10 kV10 dc10 pm10 cd10 ct10 oc11 kV11 dc11 pm11 cd11 ct11 oc12 kV12 dc12 pm12 cd12 ct12 oc13 kV13 dc13 pm13 cd13 ct13 oc14 kV14 dc14 pm14 cd14 ct14 oc15 kV15 dc15 pm15 cd15 ct15 oc16 kV16 dc16 pm16 cd16 ct16 oc17 kV17 dc17 pm17 cd17 ct17 oc18 kV18 dc18 pm18 cd18 ct18 oc19 kV19 dc19 pm19 cd19 ct19 oc20 kV20 dc20 pm20 cd20 ct20 oc21 kV21 dc21 pm21 cd21 ct21 oc22 kV22 dc22 pm22 cd22 ct22 oc23 kV23 dc23 pm23 cd23 ct23 oc24 kV24 dc24 pm24 cd24 ct24 oc25 kV25 dc25 pm25 cd25 ct25 oc26 kV26 dc26 pm26 cd26 ct26 : Value}
  (a1 : PySem.W.nsIn K mainGlobals "is_whole" = some (some (.ref f1))) (l1 : K.lookup f1 = some ⟨oc1,od1,.func (PySem.W.fnOf "is_whole" "is_whole" (defArgs s_is_whole) (defBody s_is_whole) (defScope s_is_whole) .none kV1 dc1 pm1 an1 cd1 ct1),sl1⟩) (c1 : PySem.W.codeIn K cd1 "is_whole" = true) (k1 : PySem.W.keepIn K (.ref f1) = true)
  (a2 : PySem.W.nsIn K mainGlobals "placed_forms" = some (some (.ref f2))) (l2 : K.lookup f2 = some ⟨oc2,od2,.func (PySem.W.fnOf "placed_forms" "placed_forms" (defArgs s_placed_forms) (defBody s_placed_forms) (defScope s_placed_forms) .none kV2 dc2 pm2 an2 cd2 ct2),sl2⟩) (c2 : PySem.W.codeIn K cd2 "placed_forms" = true) (k2 : PySem.W.keepIn K (.ref f2) = true)
  (a3 : PySem.W.nsIn K mainGlobals "has_part" = some (some (.ref f3))) (l3 : K.lookup f3 = some ⟨oc3,od3,.func (PySem.W.fnOf "has_part" "has_part" (defArgs s_has_part) (defBody s_has_part) (defScope s_has_part) .none kV3 dc3 pm3 an3 cd3 ct3),sl3⟩) (c3 : PySem.W.codeIn K cd3 "has_part" = true) (k3 : PySem.W.keepIn K (.ref f3) = true)
  (a4 : PySem.W.nsIn K mainGlobals "forms_down_to" = some (some (.ref f4))) (l4 : K.lookup f4 = some ⟨oc4,od4,.func (PySem.W.fnOf "forms_down_to" "forms_down_to" (defArgs s_forms_down_to) (defBody s_forms_down_to) (defScope s_forms_down_to) .none kV4 dc4 pm4 an4 cd4 ct4),sl4⟩) (c4 : PySem.W.codeIn K cd4 "forms_down_to" = true) (k4 : PySem.W.keepIn K (.ref f4) = true)
  (a5 : PySem.W.nsIn K mainGlobals "form_at" = some (some (.ref f5))) (l5 : K.lookup f5 = some ⟨oc5,od5,.func (PySem.W.fnOf "form_at" "form_at" (defArgs s_form_at) (defBody s_form_at) (defScope s_form_at) .none kV5 dc5 pm5 an5 cd5 ct5),sl5⟩) (c5 : PySem.W.codeIn K cd5 "form_at" = true) (k5 : PySem.W.keepIn K (.ref f5) = true)
  (a6 : PySem.W.nsIn K mainGlobals "with_part" = some (some (.ref f6))) (l6 : K.lookup f6 = some ⟨oc6,od6,.func (PySem.W.fnOf "with_part" "with_part" (defArgs s_with_part) (defBody s_with_part) (defScope s_with_part) .none kV6 dc6 pm6 an6 cd6 ct6),sl6⟩) (c6 : PySem.W.codeIn K cd6 "with_part" = true) (k6 : PySem.W.keepIn K (.ref f6) = true)
  (a7 : PySem.W.nsIn K mainGlobals "with_at" = some (some (.ref f7))) (l7 : K.lookup f7 = some ⟨oc7,od7,.func (PySem.W.fnOf "with_at" "with_at" (defArgs s_with_at) (defBody s_with_at) (defScope s_with_at) .none kV7 dc7 pm7 an7 cd7 ct7),sl7⟩) (c7 : PySem.W.codeIn K cd7 "with_at" = true) (k7 : PySem.W.keepIn K (.ref f7) = true)
  (a8 : PySem.W.nsIn K mainGlobals "refuse_no_gap" = some (some (.ref f8))) (l8 : K.lookup f8 = some ⟨oc8,od8,.func (PySem.W.fnOf "refuse_no_gap" "refuse_no_gap" (defArgs s_refuse_no_gap) (defBody s_refuse_no_gap) (defScope s_refuse_no_gap) .none kV8 dc8 pm8 an8 cd8 ct8),sl8⟩) (c8 : PySem.W.codeIn K cd8 "refuse_no_gap" = true) (k8 : PySem.W.keepIn K (.ref f8) = true)
  (a9 : PySem.W.nsIn K mainGlobals "is_finished" = some (some (.ref f9))) (l9 : K.lookup f9 = some ⟨oc9,od9,.func (PySem.W.fnOf "is_finished" "is_finished" (defArgs s_is_finished) (defBody s_is_finished) (defScope s_is_finished) .none kV9 dc9 pm9 an9 cd9 ct9),sl9⟩) (c9 : PySem.W.codeIn K cd9 "is_finished" = true) (k9 : PySem.W.keepIn K (.ref f9) = true)
  (a10 : PySem.W.nsIn K mainGlobals "names_bound" = some (some (.ref f10))) (l10 : K.lookup f10 = some ⟨oc10,od10,.func (PySem.W.fnOf "names_bound" "names_bound" (defArgs s_names_bound) (defBody s_names_bound) (defScope s_names_bound) .none kV10 dc10 pm10 an10 cd10 ct10),sl10⟩) (c10 : PySem.W.codeIn K cd10 "names_bound" = true) (k10 : PySem.W.keepIn K (.ref f10) = true)
  (a11 : PySem.W.nsIn K mainGlobals "are_numbers" = some (some (.ref f11))) (l11 : K.lookup f11 = some ⟨oc11,od11,.func (PySem.W.fnOf "are_numbers" "are_numbers" (defArgs s_are_numbers) (defBody s_are_numbers) (defScope s_are_numbers) .none kV11 dc11 pm11 an11 cd11 ct11),sl11⟩) (c11 : PySem.W.codeIn K cd11 "are_numbers" = true) (k11 : PySem.W.keepIn K (.ref f11) = true)
  (a12 : PySem.W.nsIn K mainGlobals "reckoned" = some (some (.ref f12))) (l12 : K.lookup f12 = some ⟨oc12,od12,.func (PySem.W.fnOf "reckoned" "reckoned" (defArgs s_reckoned) (defBody s_reckoned) (defScope s_reckoned) .none kV12 dc12 pm12 an12 cd12 ct12),sl12⟩) (c12 : PySem.W.codeIn K cd12 "reckoned" = true) (k12 : PySem.W.keepIn K (.ref f12) = true)
  (a13 : PySem.W.nsIn K mainGlobals "thing_now" = some (some (.ref f13))) (l13 : K.lookup f13 = some ⟨oc13,od13,.func (PySem.W.fnOf "thing_now" "thing_now" (defArgs s_thing_now) (defBody s_thing_now) (defScope s_thing_now) .none kV13 dc13 pm13 an13 cd13 ct13),sl13⟩) (c13 : PySem.W.codeIn K cd13 "thing_now" = true) (k13 : PySem.W.keepIn K (.ref f13) = true)
  (a14 : PySem.W.nsIn K mainGlobals "thing_of_row" = some (some (.ref f14))) (l14 : K.lookup f14 = some ⟨oc14,od14,.func (PySem.W.fnOf "thing_of_row" "thing_of_row" (defArgs s_thing_of_row) (defBody s_thing_of_row) (defScope s_thing_of_row) .none kV14 dc14 pm14 an14 cd14 ct14),sl14⟩) (c14 : PySem.W.codeIn K cd14 "thing_of_row" = true) (k14 : PySem.W.keepIn K (.ref f14) = true)
  (a15 : PySem.W.nsIn K mainGlobals "go_on" = some (some (.ref f15))) (l15 : K.lookup f15 = some ⟨oc15,od15,.func (PySem.W.fnOf "go_on" "go_on" (defArgs s_go_on) (defBody s_go_on) (defScope s_go_on) .none kV15 dc15 pm15 an15 cd15 ct15),sl15⟩) (c15 : PySem.W.codeIn K cd15 "go_on" = true) (k15 : PySem.W.keepIn K (.ref f15) = true)
  (a16 : PySem.W.nsIn K mainGlobals "_law_cell" = some (some (.ref f16))) (l16 : K.lookup f16 = some ⟨oc16,od16,.func (PySem.W.fnOf "_law_cell" "_law_cell" (defArgs s_law_cell) (defBody s_law_cell) (defScope s_law_cell) .none kV16 dc16 pm16 an16 cd16 ct16),sl16⟩) (c16 : PySem.W.codeIn K cd16 "_law_cell" = true) (k16 : PySem.W.keepIn K (.ref f16) = true)
  (a17 : PySem.W.nsIn K mainGlobals "_law_mixed" = some (some (.ref f17))) (l17 : K.lookup f17 = some ⟨oc17,od17,.func (PySem.W.fnOf "_law_mixed" "_law_mixed" (defArgs s_law_mixed) (defBody s_law_mixed) (defScope s_law_mixed) .none kV17 dc17 pm17 an17 cd17 ct17),sl17⟩) (c17 : PySem.W.codeIn K cd17 "_law_mixed" = true) (k17 : PySem.W.keepIn K (.ref f17) = true)
  (a18 : PySem.W.nsIn K mainGlobals "_law_same" = some (some (.ref f18))) (l18 : K.lookup f18 = some ⟨oc18,od18,.func (PySem.W.fnOf "_law_same" "_law_same" (defArgs s_law_same) (defBody s_law_same) (defScope s_law_same) .none kV18 dc18 pm18 an18 cd18 ct18),sl18⟩) (c18 : PySem.W.codeIn K cd18 "_law_same" = true) (k18 : PySem.W.keepIn K (.ref f18) = true)
  (a19 : PySem.W.nsIn K mainGlobals "_law_names" = some (some (.ref f19))) (l19 : K.lookup f19 = some ⟨oc19,od19,.func (PySem.W.fnOf "_law_names" "_law_names" (defArgs s_law_names) (defBody s_law_names) (defScope s_law_names) .none kV19 dc19 pm19 an19 cd19 ct19),sl19⟩) (c19 : PySem.W.codeIn K cd19 "_law_names" = true) (k19 : PySem.W.keepIn K (.ref f19) = true)
  (a20 : PySem.W.nsIn K mainGlobals "_law_number" = some (some (.ref f20))) (l20 : K.lookup f20 = some ⟨oc20,od20,.func (PySem.W.fnOf "_law_number" "_law_number" (defArgs s_law_number) (defBody s_law_number) (defScope s_law_number) .none kV20 dc20 pm20 an20 cd20 ct20),sl20⟩) (c20 : PySem.W.codeIn K cd20 "_law_number" = true) (k20 : PySem.W.keepIn K (.ref f20) = true)
  (a21 : PySem.W.nsIn K mainGlobals "_law_odd" = some (some (.ref f21))) (l21 : K.lookup f21 = some ⟨oc21,od21,.func (PySem.W.fnOf "_law_odd" "_law_odd" (defArgs s_law_odd) (defBody s_law_odd) (defScope s_law_odd) .none kV21 dc21 pm21 an21 cd21 ct21),sl21⟩) (c21 : PySem.W.codeIn K cd21 "_law_odd" = true) (k21 : PySem.W.keepIn K (.ref f21) = true)
  (a22 : PySem.W.nsIn K mainGlobals "_law_leaf" = some (some (.ref f22))) (l22 : K.lookup f22 = some ⟨oc22,od22,.func (PySem.W.fnOf "_law_leaf" "_law_leaf" (defArgs s_law_leaf) (defBody s_law_leaf) (defScope s_law_leaf) .none kV22 dc22 pm22 an22 cd22 ct22),sl22⟩) (c22 : PySem.W.codeIn K cd22 "_law_leaf" = true) (k22 : PySem.W.keepIn K (.ref f22) = true)
  (a23 : PySem.W.nsIn K mainGlobals "_law_comes" = some (some (.ref f23))) (l23 : K.lookup f23 = some ⟨oc23,od23,.func (PySem.W.fnOf "_law_comes" "_law_comes" (defArgs s_law_comes) (defBody s_law_comes) (defScope s_law_comes) .none kV23 dc23 pm23 an23 cd23 ct23),sl23⟩) (c23 : PySem.W.codeIn K cd23 "_law_comes" = true) (k23 : PySem.W.keepIn K (.ref f23) = true)
  (a24 : PySem.W.nsIn K mainGlobals "_law_joined" = some (some (.ref f24))) (l24 : K.lookup f24 = some ⟨oc24,od24,.func (PySem.W.fnOf "_law_joined" "_law_joined" (defArgs s_law_joined) (defBody s_law_joined) (defScope s_law_joined) .none kV24 dc24 pm24 an24 cd24 ct24),sl24⟩) (c24 : PySem.W.codeIn K cd24 "_law_joined" = true) (k24 : PySem.W.keepIn K (.ref f24) = true)
  (a25 : PySem.W.nsIn K mainGlobals "_law_record" = some (some (.ref f25))) (l25 : K.lookup f25 = some ⟨oc25,od25,.func (PySem.W.fnOf "_law_record" "_law_record" (defArgs s_law_record) (defBody s_law_record) (defScope s_law_record) .none kV25 dc25 pm25 an25 cd25 ct25),sl25⟩) (c25 : PySem.W.codeIn K cd25 "_law_record" = true) (k25 : PySem.W.keepIn K (.ref f25) = true)
  (a26 : PySem.W.nsIn K mainGlobals "law" = some (some (.ref f26))) (l26 : K.lookup f26 = some ⟨oc26,od26,.func (PySem.W.fnOf "law" "law" (defArgs s_law) (defBody s_law) (defScope s_law) .none kV26 dc26 pm26 an26 cd26 ct26),sl26⟩) (c26 : PySem.W.codeIn K cd26 "law" = true) (k26 : PySem.W.keepIn K (.ref f26) = true)
  (z1 : PySem.W.nsIn K mainGlobals "isinstance" = some none)
  (z2 : PySem.W.nsIn K mainGlobals "int" = some none)
  (z3 : PySem.W.nsIn K mainGlobals "bool" = some none)
  (z4 : PySem.W.nsIn K mainGlobals "reversed" = some none)
  (z5 : PySem.W.nsIn K mainGlobals "list" = some none)
  (z6 : PySem.W.nsIn K mainGlobals "enumerate" = some none)
  (z7 : PySem.W.nsIn K mainGlobals "len" = some none)
  (z8 : PySem.W.nsIn K mainGlobals "zip" = some none)
  (z9 : PySem.W.nsIn K mainGlobals "all" = some none)
  (z10 : PySem.W.nsIn K mainGlobals "tuple" = some none)
  (z11 : PySem.W.nsIn K mainGlobals "range" = some none)
  (z12 : PySem.W.nsIn K mainGlobals "str" = some none)
  (z13 : PySem.W.nsIn K mainGlobals "dict" = some none)
  {gst : Tok} (gs1 : PySem.W.nsIn K mainGlobals "MOST_STEPS" = some (some (.int 500 gst))) {wa : Addr} {wo : Option Addr} {wi : Array Value} {wn : Nat} {ws : Array (Option Value)} (gw1 : PySem.W.nsIn K mainGlobals "WORDS_WITH_AROUND" = some (some (.ref wa))) (gw2 : K.lookup wa = some ⟨.type "tuple",wo,.seq wi wn,ws⟩) (gw3 : absAll wi.toList = some (WA.map V.str)) {pa : Addr} {pi : Array DictEntry} {pn : Nat} {t1 t2 t3 t4 t5 t6 : Addr} (gp1 : PySem.W.nsIn K mainGlobals "PARTS_AWAITED" = some (some (.ref pa))) (gp2 : K.lookup pa = some ⟨.type "dict",none,.dict pi pn,#[]⟩) (gp3 : (pa == sysModules) = false)
  (gp4 : Ents w.params pi.toList (pk6 t1 t2 t3 t4 t5 t6)) {o901 : Option Addr} {i901 : Array Value} {n901 : Nat} {s901 : Array (Option Value)} (gt1 : K.lookup t1 = some ⟨.type "tuple",o901,.seq i901 n901,s901⟩) (gu1 : absAll i901.toList = some ([1,0].map V.int)) {o902 : Option Addr} {i902 : Array Value} {n902 : Nat} {s902 : Array (Option Value)} (gt2 : K.lookup t2 = some ⟨.type "tuple",o902,.seq i902 n902,s902⟩) (gu2 : absAll i902.toList = some ([1,0].map V.int)) {o903 : Option Addr} {i903 : Array Value} {n903 : Nat} {s903 : Array (Option Value)} (gt3 : K.lookup t3 = some ⟨.type "tuple",o903,.seq i903 n903,s903⟩)
  (gu3 : absAll i903.toList = some ([1,0].map V.int)) {o904 : Option Addr} {i904 : Array Value} {n904 : Nat} {s904 : Array (Option Value)} (gt4 : K.lookup t4 = some ⟨.type "tuple",o904,.seq i904 n904,s904⟩) (gu4 : absAll i904.toList = some ([1,0].map V.int)) {o905 : Option Addr} {i905 : Array Value} {n905 : Nat} {s905 : Array (Option Value)} (gt5 : K.lookup t5 = some ⟨.type "tuple",o905,.seq i905 n905,s905⟩) (gu5 : absAll i905.toList = some ([0].map V.int)) {o906 : Option Addr} {i906 : Array Value} {n906 : Nat} {s906 : Array (Option Value)} (gt6 : K.lookup t6 = some ⟨.type "tuple",o906,.seq i906 n906,s906⟩)
  (gu6 : absAll i906.toList = some ([0].map V.int)) {AM : Addr} (yMa : PySem.W.nsIn K mainGlobals "Machine" = some (some (.ref AM))) (yMpg : PySem.W.plainGet K AM Str.empty = true) (yMhd : PySem.W.hasDictIn K AM = true) (yMpo : PySem.W.plainOver K AM = true) (yMsa : PySem.W.findIn K (.ref AM) "__setattr__" = some (some (.builtin "object.__setattr__"))) (yMmk : PySem.W.makesIn K AM = true) (yMkc : PySem.W.keepIn K (.ref AM) = true) (yMnforms : PySem.W.findIn K (.ref AM) "forms" = some none) (yMnrows : PySem.W.findIn K (.ref AM) "rows" = some none) (yMnwaiting : PySem.W.findIn K (.ref AM) "waiting" = some none)
  (yMnthings : PySem.W.findIn K (.ref AM) "things" = some none) (yMnsteps : PySem.W.findIn K (.ref AM) "steps" = some none) {g_init : Addr} {ocg_init kVg_init dcg_init pmg_init cdg_init ctg_init : Value} {odg_init ang_init : Option Addr} {slg_init : Array (Option Value)} (g_inita : PySem.W.findIn K (.ref AM) "__init__" = some (some (.ref g_init))) (g_initi : PySem.W.isFn K (.ref g_init) = true) (g_initl : K.lookup g_init = some ⟨ocg_init,odg_init,.func (PySem.W.fnOf "__init__" "Machine.__init__" (defArgs s_Machine_init) (defBody s_Machine_init) (defScope s_Machine_init) .none kVg_init dcg_init pmg_init ang_init cdg_init ctg_init),slg_init⟩)
  (g_initc : PySem.W.codeIn K cdg_init "Machine.__init__" = true) (g_initk : PySem.W.keepIn K (.ref g_init) = true) {g_make_steps : Addr} {ocg_make_steps kVg_make_steps dcg_make_steps pmg_make_steps cdg_make_steps ctg_make_steps : Value} {odg_make_steps ang_make_steps : Option Addr} {slg_make_steps : Array (Option Value)} (g_make_stepsa : PySem.W.findIn K (.ref AM) "make_steps" = some (some (.ref g_make_steps))) (g_make_stepsi : PySem.W.isFn K (.ref g_make_steps) = true) (g_make_stepsl : K.lookup g_make_steps = some ⟨ocg_make_steps,odg_make_steps,.func (PySem.W.fnOf "make_steps" "Machine.make_steps" (defArgs s_Machine_make_steps) (defBody s_Machine_make_steps) (defScope s_Machine_make_steps) .none kVg_make_steps dcg_make_steps pmg_make_steps ang_make_steps cdg_make_steps ctg_make_steps),slg_make_steps⟩)
  (g_make_stepsc : PySem.W.codeIn K cdg_make_steps "Machine.make_steps" = true) (g_make_stepsk : PySem.W.keepIn K (.ref g_make_steps) = true) {g_new_row : Addr} {ocg_new_row kVg_new_row dcg_new_row pmg_new_row cdg_new_row ctg_new_row : Value} {odg_new_row ang_new_row : Option Addr} {slg_new_row : Array (Option Value)} (g_new_rowa : PySem.W.findIn K (.ref AM) "new_row" = some (some (.ref g_new_row))) (g_new_rowi : PySem.W.isFn K (.ref g_new_row) = true) (g_new_rowl : K.lookup g_new_row = some ⟨ocg_new_row,odg_new_row,.func (PySem.W.fnOf "new_row" "Machine.new_row" (defArgs s_Machine_new_row) (defBody s_Machine_new_row) (defScope s_Machine_new_row) .none kVg_new_row dcg_new_row pmg_new_row ang_new_row cdg_new_row ctg_new_row),slg_new_row⟩)
  (g_new_rowc : PySem.W.codeIn K cdg_new_row "Machine.new_row" = true) (g_new_rowk : PySem.W.keepIn K (.ref g_new_row) = true) {g_thing_of_leaf : Addr} {ocg_thing_of_leaf kVg_thing_of_leaf dcg_thing_of_leaf pmg_thing_of_leaf cdg_thing_of_leaf ctg_thing_of_leaf : Value} {odg_thing_of_leaf ang_thing_of_leaf : Option Addr} {slg_thing_of_leaf : Array (Option Value)} (g_thing_of_leafa : PySem.W.findIn K (.ref AM) "thing_of_leaf" = some (some (.ref g_thing_of_leaf))) (g_thing_of_leafi : PySem.W.isFn K (.ref g_thing_of_leaf) = true) (g_thing_of_leafl : K.lookup g_thing_of_leaf = some ⟨ocg_thing_of_leaf,odg_thing_of_leaf,.func (PySem.W.fnOf "thing_of_leaf" "Machine.thing_of_leaf" (defArgs s_Machine_thing_of_leaf) (defBody s_Machine_thing_of_leaf) (defScope s_Machine_thing_of_leaf) .none kVg_thing_of_leaf dcg_thing_of_leaf pmg_thing_of_leaf ang_thing_of_leaf cdg_thing_of_leaf ctg_thing_of_leaf),slg_thing_of_leaf⟩)
  (g_thing_of_leafc : PySem.W.codeIn K cdg_thing_of_leaf "Machine.thing_of_leaf" = true) (g_thing_of_leafk : PySem.W.keepIn K (.ref g_thing_of_leaf) = true) {g_come_to : Addr} {ocg_come_to kVg_come_to dcg_come_to pmg_come_to cdg_come_to ctg_come_to : Value} {odg_come_to ang_come_to : Option Addr} {slg_come_to : Array (Option Value)} (g_come_toa : PySem.W.findIn K (.ref AM) "come_to" = some (some (.ref g_come_to))) (g_come_toi : PySem.W.isFn K (.ref g_come_to) = true) (g_come_tol : K.lookup g_come_to = some ⟨ocg_come_to,odg_come_to,.func (PySem.W.fnOf "come_to" "Machine.come_to" (defArgs s_Machine_come_to) (defBody s_Machine_come_to) (defScope s_Machine_come_to) .none kVg_come_to dcg_come_to pmg_come_to ang_come_to cdg_come_to ctg_come_to),slg_come_to⟩)
  (g_come_toc : PySem.W.codeIn K cdg_come_to "Machine.come_to" = true) (g_come_tok : PySem.W.keepIn K (.ref g_come_to) = true) {g_taken_things : Addr} {ocg_taken_things kVg_taken_things dcg_taken_things pmg_taken_things cdg_taken_things ctg_taken_things : Value} {odg_taken_things ang_taken_things : Option Addr} {slg_taken_things : Array (Option Value)} (g_taken_thingsa : PySem.W.findIn K (.ref AM) "taken_things" = some (some (.ref g_taken_things))) (g_taken_thingsi : PySem.W.isFn K (.ref g_taken_things) = true) (g_taken_thingsl : K.lookup g_taken_things = some ⟨ocg_taken_things,odg_taken_things,.func (PySem.W.fnOf "taken_things" "Machine.taken_things" (defArgs s_Machine_taken_things) (defBody s_Machine_taken_things) (defScope s_Machine_taken_things) .none kVg_taken_things dcg_taken_things pmg_taken_things ang_taken_things cdg_taken_things ctg_taken_things),slg_taken_things⟩)
  (g_taken_thingsc : PySem.W.codeIn K cdg_taken_things "Machine.taken_things" = true) (g_taken_thingsk : PySem.W.keepIn K (.ref g_taken_things) = true) {g_go_further : Addr} {ocg_go_further kVg_go_further dcg_go_further pmg_go_further cdg_go_further ctg_go_further : Value} {odg_go_further ang_go_further : Option Addr} {slg_go_further : Array (Option Value)} (g_go_furthera : PySem.W.findIn K (.ref AM) "go_further" = some (some (.ref g_go_further))) (g_go_furtheri : PySem.W.isFn K (.ref g_go_further) = true) (g_go_furtherl : K.lookup g_go_further = some ⟨ocg_go_further,odg_go_further,.func (PySem.W.fnOf "go_further" "Machine.go_further" (defArgs s_Machine_go_further) (defBody s_Machine_go_further) (defScope s_Machine_go_further) .none kVg_go_further dcg_go_further pmg_go_further ang_go_further cdg_go_further ctg_go_further),slg_go_further⟩)
  (g_go_furtherc : PySem.W.codeIn K cdg_go_further "Machine.go_further" = true) (g_go_furtherk : PySem.W.keepIn K (.ref g_go_further) = true) {g_thing_at_the_end : Addr} {ocg_thing_at_the_end kVg_thing_at_the_end dcg_thing_at_the_end pmg_thing_at_the_end cdg_thing_at_the_end ctg_thing_at_the_end : Value} {odg_thing_at_the_end ang_thing_at_the_end : Option Addr} {slg_thing_at_the_end : Array (Option Value)} (g_thing_at_the_enda : PySem.W.findIn K (.ref AM) "thing_at_the_end" = some (some (.ref g_thing_at_the_end))) (g_thing_at_the_endi : PySem.W.isFn K (.ref g_thing_at_the_end) = true) (g_thing_at_the_endl : K.lookup g_thing_at_the_end = some ⟨ocg_thing_at_the_end,odg_thing_at_the_end,.func (PySem.W.fnOf "thing_at_the_end" "Machine.thing_at_the_end" (defArgs s_Machine_thing_at_the_end) (defBody s_Machine_thing_at_the_end) (defScope s_Machine_thing_at_the_end) .none kVg_thing_at_the_end dcg_thing_at_the_end pmg_thing_at_the_end ang_thing_at_the_end cdg_thing_at_the_end ctg_thing_at_the_end),slg_thing_at_the_end⟩)
  (g_thing_at_the_endc : PySem.W.codeIn K cdg_thing_at_the_end "Machine.thing_at_the_end" = true) (g_thing_at_the_endk : PySem.W.keepIn K (.ref g_thing_at_the_end) = true) {g_thing_of_form : Addr} {ocg_thing_of_form kVg_thing_of_form dcg_thing_of_form pmg_thing_of_form cdg_thing_of_form ctg_thing_of_form : Value} {odg_thing_of_form ang_thing_of_form : Option Addr} {slg_thing_of_form : Array (Option Value)} (g_thing_of_forma : PySem.W.findIn K (.ref AM) "thing_of_form" = some (some (.ref g_thing_of_form))) (g_thing_of_formi : PySem.W.isFn K (.ref g_thing_of_form) = true) (g_thing_of_forml : K.lookup g_thing_of_form = some ⟨ocg_thing_of_form,odg_thing_of_form,.func (PySem.W.fnOf "thing_of_form" "Machine.thing_of_form" (defArgs s_Machine_thing_of_form) (defBody s_Machine_thing_of_form) (defScope s_Machine_thing_of_form) .none kVg_thing_of_form dcg_thing_of_form pmg_thing_of_form ang_thing_of_form cdg_thing_of_form ctg_thing_of_form),slg_thing_of_form⟩)
  (g_thing_of_formc : PySem.W.codeIn K cdg_thing_of_form "Machine.thing_of_form" = true) (g_thing_of_formk : PySem.W.keepIn K (.ref g_thing_of_form) = true) {g_thing_of_parts : Addr} {ocg_thing_of_parts kVg_thing_of_parts dcg_thing_of_parts pmg_thing_of_parts cdg_thing_of_parts ctg_thing_of_parts : Value} {odg_thing_of_parts ang_thing_of_parts : Option Addr} {slg_thing_of_parts : Array (Option Value)} (g_thing_of_partsa : PySem.W.findIn K (.ref AM) "thing_of_parts" = some (some (.ref g_thing_of_parts))) (g_thing_of_partsi : PySem.W.isFn K (.ref g_thing_of_parts) = true) (g_thing_of_partsl : K.lookup g_thing_of_parts = some ⟨ocg_thing_of_parts,odg_thing_of_parts,.func (PySem.W.fnOf "thing_of_parts" "Machine.thing_of_parts" (defArgs s_Machine_thing_of_parts) (defBody s_Machine_thing_of_parts) (defScope s_Machine_thing_of_parts) .none kVg_thing_of_parts dcg_thing_of_parts pmg_thing_of_parts ang_thing_of_parts cdg_thing_of_parts ctg_thing_of_parts),slg_thing_of_parts⟩)
  (g_thing_of_partsc : PySem.W.codeIn K cdg_thing_of_parts "Machine.thing_of_parts" = true) (g_thing_of_partsk : PySem.W.keepIn K (.ref g_thing_of_parts) = true) {g_go_within : Addr} {ocg_go_within kVg_go_within dcg_go_within pmg_go_within cdg_go_within ctg_go_within : Value} {odg_go_within ang_go_within : Option Addr} {slg_go_within : Array (Option Value)} (g_go_withina : PySem.W.findIn K (.ref AM) "go_within" = some (some (.ref g_go_within))) (g_go_withini : PySem.W.isFn K (.ref g_go_within) = true) (g_go_withinl : K.lookup g_go_within = some ⟨ocg_go_within,odg_go_within,.func (PySem.W.fnOf "go_within" "Machine.go_within" (defArgs s_Machine_go_within) (defBody s_Machine_go_within) (defScope s_Machine_go_within) .none kVg_go_within dcg_go_within pmg_go_within ang_go_within cdg_go_within ctg_go_within),slg_go_within⟩)
  (g_go_withinc : PySem.W.codeIn K cdg_go_within "Machine.go_within" = true) (g_go_withink : PySem.W.keepIn K (.ref g_go_within) = true) {g_is_function : Addr} {ocg_is_function kVg_is_function dcg_is_function pmg_is_function cdg_is_function ctg_is_function : Value} {odg_is_function ang_is_function : Option Addr} {slg_is_function : Array (Option Value)} (g_is_functiona : PySem.W.findIn K (.ref AM) "is_function" = some (some (.ref g_is_function))) (g_is_functioni : PySem.W.isFn K (.ref g_is_function) = true) (g_is_functionl : K.lookup g_is_function = some ⟨ocg_is_function,odg_is_function,.func (PySem.W.fnOf "is_function" "Machine.is_function" (defArgs s_Machine_is_function) (defBody s_Machine_is_function) (defScope s_Machine_is_function) .none kVg_is_function dcg_is_function pmg_is_function ang_is_function cdg_is_function ctg_is_function),slg_is_function⟩)
  (g_is_functionc : PySem.W.codeIn K cdg_is_function "Machine.is_function" = true) (g_is_functionk : PySem.W.keepIn K (.ref g_is_function) = true) {g_call : Addr} {ocg_call kVg_call dcg_call pmg_call cdg_call ctg_call : Value} {odg_call ang_call : Option Addr} {slg_call : Array (Option Value)} (g_calla : PySem.W.findIn K (.ref AM) "call" = some (some (.ref g_call))) (g_calli : PySem.W.isFn K (.ref g_call) = true) (g_calll : K.lookup g_call = some ⟨ocg_call,odg_call,.func (PySem.W.fnOf "call" "Machine.call" (defArgs s_Machine_call) (defBody s_Machine_call) (defScope s_Machine_call) .none kVg_call dcg_call pmg_call ang_call cdg_call ctg_call),slg_call⟩)
  (g_callc : PySem.W.codeIn K cdg_call "Machine.call" = true) (g_callk : PySem.W.keepIn K (.ref g_call) = true) :
  ∃ fd : FuncData,(∀ (s : Shared) (v : Value),BindsTo s fd ⟨[v],[]⟩ [("_law_script",v)])∧∀ base : Heap,K.In base→base.Ns mainGlobals mg→FnOk l.prog w K mg base CX0 10 fa fd ["_law_script"] (spLaw K):=by
 have e:=hfa.symm.trans (PySem.W.mg_of X G a26)
 cases e
 have T : Txt K mg:={ isinstance:=PySem.W.mg_none_of X G z1,int:=PySem.W.mg_none_of X G z2,bool:=PySem.W.mg_none_of X G z3,reversed:=PySem.W.mg_none_of X G z4,list:=PySem.W.mg_none_of X G z5,enumerate:=PySem.W.mg_none_of X G z6,len:=PySem.W.mg_none_of X G z7,zip:=PySem.W.mg_none_of X G z8,all:=PySem.W.mg_none_of X G z9,tuple:=PySem.W.mg_none_of X G z10,range:=PySem.W.mg_none_of X G z11,str:=PySem.W.mg_none_of X G z12,dict:=PySem.W.mg_none_of X G z13 }
 have F1:=fun_mk (st:=s_is_whole) l1 c1 k1
 have b1:=F1.binds (ps:=["thing"]) fun _ _ _ _ _ _=>all1 fun _=>rfl
 have F2:=fun_mk (st:=s_placed_forms) l2 c2 k2
 have b2:=F2.binds (ps:=["tree"]) fun _ _ _ _ _ _=>all1 fun _=>rfl
 have F3:=fun_mk (st:=s_has_part) l3 c3 k3
 have b3:=F3.binds (ps:=["form", "number"]) fun _ _ _ _ _ _=>all2 fun _ _=>rfl
 have F4:=fun_mk (st:=s_forms_down_to) l4 c4 k4
 have b4:=F4.binds (ps:=["tree", "place"]) fun _ _ _ _ _ _=>all2 fun _ _=>rfl
 have F5:=fun_mk (st:=s_form_at) l5 c5 k5
 have b5:=F5.binds (ps:=["tree", "place"]) fun _ _ _ _ _ _=>all2 fun _ _=>rfl
 have F6:=fun_mk (st:=s_with_part) l6 c6 k6
 have b6:=F6.binds (ps:=["form", "number", "part"]) fun _ _ _ _ _ _=>all3 fun _ _ _=>rfl
 have F7:=fun_mk (st:=s_with_at) l7 c7 k7
 have b7:=F7.binds (ps:=["tree", "place", "form"]) fun _ _ _ _ _ _=>all3 fun _ _ _=>rfl
 have F8:=fun_mk (st:=s_refuse_no_gap) l8 c8 k8
 have b8:=F8.binds (ps:=["form"]) fun _ _ _ _ _ _=>all1 fun _=>rfl
 have F9:=fun_mk (st:=s_is_finished) l9 c9 k9
 have b9:=F9.binds (ps:=["thing", "rows"]) fun _ _ _ _ _ _=>all2 fun _ _=>rfl
 have F10:=fun_mk (st:=s_names_bound) l10 c10 k10
 have b10:=F10.binds (ps:=["form", "number"]) fun _ _ _ _ _ _=>all2 fun _ _=>rfl
 have F11:=fun_mk (st:=s_are_numbers) l11 c11 k11
 have b11:=F11.binds (ps:=["things"]) fun _ _ _ _ _ _=>all1 fun _=>rfl
 have F12:=fun_mk (st:=s_reckoned) l12 c12 k12
 have b12:=F12.binds (ps:=["word", "left", "right"]) fun _ _ _ _ _ _=>all3 fun _ _ _=>rfl
 have F13:=fun_mk (st:=s_thing_now) l13 c13 k13
 have b13:=F13.binds (ps:=["thing", "became"]) fun _ _ _ _ _ _=>all2 fun _ _=>rfl
 have F14:=fun_mk (st:=s_thing_of_row) l14 c14 k14
 have b14:=F14.binds (ps:=["machine", "row", "filled", "became"]) fun _ _ _ _ _ _=>all4 fun _ _ _ _=>rfl
 have F15:=fun_mk (st:=s_go_on) l15 c15 k15
 have b15:=F15.binds (ps:=["tree", "record", "place", "form"]) fun _ _ _ _ _ _=>all4 fun _ _ _ _=>rfl
 have F16:=fun_mk (st:=s_law_cell) l16 c16 k16
 have b16:=F16.binds (ps:=["_law_script", "_law_k"]) fun _ _ _ _ _ _=>all2 fun _ _=>rfl
 have F17:=fun_mk (st:=s_law_mixed) l17 c17 k17
 have b17:=F17.binds (ps:=["_law_cell_here", "_law_k"]) fun _ _ _ _ _ _=>all2 fun _ _=>rfl
 have F18:=fun_mk (st:=s_law_same) l18 c18 k18
 have b18:=F18.binds (ps:=["_law_found", "_law_due"]) fun _ _ _ _ _ _=>all2 fun _ _=>rfl
 have F19:=fun_mk (st:=s_law_names) l19 c19 k19
 have b19:=F19.binds (ps:=["_law_cell_here", "_law_many"]) fun _ _ _ _ _ _=>all2 fun _ _=>rfl
 have F20:=fun_mk (st:=s_law_number) l20 c20 k20
 have b20:=F20.binds (ps:=["_law_cell_here"]) fun _ _ _ _ _ _=>all1 fun _=>rfl
 have F21:=fun_mk (st:=s_law_odd) l21 c21 k21
 have b21:=F21.binds (ps:=["_law_cell_here"]) fun _ _ _ _ _ _=>all1 fun _=>rfl
 have F22:=fun_mk (st:=s_law_leaf) l22 c22 k22
 have b22:=F22.binds (ps:=["_law_cell_here", "_law_other", "_law_names_here"]) fun _ _ _ _ _ _=>all3 fun _ _ _=>rfl
 have F23:=fun_mk (st:=s_law_comes) l23 c23 k23
 have b23:=F23.binds (ps:=["_law_form", "_law_place", "_law_around", "_law_rows"]) fun _ _ _ _ _ _=>all4 fun _ _ _ _=>rfl
 have F24:=fun_mk (st:=s_law_joined) l24 c24 k24
 have b24:=F24.binds (ps:=["_law_word", "_law_place", "_law_one", "_law_other", "_law_rows"]) fun _ _ _ _ _ _=>all5 fun _ _ _ _ _=>rfl
 have F25:=fun_mk (st:=s_law_record) l25 c25 k25
 have b25:=F25.binds (ps:=["_law_tree"]) fun _ _ _ _ _ _=>all1 fun _=>rfl
 have F26:=fun_mk (st:=s_law) l26 c26 k26
 have b26:=F26.binds (ps:=["_law_script"]) fun _ _ _ _ _ _=>all1 fun _=>rfl
 refine ⟨PySem.W.fnOf "law" "law" (defArgs s_law) (defBody s_law) (defScope s_law) .none kV26 dc26 pm26 an26 cd26 ct26,fun s v=>.of_eq rfl,fun base _ _=>?_⟩
 have GMS : Glob mg "MOST_STEPS" (.int 500):=⟨_,PySem.W.mg_of X G gs1,⟨_,rfl⟩⟩
 have GWA : Glob mg "WORDS_WITH_AROUND" (.ref wa):=⟨_,PySem.W.mg_of X G gw1,rfl⟩
 have HWA:=top_tuple gw2 gw3 (by decide)
 have GPA : Glob mg "PARTS_AWAITED" (.ref pa):=⟨_,PySem.W.mg_of X G gp1,rfl⟩
 have HPA : DkK l.prog w K pa (pk6 t1 t2 t3 t4 t5 t6):=dk_mk gp2 gp3 gp4 pk6_nd
 have HPK:=parts_ok (K:=K) (top_tuple gt1 gu1 (by decide)) (top_tuple gt2 gu2 (by decide)) (top_tuple gt3 gu3 (by decide)) (top_tuple gt4 gu4 (by decide)) (top_tuple gt5 gu5 (by decide)) (top_tuple gt6 gu6 (by decide))
 have clM : Cls K AM:=⟨yMpg,yMhd,yMpo,yMsa⟩
 have MCx : Mc K AM:=⟨clM,yMnforms,yMnrows,yMnwaiting,yMnthings,yMnsteps⟩
 have Fg_init:=fun_mk (st:=s_Machine_init) g_initl g_initc g_initk
 have bg_init:=Fg_init.binds (ps:=["self", "tree", "steps"]) fun _ _ _ _ _ _=>all3 fun _ _ _=>rfl
 have Fg_make_steps:=fun_mk (st:=s_Machine_make_steps) g_make_stepsl g_make_stepsc g_make_stepsk
 have bg_make_steps:=Fg_make_steps.binds (ps:=["self", "many"]) fun _ _ _ _ _ _=>all2 fun _ _=>rfl
 have Fg_new_row:=fun_mk (st:=s_Machine_new_row) g_new_rowl g_new_rowc g_new_rowk
 have bg_new_row:=Fg_new_row.binds (ps:=["self", "word", "place", "operands", "around"]) fun _ _ _ _ _ _=>all5 fun _ _ _ _ _=>rfl
 have Fg_thing_of_leaf:=fun_mk (st:=s_Machine_thing_of_leaf) g_thing_of_leafl g_thing_of_leafc g_thing_of_leafk
 have bg_thing_of_leaf:=Fg_thing_of_leaf.binds (ps:=["self", "word", "note", "place", "around"]) fun _ _ _ _ _ _=>all5 fun _ _ _ _ _=>rfl
 have Fg_come_to:=fun_mk (st:=s_Machine_come_to) g_come_tol g_come_toc g_come_tok
 have bg_come_to:=Fg_come_to.binds (ps:=["self", "place", "around"]) fun _ _ _ _ _ _=>all3 fun _ _ _=>rfl
 have Fg_taken_things:=fun_mk (st:=s_Machine_taken_things) g_taken_thingsl g_taken_thingsc g_taken_thingsk
 have bg_taken_things:=Fg_taken_things.binds (ps:=["self", "many"]) fun _ _ _ _ _ _=>all2 fun _ _=>rfl
 have Fg_go_further:=fun_mk (st:=s_Machine_go_further) g_go_furtherl g_go_furtherc g_go_furtherk
 have bg_go_further:=Fg_go_further.binds (ps:=["self", "place", "around"]) fun _ _ _ _ _ _=>all3 fun _ _ _=>rfl
 have Fg_thing_at_the_end:=fun_mk (st:=s_Machine_thing_at_the_end) g_thing_at_the_endl g_thing_at_the_endc g_thing_at_the_endk
 have bg_thing_at_the_end:=Fg_thing_at_the_end.binds (ps:=["self"]) fun _ _ _ _ _ _=>all1 fun _=>rfl
 have Fg_thing_of_form:=fun_mk (st:=s_Machine_thing_of_form) g_thing_of_forml g_thing_of_formc g_thing_of_formk
 have bg_thing_of_form:=Fg_thing_of_form.binds (ps:=["self", "place", "around"]) fun _ _ _ _ _ _=>all3 fun _ _ _=>rfl
 have Fg_thing_of_parts:=fun_mk (st:=s_Machine_thing_of_parts) g_thing_of_partsl g_thing_of_partsc g_thing_of_partsk
 have bg_thing_of_parts:=Fg_thing_of_parts.binds (ps:=["self", "place", "operands", "around"]) fun _ _ _ _ _ _=>all4 fun _ _ _ _=>rfl
 have Fg_go_within:=fun_mk (st:=s_Machine_go_within) g_go_withinl g_go_withinc g_go_withink
 have bg_go_within:=Fg_go_within.binds (ps:=["self", "place", "number", "around", "things"]) fun _ _ _ _ _ _=>all5 fun _ _ _ _ _=>rfl
 have Fg_is_function:=fun_mk (st:=s_Machine_is_function) g_is_functionl g_is_functionc g_is_functionk
 have bg_is_function:=Fg_is_function.binds (ps:=["self", "thing"]) fun _ _ _ _ _ _=>all2 fun _ _=>rfl
 have Fg_call:=fun_mk (st:=s_Machine_call) g_calll g_callc g_callk
 have bg_call:=Fg_call.binds (ps:=["self", "operands"]) fun _ _ _ _ _ _=>all2 fun _ _=>rfl
 have C_is_whole:=callee_of (P:=l.prog) (w:=w) (base:=base) (ok_whole F1 T) (PySem.W.mg_of X G a1) k1 b1
 have C_placed_forms:=callee_of (P:=l.prog) (w:=w) (base:=base) (ok_placed F2 T) (PySem.W.mg_of X G a2) k2 b2
 have C_has_part:=callee_of (P:=l.prog) (w:=w) (base:=base) (ok_has F3 T C_is_whole) (PySem.W.mg_of X G a3) k3 b3
 have C_forms_down_to:=callee_of (P:=l.prog) (w:=w) (base:=base) (ok_down F4 T C_has_part) (PySem.W.mg_of X G a4) k4 b4
 have C_form_at:=callee_of (P:=l.prog) (w:=w) (base:=base) (ok_fat F5 T C_forms_down_to) (PySem.W.mg_of X G a5) k5 b5
 have C_with_part:=callee_of (P:=l.prog) (w:=w) (base:=base) (ok_wpart F6 T) (PySem.W.mg_of X G a6) k6 b6
 have C_with_at:=callee_of (P:=l.prog) (w:=w) (base:=base) (ok_withat F7 T C_forms_down_to C_with_part) (PySem.W.mg_of X G a7) k7 b7
 have C_refuse_no_gap:=callee_of (P:=l.prog) (w:=w) (base:=base) (ok_nogap F8 T) (PySem.W.mg_of X G a8) k8 b8
 have C_is_finished:=callee_of (P:=l.prog) (w:=w) (base:=base) (ok_fin F9 T) (PySem.W.mg_of X G a9) k9 b9
 have C_names_bound:=callee_of (P:=l.prog) (w:=w) (base:=base) (ok_bound F10 T) (PySem.W.mg_of X G a10) k10 b10
 have C_are_numbers:=callee_of (P:=l.prog) (w:=w) (base:=base) (ok_nums F11 T) (PySem.W.mg_of X G a11) k11 b11
 have C_reckoned:=callee_of (P:=l.prog) (w:=w) (base:=base) (ok_reck F12 T) (PySem.W.mg_of X G a12) k12 b12
 have C_thing_now:=callee_of (P:=l.prog) (w:=w) (base:=base) (ok_now F13 T) (PySem.W.mg_of X G a13) k13 b13
 have M1 : MethX CX0 l.prog w K mg base 1 AM "make_steps" ["self", "many"] (sp_make K AM):=⟨g_make_steps,_,ok_make Fg_make_steps T MCx GMS,clM,⟨g_make_stepsa,g_make_stepsi,g_make_stepsk⟩,bg_make_steps⟩
 have M2 : MethX CX0 l.prog w K mg base 1 AM "new_row" ["self", "word", "place", "operands", "around"] (sp_newrow K AM):=⟨g_new_row,_,ok_newrow Fg_new_row T MCx GWA HWA,clM,⟨g_new_rowa,g_new_rowi,g_new_rowk⟩,bg_new_row⟩
 have M3 : MethX CX0 l.prog w K mg base 2 AM "thing_of_leaf" ["self", "word", "note", "place", "around"] (sp_leaf K AM):=⟨g_thing_of_leaf,_,ok_leaf Fg_thing_of_leaf T MCx M2,clM,⟨g_thing_of_leafa,g_thing_of_leafi,g_thing_of_leafk⟩,bg_thing_of_leaf⟩
 have M4 : MethX CX0 l.prog w K mg base 3 AM "come_to" ["self", "place", "around"] (sp_come K AM):=⟨g_come_to,_,ok_come Fg_come_to T MCx GPA HPA HPK M1 M3,clM,⟨g_come_toa,g_come_toi,g_come_tok⟩,bg_come_to⟩
 have M5 : MethX CX0 l.prog w K mg base 1 AM "taken_things" ["self", "many"] (sp_taken K AM):=⟨g_taken_things,_,ok_taken Fg_taken_things T MCx,clM,⟨g_taken_thingsa,g_taken_thingsi,g_taken_thingsk⟩,bg_taken_things⟩
 have MW : MethX CX0 l.prog w K mg base 2 AM "go_within" ["self", "place", "number", "around", "things"] (sp_within K AM):=⟨g_go_within,_,ok_within Fg_go_within T MCx C_names_bound,clM,⟨g_go_withina,g_go_withini,g_go_withink⟩,bg_go_within⟩
 have MI : MethX CX0 l.prog w K mg base 2 AM "is_function" ["self", "thing"] (sp_isfn K AM):=⟨g_is_function,_,ok_isfn Fg_is_function T MCx C_is_finished,clM,⟨g_is_functiona,g_is_functioni,g_is_functionk⟩,bg_is_function⟩
 have MCa : MethX CX0 l.prog w K mg base 3 AM "call" ["self", "operands"] (sp_call K AM):=⟨g_call,_,ok_call Fg_call T MCx MW,clM,⟨g_calla,g_calli,g_callk⟩,bg_call⟩
 have M6 : MethX CX0 l.prog w K mg base 4 AM "go_further" ["self", "place", "around"] (sp_further K AM):=⟨g_go_further,_,ok_further Fg_go_further T MCx GPA HPA HPK M5 M2 MW MCa MI C_are_numbers C_reckoned,clM,⟨g_go_furthera,g_go_furtheri,g_go_furtherk⟩,bg_go_further⟩
 have M7 : MethX CX0 l.prog w K mg base 5 AM "thing_at_the_end" ["self"] (sp_end K AM):=⟨g_thing_at_the_end,_,ok_end Fg_thing_at_the_end T MCx M4 M6,clM,⟨g_thing_at_the_enda,g_thing_at_the_endi,g_thing_at_the_endk⟩,bg_thing_at_the_end⟩
 have MF : MethX CX0 l.prog w K mg base 6 AM "thing_of_form" ["self", "place", "around"] (sp_tof K AM):=⟨g_thing_of_form,_,ok_tof Fg_thing_of_form T MCx M7,clM,⟨g_thing_of_forma,g_thing_of_formi,g_thing_of_formk⟩,bg_thing_of_form⟩
 have MP : MethX CX0 l.prog w K mg base 6 AM "thing_of_parts" ["self", "place", "operands", "around"] (sp_top K AM):=⟨g_thing_of_parts,_,ok_top Fg_thing_of_parts T MCx M7,clM,⟨g_thing_of_partsa,g_thing_of_partsi,g_thing_of_partsk⟩,bg_thing_of_parts⟩
 have MkM : MakeX CX0 l.prog w K mg base 2 "Machine" AM ["self", "tree", "steps"] (sp_init K AM):=⟨g_init,_,ok_init Fg_init T MCx C_placed_forms M1,⟨yMmk,g_inita,g_initi,yMkc⟩,PySem.W.mg_of X G yMa,bg_init⟩
 have C_thing_of_row:=callee_of (P:=l.prog) (w:=w) (base:=base) (ok_trow F14 T MCx GPA HPA HPK C_thing_now M2 MF MP) (PySem.W.mg_of X G a14) k14 b14
 have C_go_on:=callee_of (P:=l.prog) (w:=w) (base:=base) (ok_goon F15 T MCx C_refuse_no_gap C_form_at C_with_at C_thing_now C_thing_of_row MkM) (PySem.W.mg_of X G a15) k15 b15
 have C__law_cell:=callee_of (P:=l.prog) (w:=w) (base:=base) (ok_cell F16 T) (PySem.W.mg_of X G a16) k16 b16
 have C__law_mixed:=callee_of (P:=l.prog) (w:=w) (base:=base) (ok_mixed F17 T) (PySem.W.mg_of X G a17) k17 b17
 have C__law_same:=callee_of (P:=l.prog) (w:=w) (base:=base) (rec_same F18 T (fun n h=>callee_of h (PySem.W.mg_of X G a18) k18 b18) 8) (PySem.W.mg_of X G a18) k18 b18
 have C__law_names:=callee_of (P:=l.prog) (w:=w) (base:=base) (ok_names F19 T C__law_mixed) (PySem.W.mg_of X G a19) k19 b19
 have C__law_number:=callee_of (P:=l.prog) (w:=w) (base:=base) (ok_num F20 T) (PySem.W.mg_of X G a20) k20 b20
 have C__law_odd:=callee_of (P:=l.prog) (w:=w) (base:=base) (ok_lodd F21 T) (PySem.W.mg_of X G a21) k21 b21
 have C__law_leaf:=callee_of (P:=l.prog) (w:=w) (base:=base) (ok_lleaf F22 T C__law_number C__law_odd) (PySem.W.mg_of X G a22) k22 b22
 have C__law_comes:=callee_of (P:=l.prog) (w:=w) (base:=base) (ok_comes F23 T) (PySem.W.mg_of X G a23) k23 b23
 have C__law_joined:=callee_of (P:=l.prog) (w:=w) (base:=base) (ok_joined F24 T) (PySem.W.mg_of X G a24) k24 b24
 have C__law_record:=callee_of (P:=l.prog) (w:=w) (base:=base) (ok_record F25 T C__law_comes C__law_joined) (PySem.W.mg_of X G a25) k25 b25
 exact ok_law F26 T C__law_cell C__law_names C__law_leaf C__law_record C_go_on C__law_same
theorem walk {l : PySem.W.OpenLaw} {q : Program} {loose : List Str} {XP : (Str→Option Value)→Heap→Prop} {YP : World→Heap→Prop} {d : DefRec} {K : Params→PySem.W.Frag} (hn : l.most = some 63) (hdf : d.params.defaults = [])
  (hY : ∀ (w : World) (h : Heap),YP w h→(K w.params).In h)
  (F : ∀ (w : World) (mg : Str→Option Value) (fa : Addr) (h : Heap),(K w.params).In h→h.Ns mainGlobals mg→mg d.name = some (.ref fa) →
   ∃ fd : FuncData,(∀ (s : Shared) (u : Value),BindsTo s fd ⟨[u],[]⟩ [("_law_script",u)])∧∀ base : Heap,(K w.params).In base→base.Ns mainGlobals mg→FnOk l.prog w (K w.params) mg base CX0 10 fa fd ["_law_script"] (spLaw (K w.params))) :
  PySem.W.WalkO q loose XP YP l.row.toRowW d [] (fun f vs=>PySem.call f vs) :=
 L2.walk_of (n:=63) (k:=10) (x:="_law_script") (CX:=fun _=>CX0) (sp:=fun w=>spLaw (K w.params)) hn (by decide) hdf ⟨rfl,by decide,by decide⟩ hY F (fun _ _ a ns hl _ hS=>⟨a,ns,rfl,hS,hl,fun _=>rfl⟩) fun _ _ _ _ _ z=>z
end K51
open PySem PySem.W PyProof.Rows
set_option maxRecDepth 100000 in
set_option maxHeartbeats 0 in
theorem PySem.Challenge.cw_gapscribe_k51_one_gap_filled_holds : PySem.Challenge.rw_gapscribe_k51_one_gap_filled.Holds := by
 w_on; o_law; o_head (PySem.W.kHook K51.KK K51.KA (fun _=>by kernel_rfl)); (case hw=>w_witness2)
 k_fill
 refine K51.walk (l:=PySem.Challenge.rw_gapscribe_k51_one_gap_filled) rfl rfl (fun w h Y=>PySem.W.kIn_of Y) ?F
 case F =>
  intro w mg fa h KX G hmg
  refine' K51.all_mk KX G hmg ?a1 ?l1 ?c1 ?k1 ?a2 ?l2 ?c2 ?k2 ?a3 ?l3 ?c3 ?k3 ?a4 ?l4 ?c4 ?k4 ?a5 ?l5 ?c5 ?k5 ?a6 ?l6 ?c6 ?k6 ?a7 ?l7 ?c7 ?k7 ?a8 ?l8 ?c8 ?k8 ?a9 ?l9 ?c9 ?k9 ?a10 ?l10 ?c10 ?k10 ?a11 ?l11 ?c11 ?k11 ?a12 ?l12 ?c12 ?k12 ?a13 ?l13 ?c13 ?k13 ?a14 ?l14 ?c14 ?k14 ?a15 ?l15 ?c15 ?k15 ?a16 ?l16 ?c16 ?k16 ?a17 ?l17 ?c17 ?k17 ?a18 ?l18 ?c18 ?k18 ?a19 ?l19 ?c19 ?k19 ?a20 ?l20 ?c20 ?k20 ?a21 ?l21 ?c21 ?k21 ?a22 ?l22 ?c22 ?k22 ?a23 ?l23 ?c23 ?k23 ?a24 ?l24 ?c24 ?k24 ?a25 ?l25 ?c25 ?k25 ?a26 ?l26 ?c26 ?k26 ?z1 ?z2 ?z3 ?z4 ?z5 ?z6 ?z7 ?z8 ?z9 ?z10 ?z11 ?z12 ?z13 ?gs1 ?gw1 ?gw2 ?gw3 ?gp1 ?gp2 ?gp3 ?gp4 ?gt1 ?gu1 ?gt2 ?gu2 ?gt3 ?gu3 ?gt4 ?gu4 ?gt5 ?gu5 ?gt6 ?gu6 ?yMa ?yMpg ?yMhd ?yMpo ?yMsa ?yMmk ?yMkc ?yMnforms ?yMnrows ?yMnwaiting ?yMnthings ?yMnsteps ?g_inita ?g_initi ?g_initl ?g_initc ?g_initk ?g_make_stepsa ?g_make_stepsi ?g_make_stepsl ?g_make_stepsc ?g_make_stepsk ?g_new_rowa ?g_new_rowi ?g_new_rowl ?g_new_rowc ?g_new_rowk ?g_thing_of_leafa ?g_thing_of_leafi ?g_thing_of_leafl ?g_thing_of_leafc ?g_thing_of_leafk ?g_come_toa ?g_come_toi ?g_come_tol ?g_come_toc ?g_come_tok ?g_taken_thingsa ?g_taken_thingsi ?g_taken_thingsl ?g_taken_thingsc ?g_taken_thingsk ?g_go_furthera ?g_go_furtheri ?g_go_furtherl ?g_go_furtherc ?g_go_furtherk ?g_thing_at_the_enda ?g_thing_at_the_endi ?g_thing_at_the_endl ?g_thing_at_the_endc ?g_thing_at_the_endk ?g_thing_of_forma ?g_thing_of_formi ?g_thing_of_forml ?g_thing_of_formc ?g_thing_of_formk ?g_thing_of_partsa ?g_thing_of_partsi ?g_thing_of_partsl ?g_thing_of_partsc ?g_thing_of_partsk ?g_go_withina ?g_go_withini ?g_go_withinl ?g_go_withinc ?g_go_withink ?g_is_functiona ?g_is_functioni ?g_is_functionl ?g_is_functionc ?g_is_functionk ?g_calla ?g_calli ?g_calll ?g_callc ?g_callk
  (case a1=>k_is)
  (case l1=>k_is)
  (case c1=>k_is)
  (case k1=>k_is)
  (case a2=>k_is)
  (case l2=>k_is)
  (case c2=>k_is)
  (case k2=>k_is)
  (case a3=>k_is)
  (case l3=>k_is)
  (case c3=>k_is)
  (case k3=>k_is)
  (case a4=>k_is)
  (case l4=>k_is)
  (case c4=>k_is)
  (case k4=>k_is)
  (case a5=>k_is)
  (case l5=>k_is)
  (case c5=>k_is)
  (case k5=>k_is)
  (case a6=>k_is)
  (case l6=>k_is)
  (case c6=>k_is)
  (case k6=>k_is)
  (case a7=>k_is)
  (case l7=>k_is)
  (case c7=>k_is)
  (case k7=>k_is)
  (case a8=>k_is)
  (case l8=>k_is)
  (case c8=>k_is)
  (case k8=>k_is)
  (case a9=>k_is)
  (case l9=>k_is)
  (case c9=>k_is)
  (case k9=>k_is)
  (case a10=>k_is)
  (case l10=>k_is)
  (case c10=>k_is)
  (case k10=>k_is)
  (case a11=>k_is)
  (case l11=>k_is)
  (case c11=>k_is)
  (case k11=>k_is)
  (case a12=>k_is)
  (case l12=>k_is)
  (case c12=>k_is)
  (case k12=>k_is)
  (case a13=>k_is)
  (case l13=>k_is)
  (case c13=>k_is)
  (case k13=>k_is)
  (case a14=>k_is)
  (case l14=>k_is)
  (case c14=>k_is)
  (case k14=>k_is)
  (case a15=>k_is)
  (case l15=>k_is)
  (case c15=>k_is)
  (case k15=>k_is)
  (case a16=>k_is)
  (case l16=>k_is)
  (case c16=>k_is)
  (case k16=>k_is)
  (case a17=>k_is)
  (case l17=>k_is)
  (case c17=>k_is)
  (case k17=>k_is)
  (case a18=>k_is)
  (case l18=>k_is)
  (case c18=>k_is)
  (case k18=>k_is)
  (case a19=>k_is)
  (case l19=>k_is)
  (case c19=>k_is)
  (case k19=>k_is)
  (case a20=>k_is)
  (case l20=>k_is)
  (case c20=>k_is)
  (case k20=>k_is)
  (case a21=>k_is)
  (case l21=>k_is)
  (case c21=>k_is)
  (case k21=>k_is)
  (case a22=>k_is)
  (case l22=>k_is)
  (case c22=>k_is)
  (case k22=>k_is)
  (case a23=>k_is)
  (case l23=>k_is)
  (case c23=>k_is)
  (case k23=>k_is)
  (case a24=>k_is)
  (case l24=>k_is)
  (case c24=>k_is)
  (case k24=>k_is)
  (case a25=>k_is)
  (case l25=>k_is)
  (case c25=>k_is)
  (case k25=>k_is)
  (case a26=>k_is)
  (case l26=>k_is)
  (case c26=>k_is)
  (case k26=>k_is)
  (case z1=>k_is)
  (case z2=>k_is)
  (case z3=>k_is)
  (case z4=>k_is)
  (case z5=>k_is)
  (case z6=>k_is)
  (case z7=>k_is)
  (case z8=>k_is)
  (case z9=>k_is)
  (case z10=>k_is)
  (case z11=>k_is)
  (case z12=>k_is)
  (case z13=>k_is)
  (case gs1=>k_is)
  (case gw1=>k_is)
  (case gw2=>k_is)
  (case gw3=>rfl)
  (case gp1=>k_is)
  (case gp2=>k_is)
  (case gp3=>rfl)
  (case gp4=>(repeat (first | exact .nil | refine .cons rfl ?_)))
  (case gt1=>k_is)
  (case gu1=>rfl)
  (case gt2=>k_is)
  (case gu2=>rfl)
  (case gt3=>k_is)
  (case gu3=>rfl)
  (case gt4=>k_is)
  (case gu4=>rfl)
  (case gt5=>k_is)
  (case gu5=>rfl)
  (case gt6=>k_is)
  (case gu6=>rfl)
  (case yMa=>k_is)
  (case yMpg=>k_is)
  (case yMhd=>k_is)
  (case yMpo=>k_is)
  (case yMsa=>k_is)
  (case yMmk=>k_is)
  (case yMkc=>k_is)
  (case yMnforms=>k_is)
  (case yMnrows=>k_is)
  (case yMnwaiting=>k_is)
  (case yMnthings=>k_is)
  (case yMnsteps=>k_is)
  (case g_inita=>k_is)
  (case g_initi=>k_is)
  (case g_initl=>k_is)
  (case g_initc=>k_is)
  (case g_initk=>k_is)
  (case g_make_stepsa=>k_is)
  (case g_make_stepsi=>k_is)
  (case g_make_stepsl=>k_is)
  (case g_make_stepsc=>k_is)
  (case g_make_stepsk=>k_is)
  (case g_new_rowa=>k_is)
  (case g_new_rowi=>k_is)
  (case g_new_rowl=>k_is)
  (case g_new_rowc=>k_is)
  (case g_new_rowk=>k_is)
  (case g_thing_of_leafa=>k_is)
  (case g_thing_of_leafi=>k_is)
  (case g_thing_of_leafl=>k_is)
  (case g_thing_of_leafc=>k_is)
  (case g_thing_of_leafk=>k_is)
  (case g_come_toa=>k_is)
  (case g_come_toi=>k_is)
  (case g_come_tol=>k_is)
  (case g_come_toc=>k_is)
  (case g_come_tok=>k_is)
  (case g_taken_thingsa=>k_is)
  (case g_taken_thingsi=>k_is)
  (case g_taken_thingsl=>k_is)
  (case g_taken_thingsc=>k_is)
  (case g_taken_thingsk=>k_is)
  (case g_go_furthera=>k_is)
  (case g_go_furtheri=>k_is)
  (case g_go_furtherl=>k_is)
  (case g_go_furtherc=>k_is)
  (case g_go_furtherk=>k_is)
  (case g_thing_at_the_enda=>k_is)
  (case g_thing_at_the_endi=>k_is)
  (case g_thing_at_the_endl=>k_is)
  (case g_thing_at_the_endc=>k_is)
  (case g_thing_at_the_endk=>k_is)
  (case g_thing_of_forma=>k_is)
  (case g_thing_of_formi=>k_is)
  (case g_thing_of_forml=>k_is)
  (case g_thing_of_formc=>k_is)
  (case g_thing_of_formk=>k_is)
  (case g_thing_of_partsa=>k_is)
  (case g_thing_of_partsi=>k_is)
  (case g_thing_of_partsl=>k_is)
  (case g_thing_of_partsc=>k_is)
  (case g_thing_of_partsk=>k_is)
  (case g_go_withina=>k_is)
  (case g_go_withini=>k_is)
  (case g_go_withinl=>k_is)
  (case g_go_withinc=>k_is)
  (case g_go_withink=>k_is)
  (case g_is_functiona=>k_is)
  (case g_is_functioni=>k_is)
  (case g_is_functionl=>k_is)
  (case g_is_functionc=>k_is)
  (case g_is_functionk=>k_is)
  (case g_calla=>k_is)
  (case g_calli=>k_is)
  (case g_calll=>k_is)
  (case g_callc=>k_is)
  (case g_callk=>k_is)
#print axioms PySem.Challenge.cw_gapscribe_k51_one_gap_filled_holds
