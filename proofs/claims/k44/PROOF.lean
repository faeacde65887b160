import PyProof.Rows.All
import Wide.All
import OpenK.AllK
import Wide.FinOn
import Lean
import PyProof.EqAt
import PyProof.EqKinds
import PyProof.TupleCall
import PyProof.StrBlock2
import KE.KDictOf
import PyProof.AttrMissHeap
import KE.KRevSl
import PySem.Challenge.RW_gapscribe_k44_rec_and_steps
set_option Elab.async false
set_option linter.all false
set_option maxRecDepth 100000
namespace L2
open PySem PySem.Spec PyProof.Rows
noncomputable abbrev Key:=Sum Int Str
noncomputable def keyIs:Key→Value→Bool
 | .inl k,v=>Value.isInt k v
 | .inr x,v=>Value.isStrOf x v
noncomputable def keyH (w:World):Key→Int
 | .inl k=>hashInt k
 | .inr x=>hashStr w x
theorem keyIs_shape:∀ {k:Key} {v:Value},keyIs k v=true→(∃ i t,k=Sum.inl i∧v=Value.int i t)∨(∃ x t,k=Sum.inr x∧v=Value.str x t)
 | .inl i,v,h=>by
  obtain ⟨t,e⟩:=Value.isInt_shape (k:=i) (v:=v) h
  exact .inl ⟨i,t,rfl,e⟩
 | .inr x,v,h=>by
  obtain ⟨t,e⟩:=Value.isStrOf_shape (x:=x) (v:=v) h
  exact .inr ⟨x,t,rfl,e⟩
theorem keyIs_int (i:Int) (t:Tok):keyIs (.inl i) (.int i t)=true:=by simp [keyIs,Value.isInt]
theorem keyIs_str (x:Str) (t:Tok):keyIs (.inr x) (.str x t)=true:=by simp [keyIs,Value.isStrOf]
theorem key_ll (a b:Int):decide ((Sum.inl a:Key)=Sum.inl b)=(a == b):=by
 by_cases e:a=b
 ·subst e; simp
 ·have h:¬ (Sum.inl a:Key)=Sum.inl b:=fun q=>e (Sum.inl.inj q)
  rw [decide_eq_false h]
  exact (beq_eq_false_iff_ne.mpr e).symm
theorem key_rr (a b:Str):decide ((Sum.inr a:Key)=Sum.inr b)=decide (a=b):=by
 by_cases e:a=b
 ·subst e; simp
 ·have h:¬ (Sum.inr a:Key)=Sum.inr b:=fun q=>e (Sum.inr.inj q)
  rw [decide_eq_false h,decide_eq_false e]
theorem key_lr (a:Int) (b:Str):decide ((Sum.inl a:Key)=Sum.inr b)=false:=decide_eq_false (fun q=>nomatch q)
theorem key_rl (a:Str) (b:Int):decide ((Sum.inr a:Key)=Sum.inl b)=false:=decide_eq_false (fun q=>nomatch q)
noncomputable def mixKind (prog:Program) (w:World):PySem.KeyKind prog w Key where
 is:=keyIs
 hash:=keyH w
 inj:=fun v a b ha hb=>by
  rcases keyIs_shape ha with ⟨i,t,rfl,rfl⟩ | ⟨x,t,rfl,rfl⟩
  ·rcases keyIs_shape hb with ⟨j,u,rfl,e⟩ | ⟨y,u,rfl,e⟩
   ·injection e with e1 _; rw [e1]
   ·exact nomatch e
  ·rcases keyIs_shape hb with ⟨j,u,rfl,e⟩ | ⟨y,u,rfl,e⟩
   ·exact nomatch e
   ·injection e with e1 _; rw [e1]
 byValue:=fun k v h=>by
  rcases keyIs_shape h with ⟨i,t,rfl,rfl⟩ | ⟨x,t,rfl,rfl⟩ <;> rfl
 pyHash:=fun hv h=>by
  rcases keyIs_shape hv with ⟨i,t,rfl,rfl⟩ | ⟨x,t,rfl,rfl⟩
  ·exact wpAny_pyHash_int h
  ·exact wpAny_pyHash_str h
 eqBool:=fun hu hv h=>by
  rcases keyIs_shape hu with ⟨i,t,rfl,rfl⟩ | ⟨x,t,rfl,rfl⟩
  ·rcases keyIs_shape hv with ⟨j,u,rfl,rfl⟩ | ⟨y,u,rfl,rfl⟩
   ·rw [key_ll] at h; exact wpAny_eqBool_int h
   ·rw [key_lr] at h; exact SeqAt.EqAt.int_str i t y u _ _ _ _ h
  ·rcases keyIs_shape hv with ⟨j,u,rfl,rfl⟩ | ⟨y,u,rfl,rfl⟩
   ·rw [key_rl] at h; exact SeqAt.EqAt.str_int x t j u _ _ _ _ h
   ·rw [key_rr] at h; exact wpAny_eqBool_str h
 «strs»:=fun k x t v h=>by
  rcases keyIs_shape h with ⟨i,u,rfl,e⟩ | ⟨y,u,rfl,e⟩
  ·exact nomatch e
  ·injection e with e1 _
   subst e1
   cases v <;> rfl
theorem mixKind_int (prog:Program) (w:World) (i:Int) (t:Tok):(mixKind prog w).is (.inl i) (.int i t)=true:=keyIs_int i t
theorem mixKind_str (prog:Program) (w:World) (x:Str) (t:Tok):(mixKind prog w).is (.inr x) (.str x t)=true:=keyIs_str x t
end L2
namespace L2
open PySem PySem.Spec PyProof.Rows
inductive V where
 | non | bl (b:Bool) | int (i:Int) | str (x:Str) | byt (b:Array UInt8) | flt (b:UInt64) | ref (a:Addr) | ty (n:String)
 deriving DecidableEq
noncomputable def RelV:V→Value→Prop
 | .non,u=>u=Value.none
 | .bl b,u=>u=Value.bool b
 | .int i,u=>∃ t,u=Value.int i t
 | .str x,u=>∃ t,u=Value.str x t
 | .byt b,u=>∃ t,u=Value.bytes b t
 | .flt b,u=>∃ t,u=Value.float b t
 | .ref a,u=>u=Value.ref a
 | .ty n,u=>u=Value.type n
noncomputable abbrev Vals:List V→List Value→Prop:=Paired RelV
theorem Vals.length {xs:List V} {us:List Value} (r:Vals xs us):xs.length=us.length:=Paired.length r
theorem Vals.get:∀ {xs:List V} {us:List Value} {i:Nat} {x:V},Vals xs us→xs[i]?=some x→∃ u,us[i]?=some u∧RelV x u
 | _,_,_,_,.nil,e=>by simp at e
 | _,_,0,_,.cons r _,e=>by simp at e; subst e; exact ⟨_,rfl,r⟩
 | _,_,i + 1,x,.cons _ t,e=>by
  obtain ⟨u,h1,h2⟩:=Vals.get (i:=i) (x:=x) t (by simpa using e)
  exact ⟨u,by simpa using h1,h2⟩
theorem Vals.append:∀ {xs ys:List V} {us ws:List Value},Vals xs us→Vals ys ws→Vals (xs++ys) (us++ws)
 | _,_,_,_,.nil,s=>s
 | _,_,_,_,.cons r t,s=>.cons r (Vals.append t s)
theorem Vals.take:∀ {xs:List V} {us:List Value} (n:Nat),Vals xs us→Vals (xs.take n) (us.take n)
 | _,_,0,_=>.nil
 | _,_,_ + 1,.nil=>.nil
 | _,_,n + 1,.cons r t=>.cons r (Vals.take n t)
theorem Vals.drop:∀ {xs:List V} {us:List Value} (n:Nat),Vals xs us→Vals (xs.drop n) (us.drop n)
 | _,_,0,r=>r
 | _,_,_ + 1,.nil=>.nil
 | _,_,n + 1,.cons _ t=>Vals.drop n t
noncomputable def RelO:Option V→Option Value→Prop
 | some v,some u=>RelV v u
 | none,none=>True
 | _,_=>False
noncomputable def KV {κ:Type}:List (κ×V)→List (κ×Value)→Prop:=Paired fun (p:κ×V) (q:κ×Value)=>p.1=q.1∧RelV p.2 q.2
noncomputable def kV:Key→V
 | .inl i=>.int i
 | .inr x=>.str x
inductive HO where
  | lst (xs:List V)
  | tup (xs:List V)
  | dK (kvs:List (Key×V)) | dT (kvs:List (List Key×V))
  | set (S:Int→Bool) (n:Nat)
  | ins (C dx:Addr) (fs:List (Str×V))
  | own (x:Addr)
  | xd (fs:List (Str×V))
  | met (f x:Addr)
  | rng (lo hi:Int)
  | frz (o:Obj) (u:HO)
  | tbl (ps:Array Value)
  | ext (φ:Heap→Prop)
noncomputable abbrev Hp:=Addr→Option HO
noncomputable def upd (H:Hp) (a:Addr) (o:HO):Hp:=fun b=>if b=a then some o else H b
theorem upd_same {H:Hp} {a:Addr} {o:HO}:upd H a o a=some o:=by unfold upd; rw [if_pos rfl]
theorem upd_ne {H:Hp} {a b:Addr} {o:HO} (h:b≠a):upd H a o b=H b:=by unfold upd; rw [if_neg h]
theorem upd_upd {H:Hp} {a:Addr} {o u:HO}:upd (upd H a o) a u=upd H a u:=by
 funext b; unfold upd; split <;> rfl
theorem ne_of {H:Hp} {a b:Addr} {o u:HO} (h:H a=some o) (h':H b=some u) (d:o≠u):a≠b:=by
 intro e; subst e; rw [h] at h'; exact d (Option.some.inj h')
theorem ne_of_none {H:Hp} {a b:Addr} {o:HO} (h:H a=some o) (h':H b=none):a≠b:=by
 intro e; subst e; rw [h] at h'; cases h'
section
variable (P:Program) (w:World)
noncomputable def ObjOk (H:Hp) (h:Heap) (a:Addr):HO→Prop
 | .lst xs=>xs.length≤sizeLine∧∃ (its:List Value) (n:Nat),Vals xs its∧h.get? a=some { cls:=.type "list",data:=.seq its.toArray n }
 | .tup xs=>xs.length≤sizeLine∧∃ its:List Value,Vals xs its∧IsTup h a its.toArray
 | .dK kvs=>kvs.length≤sizeLine∧(a == sysModules)=false∧∃ vs,KV kvs vs∧h.DictOf (mixKind P w) a vs
 | .dT kvs=>kvs.length≤sizeLine∧(a == sysModules)=false∧∃ xs:List (List Key×Addr×Value),
   Paired (fun (p:List Key×V) (q:List Key×Addr×Value)=>p.1=q.1∧H q.2.1=some (.tup (p.1.map kV))∧RelV p.2 q.2.2) kvs xs ∧
   ∃ o es ep,h.get? a=some o∧o.ExactDict∧o.data=.dict es ep∧es.toList=xs.map (entryOfKey (tupleKind (mixKind P w)))∧(xs.map (·.1)).Nodup
 | .set S n=>h.SetOf (intKind P w) a S n
 | .ins C dx fs=>H dx=some (.own a)∧fs.length≤1000∧dx≠a∧h.get? a=some (PySem.W.instObj C dx) ∧
   ∃ mA,h.Ns1 dx mA∧(∀ f,RelO (fs.lookup f) (mA f))∧PySem.Within mA (fs.map (·.1))
 | .own _=>∃ o,h.get? a=some o
 | .xd fs=>∃ mA,h.Ns1 a mA∧∀ f,RelO (fs.lookup f) (mA f)
 | .rng lo hi=>∃ t u v,h.get? a=some { cls:=.type "range",data:=.fields #[.int lo t,.int hi u,.int 1 v] }
 | .frz o u=>h.get? a=some o∧ObjOk H h a u
 | .tbl ps=>h.get? a=some { cls:=.none,data:=.fields ps }
 | .met f x=>h.get? a=some (PySem.W.methodObj (.ref f) (.ref x))
 | .ext φ=>φ h∧(∃ o,h.get? a=some o)∧∀ h1 h2:Heap,φ h1→(∀ o,h1.get? a=some o→h2.get? a=some o)→φ h2
noncomputable def HOk (H:Hp) (h:Heap):Prop:=∀ a o,H a=some o→ObjOk P w H h a o
end
section
variable {P:Program} {w:World} {H H':Hp} {h h':Heap} {a:Addr} {o:HO}
theorem ObjOk.lt (x:ObjOk P w H h a o):a < h.objs.size:=by
 cases o with
 | lst xs=>obtain ⟨_,_,_,_,e⟩:=x; exact Heap.lt_size e
 | tup xs=>obtain ⟨_,_,_,p⟩:=x; exact p.lt
 | dK kvs=>obtain ⟨_,_,_,_,o,_,_,e,_⟩:=x; exact Heap.lt_size e
 | dT kvs=>obtain ⟨_,_,_,_,o,_,_,e,_⟩:=x; exact Heap.lt_size e
 | set S n=>obtain ⟨o,_,_,_,e,_⟩:=x; exact Heap.lt_size e
 | ins C dx fs=>obtain ⟨_,_,_,e,_⟩:=x; exact Heap.lt_size e
 | own y=>obtain ⟨_,e⟩:=x; exact Heap.lt_size e
 | xd fs=>obtain ⟨_,⟨_,_,_,e,_⟩,_⟩:=x; exact Heap.lt_size e
 | rng lo hi=>obtain ⟨_,_,_,e⟩:=x; exact Heap.lt_size e
 | frz ob u=>obtain ⟨e,_⟩:=x; exact Heap.lt_size e
 | tbl ps=>exact Heap.lt_size (show h.get? a=some _ from x)
 | met f y=>exact Heap.lt_size (show h.get? a=some _ from x)
 | ext φ=>obtain ⟨_,⟨_,e⟩,_⟩:=x; exact Heap.lt_size e
theorem Paired.mapP {α β:Type} {F G:α→β→Prop}:∀ {l₁:List α} {l₂:List β},Paired F l₁ l₂→(∀ a b,F a b→G a b)→Paired G l₁ l₂
 | _,_,.nil,_=>.nil
 | _,_,.cons r t,f=>.cons (f _ _ r) (Paired.mapP t f)
theorem ObjOk.stay (x:ObjOk P w H h a o) (k:∀ b u,(b=a∨H b=some (.own a))→h.get? b=some u→h'.get? b=some u)
  (ho:∀ b,H b=some (.own a)→H' b=some (.own a)) (ht:∀ b xs,H b=some (.tup xs)→H' b=some (.tup xs)):ObjOk P w H' h' a o:=by
 induction o with
 | lst xs=>obtain ⟨z,its,n,r,e⟩:=x; exact ⟨z,its,n,r,k _ _ (.inl rfl) e⟩
 | tup xs=>obtain ⟨z,its,r,ob,e,c⟩:=x; exact ⟨z,its,r,ob,k _ _ (.inl rfl) e,c⟩
 | dK kvs=>obtain ⟨z,y,vs,r,ob,es,ep,e,c⟩:=x; exact ⟨z,y,vs,r,ob,es,ep,k _ _ (.inl rfl) e,c⟩
 | dT kvs =>
  obtain ⟨z,y,xs,r,ob,es,ep,e,c⟩:=x
  exact ⟨z,y,xs,Paired.mapP r fun p q z=>⟨z.1,ht _ _ z.2.1,z.2.2⟩,ob,es,ep,k _ _ (.inl rfl) e,c⟩
 | set S n=>obtain ⟨ob,es,ep,t,e,c⟩:=x; exact ⟨ob,es,ep,t,k _ _ (.inl rfl) e,c⟩
 | ins C dx fs =>
  obtain ⟨d,z,ne,e,mA,⟨od,es,ep,e2,c⟩,r⟩:=x
  exact ⟨ho _ d,z,ne,k _ _ (.inl rfl) e,mA,⟨od,es,ep,k _ _ (.inr d) e2,c⟩,r⟩
 | own y=>obtain ⟨ob,e⟩:=x; exact ⟨ob,k _ _ (.inl rfl) e⟩
 | xd fs=>obtain ⟨mA,⟨od,es,ep,e,c⟩,r⟩:=x; exact ⟨mA,⟨od,es,ep,k _ _ (.inl rfl) e,c⟩,r⟩
 | rng lo hi=>obtain ⟨t,u,v,e⟩:=x; exact ⟨t,u,v,k _ _ (.inl rfl) e⟩
 | frz ob u ih=>obtain ⟨e,q⟩:=x; exact ⟨k _ _ (.inl rfl) e,ih q⟩
 | tbl ps =>
  have e:h.get? a=some { cls:=.none,data:=.fields ps }:=x
  show h'.get? a=some { cls:=.none,data:=.fields ps }
  exact k a _ (.inl rfl) e
 | met f y =>
  have e:h.get? a=some (PySem.W.methodObj (.ref f) (.ref y)):=x
  show h'.get? a=some (PySem.W.methodObj (.ref f) (.ref y))
  exact k a _ (.inl rfl) e
 | ext φ=>obtain ⟨p,⟨o,e⟩,st⟩:=x; exact ⟨st _ _ p fun o q=>k _ _ (.inl rfl) q,⟨o,k _ _ (.inl rfl) e⟩,st⟩
theorem HOk.lt (x:HOk P w H h) (e:H a=some o):a < h.objs.size:=(x a o e).lt
theorem HOk.fresh (x:HOk P w H h) (e:h.objs.size≤a):H a=none:=by
 cases q:H a with
 | none=>rfl
 | some u=>exact absurd (Nat.lt_of_lt_of_le (x.lt q) e) (Nat.lt_irrefl _)
theorem HOk.kept (x:HOk P w H h) (k:∀ b u,h.get? b=some u→h'.get? b=some u):HOk P w H h':=fun a o e =>
 (x a o e).stay (fun b u _ q=>k b u q) (fun _ q=>q) fun _ _ q=>q
theorem HOk.laid (x:HOk P w H h) (k:∀ b u,h.get? b=some u→h'.get? b=some u) (hp:h.objs.size≤a) (new:ObjOk P w (upd H a o) h' a o):HOk P w (upd H a o) h':=fun b u e=>by
 have hn:=x.fresh hp
 by_cases hb:b=a
 ·subst hb; rw [upd_same] at e; cases e; exact new
 ·rw [upd_ne hb] at e
  exact (x b u e).stay (fun c v _ q=>k c v q) (fun c q=>by rw [upd_ne (ne_of_none q hn)]; exact q) fun c xs q=>by rw [upd_ne (ne_of_none q hn)]; exact q
end
noncomputable def Rd (H:Hp) (a:Addr) (u:HO):Prop:=H a=some u∨∃ o,H a=some (.frz o u)
theorem Rd.ok {P:Program} {w:World} {H:Hp} {h:Heap} {a:Addr} {u:HO} (r:Rd H a u) (x:HOk P w H h):ObjOk P w H h a u:=by
 rcases r with r | ⟨o,r⟩
 ·exact x a u r
 ·obtain ⟨_,q⟩:=x a _ r
  exact q
noncomputable def Mut:Option HO→Prop
 | some (.lst _)=>True
 | some (.dK _)=>True
 | some (.dT _)=>True
 | some (.set _ _)=>True
 | some (.ins _ _ _)=>True
 | some (.ext _)=>True
 | _=>False
section
variable {P:Program} {w:World} {H:Hp} {h h':Heap} {x e:Addr} {o':HO}
theorem HOk.write (ok:HOk P w H h) (mu:Mut (H x)) (he:e=x∨H e=some (.own x)) (k:∀ b u,b≠e→h.get? b=some u→h'.get? b=some u) (heo:∃ u,h'.get? e=some u)
  (new:ObjOk P w (upd H x o') h' x o'):HOk P w (upd H x o') h':=fun b u q=>by
 have nown:∀ c y,H c=some (.own y)→c≠x:=fun c y r z=>by subst z; rw [r] at mu; exact mu
 have ntup:∀ c xs,H c=some (.tup xs)→c≠x:=fun c xs r z=>by subst z; rw [r] at mu; exact mu
 by_cases hb:b=x
 ·subst hb; rw [upd_same] at q; cases q; exact new
 ·rw [upd_ne hb] at q
  by_cases hbe:b=e
  ·have q':H b=some (.own x):=by
    rcases he with z | z
    ·exact absurd (hbe.trans z) hb
    ·rw [hbe]; exact z
   rw [q] at q'; cases q'
   obtain ⟨v,hv⟩:=heo
   exact ⟨v,by rw [hbe]; exact hv⟩
  ·refine (ok b u q).stay (fun c v hc r=>k c v ?_ r) (fun c r=>by rw [upd_ne (nown c b r)]; exact r) fun c xs r=>by rw [upd_ne (ntup c xs r)]; exact r
   rcases hc with rfl | hc
   ·exact hbe
   ·rintro rfl
    rcases he with z | z
    ·exact nown c b hc z
    ·rw [hc] at z; cases z; exact hb rfl
end
structure Un (fs ex:List Addr) (H H':Hp) (h h':Heap):Prop where
 keep:∀ b o,h.get? b=some o→H b=none→b ∉ fs→b ∉ ex→h'.get? b=some o
 slot:∀ b o,h.get? b=some o→H b=none→b∈fs→b ∉ ex→∃ sl,h'.get? b=some { o with slots:=sl }
 free:∀ b o,h.get? b=some o→H b=none→b ∉ ex→H' b=none
 there:∀ b o,h.get? b=some o→b ∉ ex→∃ o',h'.get? b=some o'
 tups:∀ b xs,H b=some (.tup xs)→H' b=some (.tup xs)
 frzs:∀ b o u,H b=some (.frz o u)→H' b=some (.frz o u)
 tbls:∀ b ps,H b=some (.tbl ps)→∃ more,H' b=some (.tbl (ps++more))
section
variable {fs fs' ex ex':List Addr} {H H1 H2:Hp} {h h1 h2 h':Heap} {a x e:Addr} {o:HO}
theorem Un.any (u:Un fs ex H H1 h h1) {b:Addr} {ob:Obj} (q:h.get? b=some ob) (n:H b=none) (hx:b ∉ ex):∃ sl,h1.get? b=some { ob with slots:=sl }:=by
 by_cases hb:b∈fs
 ·exact u.slot b ob q n hb hx
 ·exact ⟨ob.slots,u.keep b ob q n hb hx⟩
theorem Un.kept (k:∀ b u,h.get? b=some u→h'.get? b=some u):Un fs ex H H h h' :=
 ⟨fun b ob q _ _ _=>k b ob q,fun b ob q _ _ _=>⟨ob.slots,k b ob q⟩,fun _ _ _ n _=>n,fun b ob q _=>⟨ob,k b ob q⟩,fun _ _ q=>q,fun _ _ _ q=>q,fun _ ps q=>⟨#[],by rw [q]; simp⟩⟩
theorem Un.refl:Un fs ex H H h h:=Un.kept fun _ _ q=>q
theorem Un.laid (k:∀ b u,h.get? b=some u→h'.get? b=some u) (hp:h.objs.size≤a) (hn:H a=none):Un fs ex H (upd H a o) h h' where
 keep:=fun b u q _ _ _=>k b u q
 slot:=fun b u q _ _ _=>⟨u.slots,k b u q⟩
 free:=fun b u q n _=>by rw [upd_ne (Nat.ne_of_lt (Nat.lt_of_lt_of_le (Heap.lt_size q) hp))]; exact n
 there:=fun b u q _=>⟨u,k b u q⟩
 tups:=fun b xs q=>by rw [upd_ne (ne_of_none q hn)]; exact q
 frzs:=fun b u xs q=>by rw [upd_ne (ne_of_none q hn)]; exact q
 tbls:=fun b ps q=>⟨#[],by rw [upd_ne (ne_of_none q hn),q]; simp⟩
theorem Un.write (mu:Mut (H x)) (he:e=x∨H e=some (.own x)) (k:∀ b u,b≠e→h.get? b=some u→h'.get? b=some u) (heo:∃ u,h'.get? e=some u):Un fs ex H (upd H x o) h h':=by
 have hx:∀ b,H b=none→b≠x:=fun b n z=>by subst z; rw [n] at mu; exact mu
 have hb:∀ b,H b=none→b≠e:=fun b n z=>by
  subst z
  rcases he with r | r
  ·exact hx b n r
  ·rw [n] at r; cases r
 have hm:∀ b u,H b=some u→¬ Mut (some u)→b≠x:=fun b u q nm z=>by subst z; rw [q] at mu; exact nm mu
 refine ⟨fun b u q n _ _=>k b u (hb b n) q,fun b u q n _ _=>⟨u.slots,k b u (hb b n) q⟩,fun b u q n _=>by rw [upd_ne (hx b n)]; exact n,fun b u q _=>?_,
  fun b xs q=>by rw [upd_ne (hm b _ q fun z=>z)]; exact q,fun b u xs q=>by rw [upd_ne (hm b _ q fun z=>z)]; exact q,fun b ps q=>⟨#[],by rw [upd_ne (hm b _ q fun z=>z),q]; simp⟩⟩
 by_cases hbe:b=e
 ·subst hbe; exact heo
 ·exact ⟨u,k b u hbe q⟩
end
noncomputable def trk (h:Heap) (H:Hp):List Addr:=(List.range h.objs.size).filter fun a=>(H a).isSome
noncomputable def hidT (h:Heap) (H:Hp):Heap:=PySem.W.hideAll h (trk h H)
theorem hidT_size (h:Heap) (H:Hp):(hidT h H).objs.size=h.objs.size:=PySem.W.hideAll_size _ _
theorem hidT_get {h:Heap} {H:Hp} {b:Addr} {o:Obj} (e:h.get? b=some o) (n:H b=none):(hidT h H).get? b=some o :=
 PySem.W.hideAll_get _ e fun hm=>by
  have q:(H b).isSome=true:=(List.mem_filter.mp hm).2
  rw [n] at q; simp at q
theorem of_hidT {h:Heap} {H:Hp} {b:Addr} {o:Obj} (e:(hidT h H).get? b=some o):h.get? b=some o∧H b=none:=by
 have e':h.get? b=some o:=PySem.W.of_hideAll (trk h H) e
 refine ⟨e',?_⟩
 cases q:H b with
 | none=>rfl
 | some x =>
  have hm:b∈trk h H:=List.mem_filter.mpr ⟨List.mem_range.mpr (Heap.lt_size e'),by simp [q]⟩
  have z:(hidT h H).get? b=none:=PySem.W.hideAll_none (trk h H) hm
  rw [z] at e; cases e
end L2
namespace L2
open PySem PySem.Spec PyProof.Rows
structure Mod (K:PySem.W.Frag) (mg:Str→Option Value) (base:Heap):Prop where
 kin:K.In base
 glob:base.Ns mainGlobals mg
 blt:∃ mb,base.Ns builtinsNs mb∧∀ x:Str,x ≠ "__name__" → mb x=bootBuiltins x
 nolimit:base.NoLimit
structure Cx where
 prog:Program
 w:World
 K:PySem.W.Frag
 mg:Str→Option Value
 base:Heap
 A:Around
 N:List Str
 s₀:Shared
 H₀:Hp
 env:Env
 outer:List Env
 stack:List Env
 ex:List Addr
 fn:Str→Bool
 calm:Bool
 pn:List (Addr×Obj)
 xe:Value→Shared→Prop
noncomputable def frs (l:List Env):List Addr:=l.filterMap (·.frame)
noncomputable abbrev Cx.fs (X:Cx):List Addr:=frs X.outer
noncomputable def Vis (sc:Scope) (x:Str):Prop:=sc.names.lookup x=some .local∨sc.names.lookup x=some .cell∨sc.names.lookup x=some .free
noncomputable def Loc (sc:Scope) (x:Str):Prop:=sc.names.lookup x=some .local∨sc.names.lookup x=some .cell
noncomputable def Look (env:Env) (h:Heap) (m:Str→Option Value) (x:Str) (u:Value):Prop :=
 (env.kindOf x=some .local∧m x=some u)∨((env.kindOf x=some .cell∨env.kindOf x=some .free)∧∃ c,env.cells.lookup x=some c∧h.IsCell c (some u))
structure Cx.Ok (X:Cx):Prop where
 mod:Mod X.K X.mg X.base
 kind:X.env.scope.kind=.function
 glob:X.env.globals=mainGlobals
 blt:X.env.builtins=builtinsNs
 above:X.s₀.heap.objs.size≤X.env.locals
 inj:∀ x y c,X.env.cells.lookup x=some c→X.env.cells.lookup y=some c→x=y
 has:∀ x,(X.env.kindOf x=some .cell∨X.env.kindOf x=some .free)→∃ c,X.env.cells.lookup x=some c
 cab:∀ x c,X.fn x=true→X.env.cells.lookup x=some c→X.s₀.heap.objs.size≤c
 hd:X.calm=true→X.A.handled=none
 frames:X.A.frames=some X.stack
 stk:X.stack=X.outer∨(X.stack=X.env :: X.outer∧X.env.frame=some X.env.locals)
 exf:∀ b∈X.ex,b≠X.env.locals∧∀ x c,X.env.cells.lookup x=some c→c≠b
 bs:∀ b o,X.base.get? b=some o→X.s₀.heap.get? b=some o∧X.H₀ b=none
 bsz:X.base.objs.size≤X.s₀.heap.objs.size
 noex:∀ b o,X.base.get? b=some o→b ∉ X.ex
 exfs:∀ b∈X.ex,b ∉ X.fs
 funs:X.s₀.heap.FunFrames X.base X.outer
 frf:∀ b∈X.fs,X.H₀ b=none
structure Inv (X:Cx) (pins:List (Addr×Obj)) (σ:List (Option V)) (H:Hp) (s:Shared):Prop where
 ok:X.Ok
 os:s.os=X.s₀.os
 bare:AllBare s.gens
 base:Un X.fs X.ex X.H₀ H X.s₀.heap s.heap
 loc:∃ m,s.heap.Ns X.env.locals m∧∀ (i:Nat) (x:Str) (v:V),X.N[i]?=some x→σ[i]?=some (some v)→Vis X.env.scope x→∃ u,RelV v u∧Look X.env s.heap m x u
 cell:∀ x c,X.env.cells.lookup x=some c→∃ v,s.heap.IsCell c v
 free:H X.env.locals=none
 freeC:∀ x c,X.env.cells.lookup x=some c→H c=none
 pin:∀ p∈X.pn++pins,s.heap.get? p.1=some p.2∧H p.1=none∧p.1≠X.env.locals∧p.1 ∉ X.fs∧∀ v,p.2.data≠.cell v
 hok:HOk X.prog X.w H s.heap
 len:σ.length=X.N.length
section
variable {X:Cx} {pins:List (Addr×Obj)} {σ:List (Option V)} {H H':Hp} {s:Shared} {h':Heap}
theorem Cx.Ok.nofr (ok:X.Ok) {b:Addr} {o:Obj} (e:X.base.get? b=some o):b ∉ X.fs:=fun hb=>by
 have:=(ok.funs.mem hb).1
 rw [e] at this; cases this
theorem Inv.bs (I:Inv X pins σ H s):∀ b o,X.base.get? b=some o→s.heap.get? b=some o∧H b=none:=fun b o e =>
 ⟨I.base.keep b o (I.ok.bs b o e).1 (I.ok.bs b o e).2 (I.ok.nofr e) (I.ok.noex b o e),I.base.free b o (I.ok.bs b o e).1 (I.ok.bs b o e).2 (I.ok.noex b o e)⟩
theorem Inv.bk (I:Inv X pins σ H s):∀ b o,X.base.get? b=some o→s.heap.get? b=some o:=fun b o e=>(I.bs b o e).1
theorem Inv.mod (I:Inv X pins σ H s):Mod X.K X.mg X.base:=I.ok.mod
theorem Inv.kIn (I:Inv X pins σ H s):X.K.In s.heap:=I.ok.mod.kin.keeps I.bk
theorem Inv.lt (I:Inv X pins σ H s):X.env.locals < s.heap.objs.size:=let ⟨_,hn,_⟩:=I.loc; hn.lt
theorem Inv.sz (I:Inv X pins σ H s):X.s₀.heap.objs.size≤s.heap.objs.size:=Nat.le_trans I.ok.above (Nat.le_of_lt I.lt)
theorem Inv.nofs (I:Inv X pins σ H s) {a:Addr} (h:s.heap.objs.size≤a):a ∉ X.fs:=fun hb=>by
 obtain ⟨_,o,ho,_⟩:=I.ok.funs.mem hb
 exact absurd (Nat.lt_of_lt_of_le (Heap.lt_size ho) (Nat.le_trans I.sz h)) (Nat.lt_irrefl _)
theorem Inv.cne (I:Inv X pins σ H s):∀ x c,X.env.cells.lookup x=some c→c≠X.env.locals:=fun x c e z=>by
 obtain ⟨v,o,ho,hd⟩:=I.cell x c e
 obtain ⟨m,⟨o',es,ep,ho',hd',_⟩,_⟩:=I.loc
 rw [z,ho'] at ho; cases ho; rw [hd'] at hd; cases hd
theorem Inv.funs (I:Inv X pins σ H s):s.heap.FunFrames X.base X.outer:=by
 have all:∀ (l:List Env),(∀ b∈frs l,b∈X.fs)→X.s₀.heap.FunFrames X.base l→s.heap.FunFrames X.base l:=by
  intro l
  induction l with
  | nil=>intro _ _; trivial
  | cons env r ih =>
   intro hs hl
   obtain ⟨hk,⟨L,o,hf,hn,ho,hd⟩,hr⟩:=hl
   have hL:L∈X.fs:=hs L (by unfold frs; rw [List.filterMap_cons,hf]; exact List.mem_cons_self)
   obtain ⟨sl,e⟩:=I.base.slot L o ho (I.ok.frf L hL) hL fun z=>I.ok.exfs L z hL
   exact ⟨hk,⟨L,_,hf,hn,e,hd⟩,ih (fun b hb=>hs b (by unfold frs; rw [List.filterMap_cons,hf]; exact List.mem_cons_of_mem _ hb)) hr⟩
 exact all X.outer (fun _ hb=>hb) I.ok.funs
theorem Inv.stack (I:Inv X pins σ H s):s.heap.FunFrames X.base X.stack:=by
 rcases I.ok.stk with e | ⟨e,hf⟩
 ·rw [e]; exact I.funs
 ·rw [e]
  obtain ⟨m,hn,_⟩:=I.loc
  refine .cons (by rw [I.ok.kind]; decide) hf hn ?_ I.funs
  exact Heap.get?_none_of_le (Nat.le_trans I.ok.bsz I.ok.above)
theorem Inv.stkSub (I:Inv X pins σ H s):∀ b∈frs X.stack,b∈X.env.locals :: X.fs:=fun b hb=>by
 rcases I.ok.stk with e | ⟨e,hf⟩
 ·rw [e] at hb; exact List.mem_cons_of_mem _ hb
 ·rw [e] at hb
  unfold frs at hb
  rw [List.filterMap_cons,hf] at hb
  exact hb
theorem Inv.stkFree (I:Inv X pins σ H s):∀ b∈frs X.stack,H b=none:=fun b hb=>by
 rcases List.mem_cons.mp (I.stkSub b hb) with e | hb
 ·rw [e]; exact I.free
 ·obtain ⟨_,o,ho,_⟩:=I.ok.funs.mem hb
  exact I.base.free b o ho (I.ok.frf b hb) fun z=>I.ok.exfs b z hb
theorem Inv.step {g':Array GenState} {t':Nat} {d':Drawn} {ch:List Addr} (I:Inv X pins σ H s)
  (hch:∀ b∈ch,(b∈X.ex∨X.s₀.heap.objs.size≤b)∧b≠X.env.locals∧(∀ x c,X.env.cells.lookup x=some c→c≠b)∧∀ p∈X.pn++pins,p.1≠b)
  (keep:∀ b o,b≠X.env.locals→b ∉ X.fs→b ∉ ch→s.heap.get? b=some o→H b=none→h'.get? b=some o)
  (slot:∀ b o,b≠X.env.locals→b∈X.fs→b ∉ ch→s.heap.get? b=some o→H b=none→∃ sl,h'.get? b=some { o with slots:=sl }) (free:∀ b o,b ∉ ch→s.heap.get? b=some o→H b=none→H' b=none)
  (there:∀ b o,b ∉ ch→s.heap.get? b=some o→∃ o',h'.get? b=some o')
  (tups:∀ b xs,H b=some (.tup xs)→H' b=some (.tup xs)) (frzs:∀ b o u,H b=some (.frz o u)→H' b=some (.frz o u)) (tbls:∀ b ps,H b=some (.tbl ps)→∃ more,H' b=some (.tbl (ps++more)))
  (ns:∀ m,s.heap.Ns X.env.locals m→h'.Ns X.env.locals m) (hok:HOk X.prog X.w H' h') (hg:AllBare g') :
  Inv X pins σ H' { s with heap:=h',gens:=g',drawn:=d',toks:=t' }:=by
 have neL:∀ b o,X.s₀.heap.get? b=some o→b≠X.env.locals:=fun b o e=>Nat.ne_of_lt (Nat.lt_of_lt_of_le (Heap.lt_size e) I.ok.above)
 have neC:∀ b o,X.s₀.heap.get? b=some o→b ∉ X.ex→b ∉ ch:=fun b o e hx hb=>by
  rcases (hch b hb).1 with z | z
  ·exact hx z
  ·exact absurd (Nat.lt_of_lt_of_le (Heap.lt_size e) z) (Nat.lt_irrefl _)
 have cellK:∀ x c,X.env.cells.lookup x=some c→∀ v,s.heap.IsCell c v→h'.IsCell c v:=fun x c e v ⟨o,ho,hd⟩=>by
  have nch:c ∉ ch:=fun z=>(hch c z).2.2.1 x c e rfl
  by_cases hc:c∈X.fs
  ·obtain ⟨sl,q⟩:=slot c o (I.cne x c e) hc nch ho (I.freeC x c e)
   exact ⟨_,q,hd⟩
  ·exact ⟨o,keep c o (I.cne x c e) hc nch ho (I.freeC x c e),hd⟩
 refine ⟨I.ok,I.os,hg,⟨fun b o e n hb hx=>?_,fun b o e n hb hx=>?_,fun b o e n hx=>?_,fun b o e hx=>?_,fun b xs e=>tups b xs (I.base.tups b xs e),fun b o xs e=>frzs b o xs (I.base.frzs b o xs e),fun b ps e=>?_⟩,?_,fun x c e=>?_,?_,fun x c e=>?_,fun p hp=>?_,hok,I.len⟩
 ·exact keep b o (neL b o e) hb (neC b o e hx) (I.base.keep b o e n hb hx) (I.base.free b o e n hx)
 ·obtain ⟨sl,e1⟩:=I.base.slot b o e n hb hx
  obtain ⟨sl',e2⟩:=slot b _ (neL b o e) hb (neC b o e hx) e1 (I.base.free b o e n hx)
  exact ⟨sl',e2⟩
 ·obtain ⟨o',e1⟩:=I.base.there b o e hx
  exact free b o' (neC b o e hx) e1 (I.base.free b o e n hx)
 ·obtain ⟨o',e1⟩:=I.base.there b o e hx
  exact there b o' (neC b o e hx) e1
 ·obtain ⟨m1,e1⟩:=I.base.tbls b ps e
  obtain ⟨m2,e2⟩:=tbls b _ e1
  exact ⟨m1++m2,by rw [e2,Array.append_assoc]⟩
 ·obtain ⟨m,hn,hl⟩:=I.loc
  refine ⟨m,ns m hn,fun i x v e1 e2 e3=>?_⟩
  obtain ⟨u,r,l⟩:=hl i x v e1 e2 e3
  refine ⟨u,r,?_⟩
  rcases l with l | ⟨k,c,e,z⟩
  ·exact .inl l
  ·exact .inr ⟨k,c,e,cellK x c e _ z⟩
 ·obtain ⟨v,z⟩:=I.cell x c e
  exact ⟨v,cellK x c e v z⟩
 ·obtain ⟨m,⟨o,_,_,ho,_⟩,_⟩:=I.loc
  exact free _ o (fun z=>(hch _ z).2.1 rfl) ho I.free
 ·obtain ⟨v,o,ho,hd⟩:=I.cell x c e
  exact free c o (fun z=>(hch c z).2.2.1 x c e rfl) ho (I.freeC x c e)
 ·obtain ⟨e,n,ne,nf,d⟩:=I.pin p hp
  have nch:p.1 ∉ ch:=fun z=>(hch p.1 z).2.2.2 p hp rfl
  exact ⟨keep p.1 p.2 ne nf nch e n,free p.1 p.2 nch e n,ne,nf,d⟩
theorem Inv.un {t':Nat} (I:Inv X pins σ H s) (u:Un X.fs [] H H' s.heap h') (hok:HOk X.prog X.w H' h'):Inv X pins σ H' { s with heap:=h',toks:=t' }:=by
 obtain ⟨m,⟨o,es,ep,ho,r⟩,_⟩:=id I.loc
 obtain ⟨sl,hL⟩:=u.any ho I.free (by simp)
 exact I.step (g':=s.gens) (d':=s.drawn) (ch:=[]) (fun _ z=>nomatch z) (fun b o _ hb _ e n=>u.keep b o e n hb (by simp)) (fun b o _ hb _ e n=>u.slot b o e n hb (by simp)) (fun b o _ e n=>u.free b o e n (by simp)) (fun b o _ e=>u.there b o e (by simp)) u.tups u.frzs u.tbls (fun m' hm=>by
  obtain ⟨o',es',ep',ho',r'⟩:=hm
  rw [ho] at ho'; cases ho'
  exact ⟨_,es',ep',hL,r'⟩) hok I.bare
theorem Inv.call {g':Array GenState} {t':Nat} {d':Drawn} {ch:List Addr} (I:Inv X pins σ H s) (u:Un (frs X.stack) ch H H' s.heap h') (hok:HOk X.prog X.w H' h') (hg:AllBare g')
  (hch:∀ b∈ch,(b∈X.ex∨X.s₀.heap.objs.size≤b)∧b≠X.env.locals∧(∀ x c,X.env.cells.lookup x=some c→c≠b)∧∀ p∈X.pn++pins,p.1≠b) :
  Inv X pins σ H' { s with heap:=h',gens:=g',drawn:=d',toks:=t' }:=by
 obtain ⟨m,⟨o,es,ep,ho,r⟩,_⟩:=id I.loc
 obtain ⟨sl,hL⟩:=u.any ho I.free fun z=>(hch _ z).2.1 rfl
 exact I.step (ch:=ch) hch (fun b o hL hb hc e n=>u.keep b o e n (fun z=>(List.mem_cons.mp (I.stkSub b z)).elim hL hb) hc) (fun b o _ _ hc e n=>u.any e n hc) (fun b o hc e n=>u.free b o e n hc) (fun b o hc e=>u.there b o e hc) u.tups u.frzs u.tbls (fun m' hm=>by
  obtain ⟨o',es',ep',ho',r'⟩:=hm
  rw [ho] at ho'; cases ho'
  exact ⟨_,es',ep',hL,r'⟩) hok hg
theorem Inv.turned {t':Nat} {it:Addr} (I:Inv X pins σ H s) (k:∀ b o,b≠it→s.heap.get? b=some o→h'.get? b=some o) (hn:H it=none) (hL:it≠X.env.locals)
  (h1:it∈X.ex∨X.s₀.heap.objs.size≤it) (h2:∀ x c,X.env.cells.lookup x=some c→c≠it) (h3:∀ p∈X.pn++pins,p.1≠it):Inv X pins σ H { s with heap:=h',toks:=t' }:=by
 have nit:∀ b u,H b=some u→b≠it:=fun b u e z=>by rw [z,hn] at e; cases e
 refine I.step (g':=s.gens) (d':=s.drawn) (ch:=[it]) (fun b hb=>?_) (fun b o _ _ hc e _=>k b o (fun z=>hc (by simp [z])) e) (fun b o _ _ hc e _=>⟨o.slots,k b o (fun z=>hc (by simp [z])) e⟩) (fun _ _ _ _ n=>n)
  (fun b o hc e=>⟨o,k b o (fun z=>hc (by simp [z])) e⟩) (fun _ _ e=>e) (fun _ _ _ e=>e) (fun b ps e=>⟨#[],by rw [e]; simp⟩) (fun m hm=>?_) (fun b u e=>?_) I.bare
 ·have e:b=it:=by simpa using hb
  subst e
  exact ⟨h1,hL,h2,h3⟩
 ·obtain ⟨o,es,ep,ho,r⟩:=hm
  exact ⟨o,es,ep,k _ o (Ne.symm hL) ho,r⟩
 ·refine (I.hok b u e).stay (fun c v hc q=>k c v ?_ q) (fun _ q=>q) fun _ _ q=>q
  rcases hc with z | z
  ·rw [z]; exact nit b u e
  ·exact nit c _ z
theorem Inv.tok (I:Inv X pins σ H s) (t:Nat):Inv X pins σ H { s with toks:=t }:=I.un (h':=s.heap) (t':=t) Un.refl I.hok
theorem Inv.kept {t':Nat} (I:Inv X pins σ H s) (k:∀ b u,s.heap.get? b=some u→h'.get? b=some u):Inv X pins σ H { s with heap:=h',toks:=t' }:=I.un (Un.kept k) (I.hok.kept k)
theorem Inv.laid {a:Addr} {o:HO} {t':Nat} (I:Inv X pins σ H s) (k:∀ b u,s.heap.get? b=some u→h'.get? b=some u) (hp:s.heap.objs.size≤a) (new:ObjOk X.prog X.w (upd H a o) h' a o) :
  Inv X pins σ (upd H a o) { s with heap:=h',toks:=t' }:=I.un (Un.laid k hp (I.hok.fresh hp)) (I.hok.laid k hp new)
theorem Inv.write {x e:Addr} {o:HO} {t':Nat} (I:Inv X pins σ H s) (mu:Mut (H x)) (he:e=x∨H e=some (.own x)) (k:∀ b u,b≠e→s.heap.get? b=some u→h'.get? b=some u) (heo:∃ u,h'.get? e=some u)
  (new:ObjOk X.prog X.w (upd H x o) h' x o):Inv X pins σ (upd H x o) { s with heap:=h',toks:=t' }:=I.un (Un.write mu he k heo) (I.hok.write mu he k heo new)
theorem Inv.pins_of {pins':List (Addr×Obj)} (I:Inv X pins σ H s) (h:∀ p∈pins',s.heap.get? p.1=some p.2∧H p.1=none∧p.1≠X.env.locals∧p.1 ∉ X.fs∧∀ v,p.2.data≠.cell v):Inv X pins' σ H s :=
 ⟨I.ok,I.os,I.bare,I.base,I.loc,I.cell,I.free,I.freeC,fun p hp=>(List.mem_append.mp hp).elim (fun z=>I.pin p (List.mem_append_left _ z)) (h p),I.hok,I.len⟩
theorem nodup_ix {N:List Str} (hN:N.Nodup) {i j:Nat} {x:Str} (a:N[i]?=some x) (b:N[j]?=some x):i=j:=by
 obtain ⟨h1,e1⟩:=List.getElem?_eq_some_iff.mp a
 obtain ⟨h2,e2⟩:=List.getElem?_eq_some_iff.mp b
 exact (List.getElem_inj hN).mp (e1.trans e2.symm)
theorem store_ok2 {M:Model} {A:Around} {E:Value→Shared→Prop} {i:Nat} {x:Str} {v:V} {u:Value} {Q:Unit→Shared→Prop} (I:Inv X pins σ H s) (hN:X.N.Nodup) (hi:X.N[i]?=some x) (hx:Loc X.env.scope x) (r:RelV v u)
  (h:∀ s',Inv X pins (σ.set i (some v)) H s'→(∃ a,Heap.SameBut a s.heap s'.heap∧(a=X.env.locals∨X.env.cells.lookup x=some a))→Q () s') (hf:X.fn x=true∨X.env.scope.names.lookup x=some .local:=by first | exact .inl rfl | exact .inr rfl | assumption):wpAny M A (storeName X.env x u) Q E s:=by
 obtain ⟨m,hn,hl⟩:=id I.loc
 have hcls:(X.env.scope.kind == .class || (X.env.scope.kind == .module && X.env.locals != X.env.globals))=false:=by rw [I.ok.kind]; rfl
 have hiσ:i < σ.length:=by rw [I.len]; exact (List.getElem?_eq_some_iff.mp hi).1
 have cne:=I.cne
 have tracked:∀ {a:Addr} {h':Heap},(∃ o,s.heap.get? a=some o∧H a=none)→Heap.SameBut a s.heap h'→HOk X.prog X.w H h':=fun {a h'} ha hs b ob e=>by
  obtain ⟨_,_,hfree⟩:=ha
  refine (I.hok b ob e).stay (fun c w' hc q=>(hs.2 c ?_).trans q) (fun _ q=>q) fun _ _ q=>q
  rintro rfl
  rcases hc with rfl | hc
  ·rw [hfree] at e; cases e
  ·rw [hfree] at hc; cases hc
 rcases hx with hk | hk
 ·refine wpAny_storeName_local hk hn (fun h' hn' hs=>?_) hcls
  obtain ⟨oL,_,_,hoL,_⟩:=id hn
  refine h _ ⟨I.ok,I.os,I.bare,⟨fun b o e n hb hx=>?_,fun b o e n hb hx=>?_,I.base.free,fun b o e hx=>?_,I.base.tups,I.base.frzs,I.base.tbls⟩,⟨_,hn',fun j y v' e1 e2 e3=>?_⟩,fun y c e=>?_,I.free,I.freeC,fun p hp=>?_,tracked ⟨oL,hoL,I.free⟩ hs,by simpa using I.len⟩ ⟨_,hs,.inl rfl⟩
  ·exact (hs.2 b (Nat.ne_of_lt (Nat.lt_of_lt_of_le (Heap.lt_size e) I.ok.above))).trans (I.base.keep b o e n hb hx)
  ·obtain ⟨sl,e1⟩:=I.base.slot b o e n hb hx
   exact ⟨sl,(hs.2 b (Nat.ne_of_lt (Nat.lt_of_lt_of_le (Heap.lt_size e) I.ok.above))).trans e1⟩
  ·obtain ⟨o',e1⟩:=I.base.there b o e hx
   exact ⟨o',(hs.2 b (Nat.ne_of_lt (Nat.lt_of_lt_of_le (Heap.lt_size e) I.ok.above))).trans e1⟩
  ·by_cases hj:j=i
   ·subst hj
    rw [hi] at e1; cases e1
    rw [List.getElem?_set_self hiσ] at e2
    cases e2
    exact ⟨u,r,.inl ⟨hk,by simp⟩⟩
   ·rw [List.getElem?_set_ne (Ne.symm hj)] at e2
    obtain ⟨u',r',q⟩:=hl j y v' e1 e2 e3
    refine ⟨u',r',?_⟩
    rcases q with ⟨k,e⟩ | ⟨k,c,e,z⟩
    ·refine .inl ⟨k,?_⟩
     have:y≠x:=fun e=>hj (nodup_ix hN e1 (e ▸ hi))
     simp [this,e]
    ·exact .inr ⟨k,c,e,z.sameBut hs (cne y c e)⟩
  ·obtain ⟨w',z⟩:=I.cell y c e
   exact ⟨w',z.sameBut hs (cne y c e)⟩
  ·obtain ⟨e,n,ne,nf,d⟩:=I.pin p hp
   exact ⟨(hs.2 p.1 ne).trans e,n,ne,nf,d⟩
 ·have hfn:X.fn x=true:=by
   rcases hf with z | z
   ·exact z
   ·rw [z] at hk; cases hk
  obtain ⟨c,hc⟩:=I.ok.has x (.inl hk)
  obtain ⟨w',z⟩:=I.cell x c hc
  refine wpAny_storeName_cell I.ok.kind hk hc z (fun h' hc' hs=>?_)
  obtain ⟨oc,hoc,hocd⟩:=id z
  refine h { s with heap:=h' } ⟨I.ok,I.os,I.bare,⟨fun b o e n hb hx=>?_,fun b o e n hb hx=>?_,I.base.free,fun b o e hx=>?_,I.base.tups,I.base.frzs,I.base.tbls⟩,⟨m,hn.sameBut hs (Ne.symm (cne x c hc)),fun j y v' e1 e2 e3=>?_⟩,fun y c' e=>?_,I.free,I.freeC,fun p hp=>?_,tracked ⟨oc,hoc,I.freeC x c hc⟩ hs,by simpa using I.len⟩ ⟨c,hs,.inr hc⟩
  ·exact (hs.2 b (Nat.ne_of_lt (Nat.lt_of_lt_of_le (Heap.lt_size e) (I.ok.cab x c hfn hc)))).trans (I.base.keep b o e n hb hx)
  ·obtain ⟨sl,e1⟩:=I.base.slot b o e n hb hx
   exact ⟨sl,(hs.2 b (Nat.ne_of_lt (Nat.lt_of_lt_of_le (Heap.lt_size e) (I.ok.cab x c hfn hc)))).trans e1⟩
  ·obtain ⟨o',e1⟩:=I.base.there b o e hx
   exact ⟨o',(hs.2 b (Nat.ne_of_lt (Nat.lt_of_lt_of_le (Heap.lt_size e) (I.ok.cab x c hfn hc)))).trans e1⟩
  ·by_cases hj:j=i
   ·subst hj
    rw [hi] at e1; cases e1
    rw [List.getElem?_set_self hiσ] at e2
    cases e2
    exact ⟨u,r,.inr ⟨.inl hk,c,hc,hc'⟩⟩
   ·rw [List.getElem?_set_ne (Ne.symm hj)] at e2
    obtain ⟨u',r',q⟩:=hl j y v' e1 e2 e3
    refine ⟨u',r',?_⟩
    rcases q with q | ⟨k,c',e,z'⟩
    ·exact .inl q
    ·refine .inr ⟨k,c',e,z'.sameBut hs ?_⟩
     rintro rfl
     exact hj (nodup_ix hN e1 (I.ok.inj _ _ _ e hc ▸ hi))
  ·by_cases hcc:c'=c
   ·subst hcc; exact ⟨_,hc'⟩
   ·obtain ⟨w2,z2⟩:=I.cell y c' e
    exact ⟨w2,z2.sameBut hs hcc⟩
  ·obtain ⟨e,n,ne,nf,d⟩:=I.pin p hp
   refine ⟨(hs.2 p.1 ?_).trans e,n,ne,nf,d⟩
   intro q
   rw [q,hoc] at e
   have q':oc=p.2:=Option.some.inj e
   exact d w' (by rw [← q']; exact hocd)
theorem store_ok {M:Model} {A:Around} {E:Value→Shared→Prop} {i:Nat} {x:Str} {v:V} {u:Value} {Q:Unit→Shared→Prop} (I:Inv X pins σ H s) (hN:X.N.Nodup) (hi:X.N[i]?=some x) (hx:Loc X.env.scope x) (r:RelV v u)
  (h:∀ s',Inv X pins (σ.set i (some v)) H s'→Q () s') (hf:X.fn x=true∨X.env.scope.names.lookup x=some .local:=by first | exact .inl rfl | exact .inr rfl | assumption):wpAny M A (storeName X.env x u) Q E s :=
 store_ok2 I hN hi hx r (fun s' I' _=>h s' I') hf
theorem Inv.call' {s':Shared} {ch:List Addr} (I:Inv X pins σ H s) (ho:s'.os=s.os) (u:Un (frs X.stack) ch H H' s.heap s'.heap) (hok:HOk X.prog X.w H' s'.heap) (hg:AllBare s'.gens)
  (hch:∀ b∈ch,(b∈X.ex∨X.s₀.heap.objs.size≤b)∧b≠X.env.locals∧(∀ x c,X.env.cells.lookup x=some c→c≠b)∧∀ p∈X.pn++pins,p.1≠b):Inv X pins σ H' s':=by
 obtain ⟨h',g',d',t',o'⟩:=s'
 have e:o'=s.os:=ho
 subst e
 exact I.call (g':=g') (t':=t') (d':=d') u hok hg hch
end
noncomputable abbrev XK:=Value→Option Addr→Hp→Prop
noncomputable abbrev St:=List (Option V)
noncomputable abbrev VK:=V→Hp→Prop
noncomputable abbrev TE:=St→Hp→VK→Prop
noncomputable abbrev TT:=St→Hp→(Bool→Hp→Prop)→Prop
noncomputable abbrev TA:=St→Hp→(List V→Hp→Prop)→Prop
structure Ends where
 nx:St→Hp→Prop
 rt:VK
 bk:St→Hp→Prop:=fun _ _=>False
 ct:St→Hp→Prop:=fun _ _=>False
noncomputable abbrev TS:=Ends→St→Hp→Prop
noncomputable def EP (X:Cx) (pins:List (Addr×Obj)) (σ:St) (Q:VK) (u:Value) (s':Shared):Prop:=∃ v H',Inv X pins σ H' s'∧RelV v u∧Q v H'
noncomputable def TP (X:Cx) (pins:List (Addr×Obj)) (σ:St) (Q:Bool→Hp→Prop) (b:Bool) (s':Shared):Prop:=∃ H',Inv X pins σ H' s'∧Q b H'
noncomputable def AP (X:Cx) (pins:List (Addr×Obj)) (σ:St) (Q:List V→Hp→Prop) (us:List Value) (s':Shared):Prop:=∃ vs H',Inv X pins σ H' s'∧Vals vs us∧Q vs H'
noncomputable def SP (X:Cx) (pins:List (Addr×Obj)) (D:Ends) (f:Flow) (s':Shared):Prop :=
 match f with
 | .next=>∃ σ' H',Inv X pins σ' H' s'∧D.nx σ' H'
 | .brk=>∃ σ' H',Inv X pins σ' H' s'∧D.bk σ' H'
 | .cont=>∃ σ' H',Inv X pins σ' H' s'∧D.ct σ' H'
 | .ret u=>∃ v σ' H',Inv X pins σ' H' s'∧RelV v u∧D.rt v H'
noncomputable def PE (X:Cx) (e:Expr) (t:TE):Prop :=
 ∀ (pins:List (Addr×Obj)) (s:Shared) (σ:St) (H:Hp) (Q:VK),Inv X pins σ H s→t σ H Q→wpAny (model X.prog X.w) X.A (eval e X.env) (EP X pins σ Q) X.xe s
noncomputable def PT (X:Cx) (e:Expr) (t:TT):Prop :=
 ∀ (pins:List (Addr×Obj)) (s:Shared) (σ:St) (H:Hp) (Q:Bool→Hp→Prop),Inv X pins σ H s→t σ H Q→wpAny (model X.prog X.w) X.A (isTrue e X.env (eval e X.env)) (TP X pins σ Q) X.xe s
noncomputable def PW (X:Cx) (e:Expr) (t:TT):Prop :=
 ∀ (whole:Sem Value) (pins:List (Addr×Obj)) (s:Shared) (σ:St) (H:Hp) (Q:Bool→Hp→Prop),Inv X pins σ H s→t σ H Q→wpAny (model X.prog X.w) X.A (isTrue e X.env whole) (TP X pins σ Q) X.xe s
theorem PW.pt {X:Cx} {e:Expr} {t:TT} (h:PW X e t):PT X e t:=h _
noncomputable def PA (X:Cx) (es:List Expr) (t:TA):Prop :=
 ∀ (pos:Pos) (pins:List (Addr×Obj)) (s:Shared) (σ:St) (H:Hp) (Q:List V→Hp→Prop),Inv X pins σ H s→t σ H Q→wpAny (model X.prog X.w) X.A (spliced (backTo pos (starEach es X.env))) (AP X pins σ Q) X.xe s
noncomputable def PS (X:Cx) (st:Stmt) (t:TS):Prop :=
 ∀ (pins:List (Addr×Obj)) (s:Shared) (σ:St) (H:Hp) (D:Ends),Inv X pins σ H s→t D σ H→wpAny (model X.prog X.w) X.A (exec st X.env) (SP X pins D) X.xe s
noncomputable def PSs (X:Cx) (st:List Stmt) (t:TS):Prop :=
 ∀ (pins:List (Addr×Obj)) (s:Shared) (σ:St) (H:Hp) (D:Ends),Inv X pins σ H s→t D σ H→wpAny (model X.prog X.w) X.A (execs st X.env) (SP X pins D) X.xe s
theorem thn {α:Type} {t:Sem α} {Q Q':α→Shared→Prop} {M:Model} {A:Around} {E:Value→Shared→Prop} {s:Shared} (h:wpAny M A t Q E s) (hQ:∀ a s,Q a s→Q' a s):wpAny M A t Q' E s:=wpAny_mono h hQ fun _ _ x=>x
end L2
namespace L2
open PySem PySem.Spec PyProof.Rows
section
variable {X:Cx}
noncomputable def tVar (i:Nat):TE:=fun σ H Q=>∃ v,σ[i]?=some (some v)∧Q v H
noncomputable def tC (v:V):TE:=fun _ H Q=>Q v H
theorem pe_var {i:Nat} {x:Str} {pos:Pos} (hN:X.N[i]?=some x) (hv:Vis X.env.scope x) (hd:(x == ("__debug__" : Str))=false:=by decide) (hcd:(x == ("__classdict__" : Str))=false:=by decide):PE X (.Name x pos) (tVar i):=by
 intro pins s σ H Q I h
 obtain ⟨v,e,h⟩:=h
 obtain ⟨m,hn,hl⟩:=I.loc
 obtain ⟨u,r,l⟩:=hl i x v hN e hv
 have fin:EP X pins σ Q u s:=⟨v,H,I,r,h⟩
 rcases l with ⟨hk,hm⟩ | ⟨hk,c,hc,hcell⟩
 ·exact wpAny_Name (wpAny_loadName_local I.ok.kind hk hn hm fin) hd
 ·rcases hk with hk | hk
  ·exact wpAny_Name (wpAny_loadName_cell I.ok.kind hk hc hcell fin) hd
  ·exact wpAny_Name (wpAny_loadName_free I.ok.kind hk hc hcell fin hcd) hd
theorem pe_int {i j pos}:PE X (.Constant (.int i) j pos) (tC (.int i)):=fun _ _ _ H _ I h=>wpAny_Constant_int ⟨.int i,H,I.tok _,⟨_,rfl⟩,h⟩
theorem pe_bl {b j pos}:PE X (.Constant (.bool b) j pos) (tC (.bl b)):=fun _ _ _ H _ I h=>Constant_bool ⟨.bl b,H,I,rfl,h⟩
theorem pe_non {j pos}:PE X (.Constant .none j pos) (tC .non):=fun _ _ _ H _ I h=>Constant_none ⟨.non,H,I,rfl,h⟩
theorem pe_str {x j pos}:PE X (.Constant (.str x) j pos) (tC (.str x)):=fun _ _ _ H _ I h=>Calls.Constant_str ⟨.str x,H,I.tok _,⟨_,rfl⟩,h⟩
noncomputable def Gl (X:Cx) (x:Str):Prop:=X.env.kindOf x=some .globalImplicit
theorem ld_glob {E:Value→Shared→Prop} {pins:List (Addr×Obj)} {s:Shared} {σ:St} {H:Hp} {x:Str} {u:Value} {pos:Pos} {Q:Value→Shared→Prop} (I:Inv X pins σ H s) (hg:Gl X x) (hm:X.mg x=some u) (h:Q u s)
  (hd:(x == ("__debug__" : Str))=false:=by decide):wpAny (model X.prog X.w) X.A (eval (.Name x pos) X.env) Q E s :=
 Calls.Name_function_global I.ok.kind hg (Calls.loadGlobal_global (by rw [I.ok.glob]; exact I.mod.glob.keeps I.bk) hm h) hd
theorem ld_blt {E:Value→Shared→Prop} {pins:List (Addr×Obj)} {s:Shared} {σ:St} {H:Hp} {x:Str} {u:Value} {pos:Pos} {Q:Value→Shared→Prop} (I:Inv X pins σ H s) (hg:Gl X x) (hm:X.mg x=none) (hv:bootBuiltins x=some u) (h:Q u s)
  (hn:x ≠ "__name__" := by decide) (hd:(x == ("__debug__" : Str))=false:=by decide):wpAny (model X.prog X.w) X.A (eval (.Name x pos) X.env) Q E s:=by
 obtain ⟨mb,h1,h2⟩:=I.mod.blt
 exact Calls.Name_function_global I.ok.kind hg (Calls.loadGlobal_builtin (by rw [I.ok.glob]; exact I.mod.glob.keeps I.bk) hm (by rw [I.ok.blt]; exact h1.keeps I.bk) ((h2 x hn).trans hv) h) hd
theorem pe_glob {x:Str} {v:V} {u:Value} {pos:Pos} (hg:Gl X x) (hm:X.mg x=some u) (r:RelV v u) (hd:(x == ("__debug__" : Str))=false:=by decide):PE X (.Name x pos) (tC v) :=
 fun _ _ _ H _ I h=>ld_glob I hg hm ⟨v,H,I,r,h⟩ hd
theorem pe_bltn {x:Str} {v:V} {u:Value} {pos:Pos} (hg:Gl X x) (hm:X.mg x=none) (hv:bootBuiltins x=some u) (r:RelV v u) (hn:x ≠ "__name__" := by decide) (hd:(x == ("__debug__" : Str))=false:=by decide):PE X (.Name x pos) (tC v) :=
 fun _ _ _ H _ I h=>ld_blt I hg hm hv ⟨v,H,I,r,h⟩ hn hd
variable {a b:Expr} {ta tb:TE} {pos:Pos}
noncomputable def PC (X:Cx) (op:CmpOp) (a b:Expr) (t:TE):Prop :=
 ∀ (pins:List (Addr×Obj)) (s:Shared) (σ:St) (H:Hp) (Q:VK),Inv X pins σ H s→t σ H Q →
  wpAny (model X.prog X.w) X.A (eval a X.env) (fun v s₁=>wpAny (model X.prog X.w) X.A (eval b X.env) (fun u s₂=>wpAny (model X.prog X.w) X.A (compareOp op v u) (EP X pins σ Q) X.xe s₂) X.xe s₁) X.xe s
theorem nobehind (b:Expr) {op:CmpOp} (h:op≠.In) (h2:op≠.NotIn):behindInMarks op b=false:=by
 have e1:(op == CmpOp.In)=false:=by cases op <;> first | rfl | exact absurd rfl h
 have e2:(op == CmpOp.NotIn)=false:=by cases op <;> first | rfl | exact absurd rfl h2
 cases b <;> simp [behindInMarks,e1,e2]
noncomputable def tIsN (ta:TE):TE:=fun σ H Q=>ta σ H fun x H1=>Q (.bl (decide (x=.non))) H1
theorem RelV.none_iff {x:V} {v:Value} (r:RelV x v):(v == Value.none)=decide (x=.non):=by
 cases x with
 | non=>cases r; rfl
 | bl _=>cases r; rfl
 | int _=>obtain ⟨t,rfl⟩:=r; rfl
 | str _=>obtain ⟨t,rfl⟩:=r; rfl
 | byt _=>obtain ⟨t,rfl⟩:=r; rfl
 | flt _=>obtain ⟨t,rfl⟩:=r; rfl
 | ref _=>cases r; rfl
 | ty _=>cases r; rfl
theorem pc_isN {j pos'} (ha:PE X a ta):PC X .Is a (.Constant .none j pos') (tIsN ta):=by
 intro pins s σ H Q I h
 refine thn (ha pins s σ H _ I h) fun v s1 ⟨x,H1,I1,r1,q1⟩=>?_
 exact Constant_none (is_none_gen ⟨.bl _,H1,I1,by rw [r1.none_iff]; rfl,q1⟩)
noncomputable def tB (t:TE):TT:=fun σ H Q=>t σ H fun x H1=>∃ c,x=.bl c∧Q c H1
theorem pe_cmp {op:CmpOp} {t:TE} (h:PC X op a b t) (h1:behindInMarks op b=false:=by first | exact nobehind _ (by decide) (by decide) | rfl):PE X (.Compare a [op] [b] pos) t:=fun pins s σ H Q I hw=>wpAny_Compare1 (h pins s σ H Q I hw) h1
theorem pt_cmp {op:CmpOp} {t:TE} (h:PC X op a b t) (h1:behindInMarks op b=false:=by first | exact nobehind _ (by decide) (by decide) | rfl):PT X (.Compare a [op] [b] pos) (tB t):=by
 intro pins s σ H Q I hw
 refine wpAny_isTrue_Compare1 (thn (h pins s σ H _ I hw) fun v s1 h1=>thn h1 fun u s2 h2=>thn h2 fun c s3 ⟨x,H1,I1,r1,q1⟩=>?_) h1
 obtain ⟨d,rfl,q⟩:=q1
 cases r1
 exact wpAny_truthy_bool ⟨H1,I1,q⟩
theorem pt_val {e:Expr} {t:TE} (h:PE X e t) (he:∀ whole,isTrue e X.env whole=(do let v ← whole; standAt e.pos; holding [v] (truthy v)):=by intro _; rfl):PT X e (tB t):=by
 intro pins s σ H Q I hw
 refine isTrue_plain (thn (h pins s σ H _ I hw) fun v s1 ⟨x,H1,I1,r1,q1⟩=>?_) (he _)
 obtain ⟨d,rfl,q⟩:=q1
 cases r1
 exact wpAny_truthy_bool ⟨H1,I1,q⟩
variable {tA tB':TT} {rest:List Expr}
noncomputable def tAnd (t u:TT):TT:=fun σ H Q=>t σ H fun c H1=>if c=true then u σ H1 Q else Q false H1
noncomputable def tOr (t u:TT):TT:=fun σ H Q=>t σ H fun c H1=>if c=true then Q true H1 else u σ H1 Q
noncomputable def tNot (t:TT):TT:=fun σ H Q=>t σ H fun c H1=>Q (!c) H1
theorem pw_and1 (ha:PT X a tA):PW X (.BoolOp .And [a] pos) tA:=by
 intro wh pins s σ H Q I h
 refine isTrue_and (thn (ha pins s σ H Q I h) fun c s1 e=>?_)
 cases c with
 | true=>exact isTrue_and_nil e
 | false=>exact e
theorem pw_or1 (ha:PT X a tA):PW X (.BoolOp .Or [a] pos) tA:=by
 intro wh pins s σ H Q I h
 refine isTrue_or (thn (ha pins s σ H Q I h) fun c s1 e=>?_)
 cases c with
 | false=>exact isTrue_or_nil e
 | true=>exact e
theorem pw_and (ha:PT X a tA) (hb:PW X (.BoolOp .And (b :: rest) pos) tB'):PW X (.BoolOp .And (a :: b :: rest) pos) (tAnd tA tB'):=by
 intro wh pins s σ H Q I h
 refine isTrue_and (thn (ha pins s σ H _ I h) fun c s1 ⟨H1,I1,q1⟩=>?_)
 cases c with
 | true=>exact hb wh pins s1 σ H1 Q I1 q1
 | false=>exact ⟨H1,I1,q1⟩
theorem pw_or (ha:PT X a tA) (hb:PW X (.BoolOp .Or (b :: rest) pos) tB'):PW X (.BoolOp .Or (a :: b :: rest) pos) (tOr tA tB'):=by
 intro wh pins s σ H Q I h
 refine isTrue_or (thn (ha pins s σ H _ I h) fun c s1 ⟨H1,I1,q1⟩=>?_)
 cases c with
 | true=>exact ⟨H1,I1,q1⟩
 | false=>exact hb wh pins s1 σ H1 Q I1 q1
theorem pt_not (ha:PT X a tA):PT X (.UnaryOp .Not a pos) (tNot tA):=by
 intro pins s σ H Q I h
 exact isTrue_not (ha pins s σ H (fun c H1=>Q (!c) H1) I h)
noncomputable def tAndV (ta tb:TE):TE:=fun σ H Q=>ta σ H fun x H1=>∃ c,x=.bl c∧if c=true then tb σ H1 Q else Q (.bl false) H1
noncomputable def tOrV (ta tb:TE):TE:=fun σ H Q=>ta σ H fun x H1=>∃ c,x=.bl c∧if c=true then Q (.bl true) H1 else tb σ H1 Q
noncomputable def tNotV (ta:TE):TE:=fun σ H Q=>ta σ H fun x H1=>∃ c,x=.bl c∧Q (.bl (!c)) H1
theorem pe_one {op} {t:TE} (h:PE X a t):PE X (.BoolOp op [a] pos) t:=fun pins s σ H Q I hw=>BoolOp_one (h pins s σ H Q I hw)
theorem pe_and (ha:PE X a ta) (hb:PE X (.BoolOp .And (b :: rest) pos) tb):PE X (.BoolOp .And (a :: b :: rest) pos) (tAndV ta tb):=by
 intro pins s σ H Q I h
 refine BoolOp_and (thn (ha pins s σ H _ I h) fun v s1 ⟨x,H1,I1,r1,q1⟩=>?_)
 obtain ⟨c,rfl,q1⟩:=q1
 cases r1
 refine wpAny_truthy_bool ?_
 cases c with
 | true=>exact hb pins s1 σ H1 Q I1 q1
 | false=>exact ⟨.bl false,H1,I1,rfl,q1⟩
theorem pe_or (ha:PE X a ta) (hb:PE X (.BoolOp .Or (b :: rest) pos) tb):PE X (.BoolOp .Or (a :: b :: rest) pos) (tOrV ta tb):=by
 intro pins s σ H Q I h
 refine BoolOp_or (thn (ha pins s σ H _ I h) fun v s1 ⟨x,H1,I1,r1,q1⟩=>?_)
 obtain ⟨c,rfl,q1⟩:=q1
 cases r1
 refine wpAny_truthy_bool ?_
 cases c with
 | false=>exact hb pins s1 σ H1 Q I1 q1
 | true=>exact ⟨.bl true,H1,I1,rfl,q1⟩
theorem pe_not (ha:PE X a ta):PE X (.UnaryOp .Not a pos) (tNotV ta):=by
 intro pins s σ H Q I h
 refine UnaryOp_ (thn (ha pins s σ H _ I h) fun v s1 ⟨x,H1,I1,r1,q1⟩=>?_)
 obtain ⟨c,rfl,q1⟩:=q1
 cases r1
 exact not_of (wpAny_truthy_bool ⟨.bl (!c),H1,I1,rfl,q1⟩)
noncomputable def tIf (t:TT) (ta tb:TE):TE:=fun σ H Q=>t σ H fun c H1=>if c=true then ta σ H1 Q else tb σ H1 Q
theorem pe_ifExp {c:Expr} (hc:PT X c tA) (ha:PE X a ta) (hb:PE X b tb):PE X (.IfExp c a b pos) (tIf tA ta tb):=by
 intro pins s σ H Q I h
 refine wpAny_IfExp (thn (hc pins s σ H _ I h) fun d s1 ⟨H1,I1,q1⟩=>?_)
 cases d with
 | true=>exact ha pins s1 σ H1 Q I1 q1
 | false=>exact hb pins s1 σ H1 Q I1 q1
end
end L2
namespace L2
open PySem PySem.Spec PyProof.Rows
noncomputable def SqL (K:PySem.W.Frag) (H:Hp) (a:Addr) (xs:List V):Prop :=
 Rd H a (.lst xs) ∨
  ∃ (o:Obj) (its:Array Value) (n:Nat),K.lookup a=some o∧o.cls=.type "list" ∧ o.dict=none∧o.data=.seq its n∧its.size≤sizeLine∧Vals xs its.toList
noncomputable def SqT (K:PySem.W.Frag) (H:Hp) (a:Addr) (xs:List V):Prop :=
 Rd H a (.tup xs) ∨
  ∃ (o:Obj) (its:Array Value) (n:Nat),K.lookup a=some o∧o.cls=.type "tuple" ∧ o.data=.seq its n∧its.size≤sizeLine∧Vals xs its.toList
noncomputable def absV:Value→Option V
 | .none=>some .non
 | .bool b=>some (.bl b)
 | .int i _=>some (.int i)
 | .str x _=>some (.str x)
 | .bytes b _=>some (.byt b)
 | .float b _=>some (.flt b)
 | .ref a=>some (.ref a)
 | .type n=>some (.ty n)
 | _=>none
theorem RelV.abs {x:V} {u:Value} (r:RelV x u):absV u=some x:=by
 cases x with
 | non=>cases r; rfl
 | bl _=>cases r; rfl
 | int _=>obtain ⟨t,rfl⟩:=r; rfl
 | str _=>obtain ⟨t,rfl⟩:=r; rfl
 | byt _=>obtain ⟨t,rfl⟩:=r; rfl
 | flt _=>obtain ⟨t,rfl⟩:=r; rfl
 | ref _=>cases r; rfl
 | ty _=>cases r; rfl
theorem RelV.inj {x y:V} {u:Value} (r:RelV x u) (q:RelV y u):x=y:=Option.some.inj (r.abs.symm.trans q.abs)
theorem Vals.inj:∀ {xs ys:List V} {us:List Value},Vals xs us→Vals ys us→xs=ys
 | _,_,_,.nil,.nil=>rfl
 | _,_,_,.cons r t,.cons r' t'=>by rw [r.inj r',Vals.inj t t']
section
variable {X:Cx} {pins:List (Addr×Obj)} {σ:St} {H:Hp} {s:Shared} {a:Addr} {xs ys:List V}
theorem SqL.of {K:PySem.W.Frag} (h:H a=some (.lst xs)):SqL K H a xs:=.inl (.inl h)
theorem SqT.of {K:PySem.W.Frag} (h:H a=some (.tup xs)):SqT K H a xs:=.inl (.inl h)
theorem Inv.list (I:Inv X pins σ H s) (h:SqL X.K H a xs):∃ its:List Value,Vals xs its∧PlainL s.heap a its.toArray∧xs.length≤sizeLine:=by
 rcases h with h | ⟨o,its,n,hk,hc,hd,hs,hz,r⟩
 ·obtain ⟨z,its,n,r,e⟩:=h.ok I.hok
  exact ⟨its,r,⟨_,n,e,rfl,rfl,rfl⟩,z⟩
 ·refine ⟨its.toList,r,⟨o,n,I.kIn a o hk,hc,hd,by simpa using hs⟩,?_⟩
  have e:=r.length
  simp only [Array.length_toList] at e
  omega
theorem Inv.tuple (I:Inv X pins σ H s) (h:SqT X.K H a xs):∃ its:List Value,Vals xs its∧IsTup s.heap a its.toArray∧xs.length≤sizeLine:=by
 rcases h with h | ⟨o,its,n,hk,hc,hs,hz,r⟩
 ·obtain ⟨z,its,r,p⟩:=h.ok I.hok
  exact ⟨its,r,p,z⟩
 ·refine ⟨its.toList,r,⟨o,I.kIn a o hk,hc,n,by simpa using hs⟩,?_⟩
  have e:=r.length
  simp only [Array.length_toList] at e
  omega
theorem Inv.list_inj (I:Inv X pins σ H s) (h:SqL X.K H a xs) (h':SqL X.K H a ys):xs=ys:=by
 obtain ⟨its,r,⟨o,n,e,_,_,d⟩,_⟩:=I.list h
 obtain ⟨its',r',⟨o',n',e',_,_,d'⟩,_⟩:=I.list h'
 rw [e] at e'; cases e'
 rw [d] at d'
 injection d' with d1 _
 have:its=its':=by simpa using congrArg Array.toList d1
 subst this
 exact r.inj r'
theorem Inv.tuple_inj (I:Inv X pins σ H s) (h:SqT X.K H a xs) (h':SqT X.K H a ys):xs=ys:=by
 obtain ⟨its,r,⟨o,e,_,n,d⟩,_⟩:=I.tuple h
 obtain ⟨its',r',⟨o',e',_,n',d'⟩,_⟩:=I.tuple h'
 rw [e] at e'; cases e'
 rw [d] at d'
 injection d' with d1 _
 have:its=its':=by simpa using congrArg Array.toList d1
 subst this
 exact r.inj r'
end
noncomputable abbrev Cx.wish (X:Cx) (E:Value→Shared→Prop):Cx:={ X with xe:=E }
noncomputable abbrev Cx.nox (X:Cx):Cx:=X.wish fun _ _=>False
theorem Cx.Ok.wish {X:Cx} (ok:X.Ok) (E:Value→Shared→Prop):(X.wish E).Ok :=
 ⟨ok.mod,ok.kind,ok.glob,ok.blt,ok.above,ok.inj,ok.has,ok.cab,ok.hd,ok.frames,ok.stk,ok.exf,ok.bs,ok.bsz,ok.noex,ok.exfs,ok.funs,ok.frf⟩
theorem Cx.Ok.unwish {X:Cx} {E:Value→Shared→Prop} (ok:(X.wish E).Ok):X.Ok :=
 ⟨ok.mod,ok.kind,ok.glob,ok.blt,ok.above,ok.inj,ok.has,ok.cab,ok.hd,ok.frames,ok.stk,ok.exf,ok.bs,ok.bsz,ok.noex,ok.exfs,ok.funs,ok.frf⟩
section
variable {X:Cx} {pins:List (Addr×Obj)} {σ:St} {H:Hp} {s:Shared} {E:Value→Shared→Prop}
theorem Inv.wish (I:Inv X pins σ H s) (E:Value→Shared→Prop):Inv (X.wish E) pins σ H s:=⟨I.ok.wish E,I.os,I.bare,I.base,I.loc,I.cell,I.free,I.freeC,I.pin,I.hok,I.len⟩
theorem Inv.unwish (I:Inv (X.wish E) pins σ H s):Inv X pins σ H s:=⟨I.ok.unwish,I.os,I.bare,I.base,I.loc,I.cell,I.free,I.freeC,I.pin,I.hok,I.len⟩
theorem SP.unwish {D:Ends} {f:Flow} {s':Shared} (h:SP (X.wish E) pins D f s'):SP X pins D f s':=by
 cases f with
 | next=>obtain ⟨σ',H',I,q⟩:=h; exact ⟨σ',H',I.unwish,q⟩
 | brk=>obtain ⟨σ',H',I,q⟩:=h; exact ⟨σ',H',I.unwish,q⟩
 | cont=>obtain ⟨σ',H',I,q⟩:=h; exact ⟨σ',H',I.unwish,q⟩
 | ret u=>obtain ⟨v,σ',H',I,r,q⟩:=h; exact ⟨v,σ',H',I.unwish,r,q⟩
theorem PSs.nox {st:List Stmt} {t:TS} (h:PSs X.nox st t):PSs X st t:=fun pins s σ H D I hw =>
 wpAny_mono (h pins s σ H D (I.wish _) hw) (fun _ _ q=>q.unwish) fun _ _ z=>False.elim z
end
section
variable {X:Cx} {st:Stmt} {rest:List Stmt} {t u:TS} {e:Expr} {te:TE} {pos:Pos}
noncomputable def tNext:TS:=fun D σ H=>D.nx σ H
noncomputable def tSeq (t u:TS):TS:=fun D σ H=>t { D with nx:=u D } σ H
theorem pss_nil:PSs X [] tNext:=fun _ _ σ H _ I h=>wpAny_execs_nil ⟨σ,H,I,h⟩
theorem pss_cons (h1:PS X st t) (h2:PSs X rest u):PSs X (st :: rest) (tSeq t u):=by
 intro pins s σ H D I h
 refine wpAny_execs_cons (thn (h1 pins s σ H { D with nx:=u D } I h) fun f s1 q=>?_)
 cases f with
 | next =>
  obtain ⟨σ',H',I',q⟩:=q
  exact h2 pins s1 σ' H' D I' q
 | ret v=>exact q
 | brk=>exact q
 | cont=>exact q
theorem pss_one (h1:PS X st t):PSs X [st] t:=by
 intro pins s σ H D I h
 refine wpAny_execs_cons (thn (h1 pins s σ H D I h) fun f s1 q=>?_)
 cases f with
 | next=>exact wpAny_execs_nil q
 | ret v=>exact q
 | brk=>exact q
 | cont=>exact q
theorem Inv.quiet {pins:List (Addr×Obj)} {σ:St} {H:Hp} {s:Shared} (I:Inv X pins σ H s):interactive X.env=false:=by simp [interactive,I.ok.kind]
noncomputable def tDrop (te:TE):TS:=fun D σ H=>te σ H fun _ H1=>D.nx σ H1
theorem ps_expr (he:PE X e te) (hs:swapsWith e none pos.line X.env=pure false:=by rfl):PS X (.Expr e pos) (tDrop te):=by
 intro pins s σ H D I h
 exact wpAny_Expr_any (thn (he pins s σ H _ I h) fun v s1 ⟨x,H1,I1,r1,q1⟩=>⟨σ,H1,I1,q1⟩) I.quiet hs
noncomputable def tRet (te:TE):TS:=fun D σ H=>te σ H D.rt
theorem ps_ret (he:PE X e te):PS X (.Return (some e) pos) (tRet te):=by
 intro pins s σ H D I h
 exact wpAny_Return_some (thn (he pins s σ H _ I h) fun v s1 ⟨x,H1,I1,r1,q1⟩=>⟨x,σ,H1,I1,r1,q1⟩)
noncomputable def tIfS (c:TT) (t u:TS):TS:=fun D σ H=>c σ H fun b H1=>if b=true then t D σ H1 else u D σ H1
theorem ps_if {c:Expr} {a b:List Stmt} {tc:TT} (hc:PT X c tc) (ha:PSs X a t) (hb:PSs X b u):PS X (.If c a b pos) (tIfS tc t u):=by
 intro pins s σ H D I h
 refine wpAny_If (thn (hc pins s σ H _ I h) fun d s1 ⟨H1,I1,q1⟩=>?_)
 cases d with
 | true=>exact ha pins s1 σ H1 D I1 q1
 | false=>exact hb pins s1 σ H1 D I1 q1
end
noncomputable abbrev TG:=V→St→Hp→(St→Hp→Prop)→Prop
noncomputable abbrev TGs:=List V→St→Hp→(St→Hp→Prop)→Prop
noncomputable def PG (X:Cx) (target:Expr) (t:TG):Prop :=
 ∀ (pins:List (Addr×Obj)) (s:Shared) (σ:St) (H:Hp) (v:V) (u:Value) (Q:St→Hp→Prop),Inv X pins σ H s→RelV v u→t v σ H Q →
  wpAny (model X.prog X.w) X.A (assign target X.env u) (fun _ s'=>∃ σ' H',Inv X pins σ' H' s'∧Q σ' H') X.xe s
noncomputable def PGs (X:Cx) (ts:List Expr) (t:TGs):Prop :=
 ∀ (pins:List (Addr×Obj)) (s:Shared) (σ:St) (H:Hp) (vs:List V) (us:List Value) (Q:St→Hp→Prop),Inv X pins σ H s→Vals vs us→t vs σ H Q →
  wpAny (model X.prog X.w) X.A (assignInOrder ((assignEach ts X.env).map (·.2)) us) (fun _ s'=>∃ σ' H',Inv X pins σ' H' s'∧Q σ' H') X.xe s
section
variable {X:Cx} {pos:Pos}
noncomputable def gName (i:Nat):TG:=fun v σ H Q=>Q (σ.set i (some v)) H
theorem pg_name {i:Nat} {x:Str} (hN:X.N.Nodup) (hi:X.N[i]?=some x) (hx:Loc X.env.scope x) (hf:X.fn x=true∨X.env.scope.names.lookup x=some .local:=by first | exact .inl rfl | exact .inr rfl | assumption):PG X (.Name x pos) (gName i):=by
 intro pins s σ H v u Q I r h
 exact wpAny_assign_Name (store_ok I hN hi hx r (fun s' I'=>⟨_,H,I',h⟩) hf)
noncomputable def gNil:TGs:=fun vs σ H Q=>vs=[]∧Q σ H
noncomputable def gCons (t:TG) (u:TGs):TGs:=fun vs σ H Q=>∃ v r,vs=v :: r∧t v σ H fun σ' H'=>u r σ' H' Q
theorem pgs_nil:PGs X [] gNil:=by
 intro pins s σ H vs us Q I r h
 obtain ⟨e,h⟩:=h
 subst e
 cases r
 exact assignInOrder_nil ⟨σ,H,I,h⟩
theorem pgs_cons {e:Expr} {es:List Expr} {t:TG} {u:TGs} (h1:PG X e t) (h2:PGs X es u)
  (hs:(assignEach (e :: es) X.env).map (·.2)=assign e X.env :: (assignEach es X.env).map (·.2):=by rfl):PGs X (e :: es) (gCons t u):=by
 intro pins s σ H vs us Q I r h
 obtain ⟨v,vr,e1,h⟩:=h
 subst e1
 cases r with
 | cons r rr =>
  rw [hs]
  refine assignInOrder_cons (thn (h1 pins s σ H _ _ _ I r h) fun _ s1 ⟨σ1,H1,I1,q1⟩=>?_)
  exact h2 pins s1 σ1 H1 _ _ Q I1 rr q1
noncomputable def gTup (K:PySem.W.Frag) (n:Nat) (t:TGs):TG:=fun v σ H Q=>∃ a xs,v=.ref a∧SqT K H a xs∧xs.length=n∧t xs σ H Q
theorem pg_tup {es:List Expr} {k:Nat} {t:TGs} {n:Nat} (hc:X.calm=true) (h:PGs X es t)
  (hn:(assignEach es X.env).length=n:=by rfl) (hst:(assignEach es X.env).findIdx? (·.1)=none:=by rfl):PG X (.Tuple es k pos) (gTup X.K n t):=by
 intro pins s σ H v u Q I r hw
 obtain ⟨a,xs,e1,hq,hl,hw⟩:=hw
 subst e1
 cases r
 obtain ⟨its,rv,ht,hz⟩:=I.tuple hq
 refine assign_Tuple_tuple (I.ok.hd hc) ht (by simp [hn,← hl,rv.length]) hst fun h' hx=>?_
 have I1:Inv X pins σ H { s with heap:=h' }:=I.kept (t':=s.toks) fun b o e=>hx b o (Nat.ne_of_lt (Heap.lt_size e)) e
 exact h pins _ σ H xs _ Q I1 (by simpa using rv) hw
noncomputable def tAsg (te:TE) (g:TG):TS:=fun D σ H=>te σ H fun x H1=>g x σ H1 D.nx
theorem ps_asg {tg e:Expr} {te:TE} {g:TG} (he:PE X e te) (hg:PG X tg g) (hs:swapsWithSole [tg] e pos.line X.env=pure false:=by rfl) (hw:swappedStores [tg] e X.env=pure none:=by rfl)
  (h1:(assignEach [tg] X.env).map (·.2)=[assign tg X.env]:=by rfl):PS X (.Assign [tg] e pos) (tAsg te g):=by
 intro pins s σ H D I h
 refine wpAny_Assign_stores (thn (he pins s σ H _ I h) fun v s1 ⟨x,H1,I1,r1,q1⟩=>?_) hs hw
 rw [h1]
 exact thn (hg pins s1 σ H1 x v _ I1 r1 q1) fun _ s2 q=>q
theorem ps_set {i:Nat} {x:Str} {e:Expr} {te:TE} {pos':Pos} (hN:X.N.Nodup) (hi:X.N[i]?=some x) (hx:Loc X.env.scope x) (he:PE X e te) (hs:swapsWith e (some (.Name x pos')) pos.line X.env=pure false:=by rfl) (hf:X.fn x=true∨X.env.scope.names.lookup x=some .local:=by first | exact .inl rfl | exact .inr rfl | assumption) :
  PS X (.Assign [.Name x pos'] e pos) (tAsg te (gName i)):=by
 intro pins s σ H D I h
 refine wpAny_Assign_Name (thn (he pins s σ H _ I h) fun v s1 ⟨y,H1,I1,r1,q1⟩=>?_) hs
 exact store_ok I1 hN hi hx r1 (fun s2 I2=>⟨_,H1,I2,q1⟩) hf
end
section
variable {X:Cx} {pos:Pos}
noncomputable def tWhile (c:TT) (tb:TS):TS:=fun D σ H=>∃ W:Nat→St→Hp→Prop,(∃ m,W m σ H)∧∀ m σ H,W m σ H →
 c σ H fun b H1=>if b=true then ∃ N:St→Hp→Prop,(∀ σ' H',N σ' H'→∃ m',m' < m∧W m' σ' H')∧tb { D with nx:=N,ct:=N,bk:=D.nx } σ H1 else D.nx σ H1
theorem ps_while {c:Expr} {body:List Stmt} {tc:TT} {tb:TS} (hp:PassesOwn (model X.prog X.w) X.A X.env X.xe) (hc:PT X c tc) (hb:PSs X body tb):PS X (.While c body [] pos) (tWhile tc tb):=by
 intro pins s σ H D I h
 obtain ⟨W,⟨m0,w0⟩,turn⟩:=h
 refine wpAny_While (codeAny_whileLoop (fun n s'=>∃ σ' H',Inv X pins σ' H' s'∧W n σ' H') ?_ m0 ⟨σ,H,I,w0⟩)
 rintro n s1 ⟨σ1,H1,I1,w1⟩
 refine wpAny_passesOwn hp (thn (hc pins s1 σ1 H1 _ I1 (turn n σ1 H1 w1)) fun b s2 ⟨H2,I2,q2⟩=>?_)
 cases b with
 | true =>
  obtain ⟨N,hN,q2⟩:=q2
  rw [if_pos rfl]
  refine wpAny_passesOwn hp (thn (hb pins s2 σ1 H2 _ I2 q2) fun f s3 q3=>?_)
  cases f with
  | next =>
   obtain ⟨σ3,H3,I3,n3⟩:=q3
   obtain ⟨m',hm,w3⟩:=hN σ3 H3 n3
   exact ⟨m',hm,σ3,H3,I3,w3⟩
  | cont =>
   obtain ⟨σ3,H3,I3,n3⟩:=q3
   obtain ⟨m',hm,w3⟩:=hN σ3 H3 n3
   exact ⟨m',hm,σ3,H3,I3,w3⟩
  | brk=>exact q3
  | ret v=>exact q3
 | false =>
  rw [if_neg Bool.false_ne_true]
  exact wpAny_execs_nil ⟨σ1,H2,I2,q2⟩
end
structure It where
 go:Nat→Hp→Prop
 yld:Nat→Hp→V→Hp→Prop
 stop:Nat→Hp→Prop
noncomputable def FpOk (X:Cx) (pins:List (Addr×Obj)) (H:Hp) (b:Addr):Prop :=
 H b=none∧b≠X.env.locals∧b ∉ X.fs∧(b∈X.ex∨X.s₀.heap.objs.size≤b)∧(∀ x c,X.env.cells.lookup x=some c→c≠b)∧∀ p∈X.pn++pins,p.1≠b
theorem Inv.fpOk {X:Cx} {pins:List (Addr×Obj)} {σ:St} {H H':Hp} {s:Shared} {b:Addr} (I:Inv X pins σ H s) (hb:s.heap.objs.size≤b) (hn:H' b=none):FpOk X pins H' b:=by
 refine ⟨hn,Nat.ne_of_gt (Nat.lt_of_lt_of_le I.lt hb),I.nofs hb,.inr (Nat.le_trans I.sz hb),fun x c e z=>?_,fun p hp z=>?_⟩
 ·obtain ⟨v,q⟩:=I.cell x c e
  exact absurd (Nat.lt_of_lt_of_le q.lt (by rw [z]; exact hb)) (Nat.lt_irrefl _)
 ·exact absurd (Nat.lt_of_lt_of_le (Heap.lt_size (I.pin p hp).1) (by rw [z]; exact hb)) (Nat.lt_irrefl _)
structure Turn (P:Program) (w:World) (K:PySem.W.Frag) (tg:Expr) (J:It) (fp:List Addr) (it:Addr) (tn:Nat→Heap→Prop):Prop where
 mem:it∈fp
 obj:∀ i h,tn i h→∀ b∈fp,∃ o,h.get? b=some o∧∀ v,o.data≠.cell v
 keep:∀ i h h',tn i h→(∀ b∈fp,∀ o,h.get? b=some o→h'.get? b=some o)→tn i h'
 item:∀ (X:Cx),X.prog=P→X.w=w→X.K=K→X.calm=true→∀ (i:Nat) (pins:List (Addr×Obj)) (s:Shared) (σ:St) (H:Hp) (E:Value→Shared→Prop),Inv X pins σ H s→(∀ b∈fp,FpOk X pins H b)→tn i s.heap→J.go i H →
  wpAny (model P w) X.A (pyNext (.ref it)) (fun r s1=>∃ u,r=some u ∧
   wpAny (model P w) X.A (letOwnedTupleGo tg (.ref it) u) (fun _ s2=>∃ x H',Inv X pins σ H' s2∧RelV x u∧J.yld i H x H'∧tn (i + 1) s2.heap∧∀ b∈fp,H' b=none) E s1) E s
 done:∀ (X:Cx),X.prog=P→X.w=w→X.K=K→X.calm=true→∀ (i:Nat) (pins:List (Addr×Obj)) (s:Shared) (σ:St) (H:Hp) (E:Value→Shared→Prop),Inv X pins σ H s→(∀ b∈fp,FpOk X pins H b)→tn i s.heap→J.stop i H →
  wpAny (model P w) X.A (pyNext (.ref it)) (fun r s1=>r=none∧Inv X pins σ H s1) E s
 self:∀ (A:Around) (i:Nat) (s:Shared) (Q:Value→Shared→Prop) (E:Value→Shared→Prop),tn i s.heap→Q (.ref it) s→wpAny (model P w) A (pyIter (.ref it)) Q E s
noncomputable abbrev TI:=St→Hp→(It→Hp→Prop)→Prop
noncomputable def PIE (X:Cx) (pins:List (Addr×Obj)) (σ:St) (tg:Expr) (R:It→Hp→Prop) (itv:Value) (s2:Shared):Prop :=
 ∃ (it:Addr) (fp:List Addr) (tn:Nat→Heap→Prop) (J:It) (H':Hp),itv=.ref it∧Inv X pins σ H' s2∧Turn X.prog X.w X.K tg J fp it tn∧tn 0 s2.heap∧(∀ b∈fp,FpOk X pins H' b)∧R J H'
noncomputable def PI (X:Cx) (tg iter:Expr) (wi:TI):Prop :=
 ∀ (pins:List (Addr×Obj)) (s:Shared) (σ:St) (H:Hp) (R:It→Hp→Prop),Inv X pins σ H s→wi σ H R →
  wpAny (model X.prog X.w) X.A (eval iter X.env) (fun v s1=>wpAny (model X.prog X.w) X.A (pyIter v) (PIE X pins σ tg R) X.xe s1) X.xe s
theorem go_of {M:Model} {A:Around} {E:Value→Shared→Prop} {s:Shared} {tg:Expr} {it:Addr} {u:Value} {o:Obj} {n:String} {vs:Array Value} {Q:Unit→Shared→Prop} (ho:s.heap.get? it=some o) (hc:o.cls=.type n) (hd:o.data=.fields vs)
  (hn:["enumerate", "zip", "dict_itemiterator", "dict_reverseitemiterator", "odict_iterator", "itertools.zip_longest", "itertools.pairwise"].contains n=false) (hQ:Q () s):wpAny M A (letOwnedTupleGo tg (.ref it) u) Q E s:=by
 unfold letOwnedTupleGo
 cases tg <;> first
  | exact wpAny_pure hQ
  | (cases u <;> first
    | exact wpAny_pure hQ
    | (refine wpAny_bind (wpAny_load ho ?_)
       rw [hc,hd]
       show wpAny M A (if (["enumerate", "zip", "dict_itemiterator", "dict_reverseitemiterator", "odict_iterator", "itertools.zip_longest", "itertools.pairwise"].contains n && vs[0]? == some (rawInt _))=true then _ else _) Q E s
       rw [if_neg (by intro h; rw [hn,Bool.false_and] at h; cases h)]
       exact wpAny_pure hQ))
noncomputable def Itl (K:PySem.W.Frag) (a:Addr):It :=
 ⟨fun i H=>∃ xs x,SqL K H a xs∧xs[i]?=some x,fun i H x H'=>H'=H∧∀ xs,SqL K H a xs→xs[i]?=some x,fun i H=>∃ xs,SqL K H a xs∧xs.length≤i⟩
noncomputable def Itt (K:PySem.W.Frag) (a:Addr):It :=
 ⟨fun i H=>∃ xs x,SqT K H a xs∧xs[i]?=some x,fun i H x H'=>H'=H∧∀ xs,SqT K H a xs→xs[i]?=some x,fun i H=>∃ xs,SqT K H a xs∧xs.length≤i⟩
noncomputable def Itr (lo:Int) (n:Nat):It:=⟨fun i _=>i < n,fun i H x H'=>H'=H∧x=.int (lo + i),fun i _=>n≤i⟩
theorem turn_list {P:Program} {w:World} {K:PySem.W.Frag} {tg:Expr} (a it:Addr):Turn P w K tg (Itl K a) [it] it (fun i h=>h.IsListIter it a i) where
 mem:=by simp
 obj:=fun i h st b hb=>by
  have e:b=it:=by simpa using hb
  subst e
  obtain ⟨o,e,c,d⟩:=st
  exact ⟨o,e,fun v z=>by rw [d] at z; cases z⟩
 keep:=fun i h h' st k=>st.at fun o e=>k it (by simp) o e
 item:=by
  intro X hP hw hK hc i pins s σ H E I hf st hg
  subst hP hw hK
  obtain ⟨xs,x,hq,hx⟩:=hg
  obtain ⟨its,rv,p,hz⟩:=I.list hq
  obtain ⟨u,hu,ru⟩:=rv.get hx
  obtain ⟨f0,f1,f2,f3,f4,f5⟩:=hf it (by simp)
  refine wpAny_pyNext_list_item st p.isList (x:=u) (by simpa using hu) fun h' st' sb=>?_
  have I1:Inv X pins σ H { s with heap:=h' }:=I.turned (t':=s.toks) (fun b o hb e=>(sb.2 b hb).trans e) f0 f1 f3 f4 f5
  obtain ⟨o,e,c,d⟩:=id st'
  exact ⟨u,rfl,go_of (s:={ s with heap:=h' }) e c d (by decide) ⟨x,H,I1,ru,⟨rfl,fun ys hy=>by rw [I.list_inj hy hq]; exact hx⟩,st',fun b hb=>(hf b hb).1⟩⟩
 done:=by
  intro X hP hw hK hc i pins s σ H E I hf st hg
  subst hP hw hK
  obtain ⟨xs,hq,hx⟩:=hg
  obtain ⟨its,rv,p,hz⟩:=I.list hq
  obtain ⟨f0,f1,f2,f3,f4,f5⟩:=hf it (by simp)
  have hl:=rv.length
  exact wpAny_pyNext_list_end (I.ok.hd hc) st p.isList (by simp; omega) fun h' eb=>⟨rfl,I.turned (t':=s.toks) (fun b o hb e=>eb b o hb e) f0 f1 f3 f4 f5⟩
 self:=fun _ _ _ _ _ st h=>wpAny_pyIter_listiter st h
theorem turn_tuple {P:Program} {w:World} {K:PySem.W.Frag} {tg:Expr} (a it:Addr):Turn P w K tg (Itt K a) [it] it (fun i h=>h.IsTupleIter it a i) where
 mem:=by simp
 obj:=fun i h st b hb=>by
  have e:b=it:=by simpa using hb
  subst e
  obtain ⟨o,e,c,d⟩:=st
  exact ⟨o,e,fun v z=>by rw [d] at z; cases z⟩
 keep:=fun i h h' st k=>st.at fun o e=>k it (by simp) o e
 item:=by
  intro X hP hw hK hc i pins s σ H E I hf st hg
  subst hP hw hK
  obtain ⟨xs,x,hq,hx⟩:=hg
  obtain ⟨its,rv,p,hz⟩:=I.tuple hq
  obtain ⟨u,hu,ru⟩:=rv.get hx
  obtain ⟨f0,f1,f2,f3,f4,f5⟩:=hf it (by simp)
  refine wpAny_pyNext_tuple_item st (show s.heap.IsTuple a its.toArray from p) (x:=u) (by simpa using hu) fun h' st' sb=>?_
  have I1:Inv X pins σ H { s with heap:=h' }:=I.turned (t':=s.toks) (fun b o hb e=>(sb.2 b hb).trans e) f0 f1 f3 f4 f5
  obtain ⟨o,e,c,d⟩:=id st'
  exact ⟨u,rfl,go_of (s:={ s with heap:=h' }) e c d (by decide) ⟨x,H,I1,ru,⟨rfl,fun ys hy=>by rw [I.tuple_inj hy hq]; exact hx⟩,st',fun b hb=>(hf b hb).1⟩⟩
 done:=by
  intro X hP hw hK hc i pins s σ H E I hf st hg
  subst hP hw hK
  obtain ⟨xs,hq,hx⟩:=hg
  obtain ⟨its,rv,p,hz⟩:=I.tuple hq
  obtain ⟨f0,f1,f2,f3,f4,f5⟩:=hf it (by simp)
  have hl:=rv.length
  exact wpAny_pyNext_tuple_end (I.ok.hd hc) st (show s.heap.IsTuple a its.toArray from p) (by simp; omega) fun h' eb=>⟨rfl,I.turned (t':=s.toks) (fun b o hb e=>eb b o hb e) f0 f1 f3 f4 f5⟩
 self:=fun _ _ _ _ _ st h=>wpAny_pyIter_tupleiter st h
theorem turn_range {P:Program} {w:World} {K:PySem.W.Frag} {tg:Expr} (it:Addr) (lo:Int) (n:Nat):Turn P w K tg (Itr lo n) [it] it (fun i h=>IsRangeIter h it (lo + (i:Nat) * 1) ((n:Int) - (i:Nat)) 1) where
 mem:=by simp
 obj:=fun i h st b hb=>by
  have e:b=it:=by simpa using hb
  subst e
  exact ⟨_,st,fun v z=>by
   have z':Data.fields _=Data.cell v:=z
   cases z'⟩
 keep:=fun i h h' st k=>k it (by simp) _ st
 item:=by
  intro X hP hw hK hc i pins s σ H E I hf st hg
  subst hP hw hK
  obtain ⟨f0,f1,f2,f3,f4,f5⟩:=hf it (by simp)
  have W:=Walks.range (prog:=X.prog) (w:=X.w) (I.ok.hd hc) it lo 1 n
  refine W.item i s _ _ hg st fun v h' tk hv st' kk=>?_
  obtain ⟨t,rfl⟩:=hv
  have I1:Inv X pins σ H { s with heap:=h',toks:=tk }:=I.turned (fun b o hb e=>kk b o (by simpa using hb) e) f0 f1 f3 f4 f5
  refine ⟨_,rfl,go_of (s:={ s with heap:=h',toks:=tk }) (n := "range_iterator") st' rfl rfl (by decide) ⟨.int (lo + i),H,I1,⟨t,?_⟩,⟨rfl,rfl⟩,st',fun b hb=>(hf b hb).1⟩⟩
  rw [Int.mul_one]
 done:=by
  intro X hP hw hK hc i pins s σ H E I hf st hg
  subst hP hw hK
  obtain ⟨f0,f1,f2,f3,f4,f5⟩:=hf it (by simp)
  exact wpAny_pyNext_range_end (I.ok.hd hc) st (by have:n≤i:=hg; omega) fun h' eb=>⟨rfl,I.turned (t':=s.toks) (fun b o hb e=>eb b o hb e) f0 f1 f3 f4 f5⟩
 self:=fun _ _ _ _ _ st h=>wpAny_pyIter_rangeiter st h
end L2
namespace L2
open PySem PySem.Spec PyProof.Rows
section
variable {X:Cx} {tg:Expr}
theorem range_it {pins:List (Addr×Obj)} {σ:St} {H:Hp} {s:Shared} {R:It→Hp→Prop} {E:Value→Shared→Prop} {lo hi:Int} {t u v:Tok} {tk:Nat} (I:Inv X pins σ H s) (h1:-(2 ^ 62)≤lo) (h2:lo < 2 ^ 62) (h3:-(2 ^ 62)≤hi) (h4:hi < 2 ^ 62)
  (q:R (Itr lo (hi - lo).toNat) H):wpAny (model X.prog X.w) X.A (pyIter (.ref s.heap.objs.size)) (PIE X pins σ tg R) E { s with heap:=s.heap.push { cls:=.type "range",data:=.fields #[.int lo t,.int hi u,.int 1 v] },toks:=tk }:=by
 refine wpAny_pyIter_range (IsRange.new ..) (small_one h1 h2 h3 h4) ?_
 have I1:Inv X pins σ H { s with heap:=s.heap.push { cls:=.type "range",data:=.fields #[.int lo t,.int hi u,.int 1 v] },toks:=tk }:=I.kept fun b o e=>Heap.get?_push_of_some _ e
 refine ⟨(s.heap.push { cls:=.type "range",data:=.fields #[.int lo t,.int hi u,.int 1 v] }).objs.size,[(s.heap.push { cls:=.type "range",data:=.fields #[.int lo t,.int hi u,.int 1 v] }).objs.size],_,_,H,rfl,
  I1.kept (t':=tk) fun b o e=>Heap.get?_push_of_some _ e,turn_range _ lo (hi - lo).toNat,?_,fun b hb=>?_,q⟩
 ·have e1:lo + ((0:Nat):Int) * 1=lo:=by simp
  have e2:(((hi - lo).toNat:Nat):Int) - ((0:Nat):Int)=Builtin.Range.rangeSize lo hi 1:=by rw [rangeSize_one]; split <;> omega
  show IsRangeIter _ _ (lo + ((0:Nat):Int) * 1) ((((hi - lo).toNat:Nat):Int) - ((0:Nat):Int)) 1
  rw [e1,e2]
  exact Heap.get?_push_size _ rfl
 ·have e:b=(s.heap.push { cls:=.type "range",data:=.fields #[.int lo t,.int hi u,.int 1 v] }).objs.size:=by simpa using hb
  subst e
  exact I1.fpOk (Nat.le_refl _) (I1.hok.fresh (Nat.le_refl _))
noncomputable def iRng1 (ta:TA):TI:=fun σ H R=>ta σ H fun vs H1=>∃ j:Int,vs=[.int j]∧-(2 ^ 62)≤j∧j < 2 ^ 62∧R (Itr 0 j.toNat) H1
theorem pi_range1 {a:Expr} {ta:TA} {p pos:Pos} (hg:Gl X "range") (hm:X.mg "range" = none) (ha:PA X [a] ta) (hs:starEach [a] X.env=[(false,eval a X.env)]:=by rfl):PI X tg (.Call (.Name "range" p) [a] [] pos) (iRng1 ta):=by
 intro pins s σ H R I h
 refine Call_ (ld_blt I hg hm boot_range (PyProof.Rows.callWith_type1 (thn (ha pos pins s σ H _ I h) fun us s1 ⟨vs,H1,I1,r1,q1⟩=>?_) hs rfl))
 obtain ⟨j,e,q1,q2,q⟩:=q1
 subst e
 cases r1 with
 | cons r rr =>
  cases rr
  obtain ⟨t,rfl⟩:=r
  exact call_range_1 (range_it I1 (by omega) (by omega) q1 q2 (by simpa using q))
noncomputable def tFor (wi:TI) (g:TG) (tb:TS):TS:=fun D σ H=>wi σ H fun J H1=>∃ W:Nat→Nat→St→Hp→Prop,(∃ m,W 0 m σ H1)∧∀ i m σ H,W i m σ H →
 (J.stop i H∧D.nx σ H)∨(J.go i H∧∃ N:St→Hp→Prop,(∀ σ' H',N σ' H'→∃ m',m' < m∧W (i + 1) m' σ' H')∧∀ x H',J.yld i H x H'→g x σ H' fun σ2 H2=>tb { D with nx:=N,ct:=N,bk:=D.nx } σ2 H2)
noncomputable def pinsAt (fp:List Addr) (h:Heap):List (Addr×Obj):=fp.filterMap fun b=>(h.get? b).map fun o=>(b,o)
theorem mem_pinsAt {fp:List Addr} {h:Heap} {b:Addr} {o:Obj} (hb:b∈fp) (e:h.get? b=some o):(b,o)∈pinsAt fp h:=List.mem_filterMap.mpr ⟨b,hb,by rw [e]; rfl⟩
theorem of_pinsAt {fp:List Addr} {h:Heap} {p:Addr×Obj} (hp:p∈pinsAt fp h):p.1∈fp∧h.get? p.1=some p.2:=by
 obtain ⟨b,hb,e⟩:=List.mem_filterMap.mp hp
 cases q:h.get? b with
 | none=>rw [q] at e; cases e
 | some o =>
  rw [q] at e
  have e':(b,o)=p:=Option.some.inj e
  subst e'
  exact ⟨hb,q⟩
theorem Inv.pinned {pins:List (Addr×Obj)} {σ:St} {H:Hp} {s:Shared} {fp:List Addr} (I:Inv X pins σ H s) (hf:∀ b∈fp,FpOk X pins H b) (ho:∀ b∈fp,∃ o,s.heap.get? b=some o∧∀ v,o.data≠.cell v):Inv X (pins++pinsAt fp s.heap) σ H s :=
 I.pins_of fun p hp=>(List.mem_append.mp hp).elim (fun z=>I.pin p (List.mem_append_right _ z)) fun z=>by
  obtain ⟨hb,e⟩:=of_pinsAt z
  obtain ⟨f0,f1,f2,_⟩:=hf p.1 hb
  obtain ⟨o,e',d⟩:=ho p.1 hb
  rw [e] at e'; cases e'
  exact ⟨e,f0,f1,f2,d⟩
theorem Inv.unpinned {pins pl:List (Addr×Obj)} {σ:St} {H:Hp} {s:Shared} (I:Inv X (pins++pl) σ H s):Inv X pins σ H s:=I.pins_of fun p hp=>I.pin p (List.mem_append_right _ (List.mem_append_left _ hp))
theorem ps_for {iter:Expr} {body:List Stmt} {wi:TI} {g:TG} {tb:TS} {pos:Pos} (hp:PassesOwn (model X.prog X.w) X.A X.env X.xe) (hc:X.calm=true) (hi:PI X tg iter wi) (hg:PG X tg g) (hb:PSs X body tb)
  (hs:∀ x,foldedSetIterable iter X.env x=pure x:=by intro _; rfl):PS X (.For tg iter body [] pos) (tFor wi g tb):=by
 intro pins s σ H D I h
 refine wpAny_For (thn (hi pins s σ H _ I h) fun v s1 h1=>thn h1 fun itv s2 h2=>?_) hs
 obtain ⟨it,fp,tn,J,H2,e,I2,T,st2,f2,W,⟨m0,w0⟩,turn⟩:=h2
 subst e
 have stat:∀ {H':Hp},(∀ b∈fp,H' b=none)→∀ b∈fp,FpOk X pins H' b:=fun hn b hb=>⟨hn b hb,(f2 b hb).2⟩
 refine codeAny_forLoop_any (fun n s'=>∃ i σ' H',Inv X pins σ' H' s'∧tn i s'.heap∧(∀ b∈fp,H' b=none)∧W i n σ' H') ?_ m0 ⟨0,σ,H2,I2,st2,fun b hb=>(f2 b hb).1,w0⟩
 rintro n s3 ⟨i,σ3,H3,I3,st3,fr3,w3⟩
 rcases turn i n σ3 H3 w3 with ⟨stop,qn⟩ | ⟨go,N,hN,step⟩
 ·refine wpAny_passesOwn hp (thn (T.done X rfl rfl rfl hc i pins s3 σ3 H3 X.xe I3 (stat fr3) st3 stop) fun r s4 ⟨hr,I4⟩=>?_)
  subst hr
  exact wpAny_execs_nil ⟨σ3,H3,I4,qn⟩
 ·refine wpAny_passesOwn hp (thn (T.item X rfl rfl rfl hc i pins s3 σ3 H3 X.xe I3 (stat fr3) st3 go) fun r s4 ⟨u,hr,h4⟩=>?_)
  subst hr
  refine wpAny_passesOwn hp (thn h4 fun _ s5 ⟨x,H5,I5,r5,y5,st5,fr5⟩=>?_)
  have I5':=I5.pinned (stat fr5) (T.obj _ _ st5)
  refine wpAny_passesOwn hp (thn (hg _ s5 σ3 H5 x u _ I5' r5 (step x H5 y5)) fun _ s6 ⟨σ6,H6,I6,q6⟩=>?_)
  refine wpAny_passesOwn hp (thn (hb _ s6 σ6 H6 _ I6 q6) fun f s7 q7=>?_)
  have again:∀ {σ7:St} {H7:Hp},Inv X (pins++pinsAt fp s5.heap) σ7 H7 s7→N σ7 H7→∃ m,m < n∧∃ i σ' H',Inv X pins σ' H' s7∧tn i s7.heap∧(∀ b∈fp,H' b=none)∧W i m σ' H':=fun {σ7 H7} I7 n7=>by
   obtain ⟨m',hm,w7⟩:=hN σ7 H7 n7
   refine ⟨m',hm,i + 1,σ7,H7,I7.unpinned,T.keep _ _ _ st5 fun b hb o e=>(I7.pin (b,o) (List.mem_append_right _ (List.mem_append_right _ (mem_pinsAt hb e)))).1,fun b hb=>?_,w7⟩
   obtain ⟨o,e,d⟩:=T.obj _ _ st5 b hb
   exact (I7.pin (b,o) (List.mem_append_right _ (List.mem_append_right _ (mem_pinsAt hb e)))).2.1
  cases f with
  | next=>obtain ⟨σ7,H7,I7,n7⟩:=q7; exact again I7 n7
  | cont=>obtain ⟨σ7,H7,I7,n7⟩:=q7; exact again I7 n7
  | brk=>obtain ⟨σ7,H7,I7,q7⟩:=q7; exact ⟨σ7,H7,I7.unpinned,q7⟩
  | ret v=>obtain ⟨x7,σ7,H7,I7,r7,q7⟩:=q7; exact ⟨x7,σ7,H7,I7.unpinned,r7,q7⟩
end
theorem for_range {lo:Int} {n:Nat} {g:TG} {tb:TS} {D:Ends} {σ:St} {H:Hp} (Pv:Nat→St→Hp→Prop) (h0:Pv 0 σ H)
  (hs:∀ i σ H,i < n→Pv i σ H→g (.int (lo + i)) σ H fun σ2 H2=>tb { D with nx:=Pv (i + 1),ct:=Pv (i + 1),bk:=D.nx } σ2 H2) (hd:∀ σ H,Pv n σ H→D.nx σ H) :
  ∃ W:Nat→Nat→St→Hp→Prop,(∃ m,W 0 m σ H)∧∀ i m σ H,W i m σ H →
   ((Itr lo n).stop i H∧D.nx σ H)∨((Itr lo n).go i H∧∃ N:St→Hp→Prop,(∀ σ' H',N σ' H'→∃ m',m' < m∧W (i + 1) m' σ' H')∧∀ x H',(Itr lo n).yld i H x H'→g x σ H' fun σ2 H2=>tb { D with nx:=N,ct:=N,bk:=D.nx } σ2 H2):=by
 refine ⟨fun i m σ H=>m=n - i∧i≤n∧Pv i σ H,⟨n,by simp,Nat.zero_le _,h0⟩,?_⟩
 rintro i m σ H ⟨rfl,hi,p⟩
 by_cases hlt:i < n
 ·refine .inr ⟨hlt,Pv (i + 1),fun σ' H' p'=>⟨n - (i + 1),by omega,rfl,hlt,p'⟩,fun x H' y=>?_⟩
  obtain ⟨e,y⟩:=y
  subst e y
  exact hs i σ _ hlt p
 ·have e:i=n:=by omega
  subst e
  exact .inl ⟨Nat.le_refl _,hd σ H p⟩
end L2
namespace L2
open PySem PySem.Spec PyProof.Rows
noncomputable abbrev R2:=V→V→Hp→VK→Prop
noncomputable def OpR (X:Cx) (f:Value→Value→Sem Value) (r:R2):Prop :=
 ∀ (pins:List (Addr×Obj)) (s:Shared) (σ:St) (H:Hp) (x y:V) (v u:Value) (Q:VK),Inv X pins σ H s→RelV x v→RelV y u→r x y H Q →
  wpAny (model X.prog X.w) X.A (f v u) (EP X pins σ Q) X.xe s
noncomputable def UnR (X:Cx) (f:Value→Sem Value) (r:V→Hp→VK→Prop):Prop :=
 ∀ (pins:List (Addr×Obj)) (s:Shared) (σ:St) (H:Hp) (x:V) (v:Value) (Q:VK),Inv X pins σ H s→RelV x v→r x H Q →
  wpAny (model X.prog X.w) X.A (f v) (EP X pins σ Q) X.xe s
noncomputable def CallR (X:Cx) (f:Value) (r:List V→Hp→VK→Prop):Prop :=
 ∀ (pins:List (Addr×Obj)) (s:Shared) (σ:St) (H:Hp) (xs:List V) (us:List Value) (Q:VK),Inv X pins σ H s→Vals xs us→r xs H Q →
  wpAny (model X.prog X.w) X.A (call f us) (EP X pins σ Q) X.xe s
noncomputable def TruR (X:Cx) (r:V→Hp→(Bool→Hp→Prop)→Prop):Prop :=
 ∀ (pins:List (Addr×Obj)) (s:Shared) (σ:St) (H:Hp) (x:V) (v:Value) (Q:Bool→Hp→Prop),Inv X pins σ H s→RelV x v→r x H Q →
  wpAny (model X.prog X.w) X.A (truthy v) (TP X pins σ Q) X.xe s
noncomputable def tOp (r:R2) (ta tb:TE):TE:=fun σ H Q=>ta σ H fun x H1=>tb σ H1 fun y H2=>r x y H2 Q
noncomputable def tUn (r:V→Hp→VK→Prop) (ta:TE):TE:=fun σ H Q=>ta σ H fun x H1=>r x H1 Q
noncomputable def rI (C:Int→Int→Prop) (g:Int→Int→V):R2:=fun x y H Q=>∃ i j,x=.int i∧y=.int j∧C i j∧Q (g i j) H
noncomputable def rI0 (g:Int→Int→V):R2:=fun x y H Q=>∃ i j,x=.int i∧y=.int j∧Q (g i j) H
noncomputable def rU (g:Int→V):V→Hp→VK→Prop:=fun x H Q=>∃ i,x=.int i∧Q (g i) H
section
variable {X:Cx} {a b c:Expr} {ta tb tc:TE} {pos:Pos}
theorem binT (ha:PE X a ta) (hb:PE X b tb) {pins:List (Addr×Obj)} {s:Shared} {σ:St} {H:Hp} {R:V→V→Hp→Prop} (I:Inv X pins σ H s)
  (h:ta σ H fun x H1=>tb σ H1 fun y H2=>R x y H2) {Q:Value→Shared→Prop} {f:Value→Value→Sem Value}
  (hf:∀ v u s2 x y H2,Inv X pins σ H2 s2→RelV x v→RelV y u→R x y H2→wpAny (model X.prog X.w) X.A (f v u) Q X.xe s2) :
  wpAny (model X.prog X.w) X.A (eval a X.env) (fun v s₁=>wpAny (model X.prog X.w) X.A (eval b X.env) (fun u s₂=>wpAny (model X.prog X.w) X.A (f v u) Q X.xe s₂) X.xe s₁) X.xe s:=by
 refine thn (ha pins s σ H _ I h) fun v s1 ⟨x,H1,I1,r1,q1⟩=>?_
 refine thn (hb pins s1 σ H1 _ I1 q1) fun u s2 ⟨y,H2,I2,r2,q2⟩=>?_
 exact hf v u s2 x y H2 I2 r1 r2 q2
theorem pe_op {op:Operator} {r:R2} (ho:OpR X (binaryOp op) r) (ha:PE X a ta) (hb:PE X b tb):PE X (.BinOp a op b pos) (tOp r ta tb):=by
 intro pins s σ H Q I h
 exact wpAny_BinOp (binT ha hb I h fun v u s2 x y H2 I2 rx ry q=>ho pins s2 σ H2 x y v u Q I2 rx ry q)
theorem pe_un {op:UnaryOp} {r:V→Hp→VK→Prop} (ho:UnR X (unaryOp op) r) (ha:PE X a ta):PE X (.UnaryOp op a pos) (tUn r ta):=by
 intro pins s σ H Q I h
 exact UnaryOp_ (thn (ha pins s σ H _ I h) fun v s1 ⟨x,H1,I1,r1,q1⟩=>ho pins s1 σ H1 x v Q I1 r1 q1)
theorem opI {f:Value→Value→Sem Value} {C:Int→Int→Prop} {g:Int→Int→Int}
  (rule:∀ (i j:Int) (t u:Tok) (s:Shared) (Q:Value→Shared→Prop) (E:Value→Shared→Prop),C i j→Q (.int (g i j) s.toks) { s with toks:=s.toks + 1 }→wpAny (model X.prog X.w) X.A (f (.int i t) (.int j u)) Q E s) :
  OpR X f (rI C fun i j=>.int (g i j)):=by
 intro pins s σ H x y v u Q I rx ry h
 obtain ⟨i,j,rfl,rfl,hc,q⟩:=h
 obtain ⟨t,rfl⟩:=rx
 obtain ⟨t',rfl⟩:=ry
 exact rule i j t t' s _ _ hc ⟨.int (g i j),H,I.tok _,⟨_,rfl⟩,q⟩
theorem opI0 {f:Value→Value→Sem Value} {g:Int→Int→Int}
  (rule:∀ (i j:Int) (t u:Tok) (s:Shared) (Q:Value→Shared→Prop) (E:Value→Shared→Prop),Q (.int (g i j) s.toks) { s with toks:=s.toks + 1 }→wpAny (model X.prog X.w) X.A (f (.int i t) (.int j u)) Q E s) :
  OpR X f (rI0 fun i j=>.int (g i j)):=by
 intro pins s σ H x y v u Q I rx ry h
 obtain ⟨i,j,rfl,rfl,q⟩:=h
 obtain ⟨t,rfl⟩:=rx
 obtain ⟨t',rfl⟩:=ry
 exact rule i j t t' s _ _ ⟨.int (g i j),H,I.tok _,⟨_,rfl⟩,q⟩
theorem opB0 {f:Value→Value→Sem Value} {g:Int→Int→Bool}
  (rule:∀ (i j:Int) (t u:Tok) (s:Shared) (Q:Value→Shared→Prop) (E:Value→Shared→Prop),Q (.bool (g i j)) s→wpAny (model X.prog X.w) X.A (f (.int i t) (.int j u)) Q E s) :
  OpR X f (rI0 fun i j=>.bl (g i j)):=by
 intro pins s σ H x y v u Q I rx ry h
 obtain ⟨i,j,rfl,rfl,q⟩:=h
 obtain ⟨t,rfl⟩:=rx
 obtain ⟨t',rfl⟩:=ry
 exact rule i j t t' s _ _ ⟨.bl (g i j),H,I,rfl,q⟩
noncomputable def CDiv (i j:Int):Prop:=0 < j∧j < 1073741824
noncomputable def CPow (i j:Int):Prop:=0≤j∧j≤1000000∧i.natAbs < 2 ^ 64
noncomputable def CMul (i j:Int):Prop:=(-(2 ^ 64) < i∧i < 2 ^ 64)∨(-(2 ^ 64) < j∧j < 2 ^ 64)
theorem CMul.ok {i j:Int} (h:CMul i j):IntMulOk i j:=by
 rcases h with ⟨h1,h2⟩ | ⟨h1,h2⟩
 ·exact .of_left (intBits_le_64 h1 h2)
 ·exact .of_right (intBits_le_64 h1 h2)
theorem op_add:OpR X (binaryOp .Add) (rI0 fun i j=>.int (i + j)):=opI0 fun _ _ _ _ _ _ _ q=>add_int q
theorem op_sub:OpR X (binaryOp .Sub) (rI0 fun i j=>.int (i - j)):=opI0 fun _ _ _ _ _ _ _ q=>sub_int q
theorem op_mul:OpR X (binaryOp .Mult) (rI CMul fun i j=>.int (i * j)):=opI fun _ _ _ _ _ _ _ hc q=>mul_int q hc.ok
theorem op_fdiv:OpR X (binaryOp .FloorDiv) (rI CDiv fun i j=>.int (i / j)):=opI fun i j _ _ _ _ _ hc q=>by
 have h1:(0:Int) < j:=hc.1
 have h2:j < 1073741824:=hc.2
 exact floordiv_int (by omega) (by rw [Int.fdiv_eq_ediv_of_nonneg i (by omega)]; exact q) (.inl (PyProof.noPylong_small (by omega)))
theorem op_mod:OpR X (binaryOp .Mod) (rI (fun _ j=>0 < j) fun i j=>.int (i % j)):=opI fun i j _ _ _ _ _ hc q=>by
 have h1:(0:Int) < j:=hc
 exact mod_int' (by omega) (by rw [Int.fmod_eq_emod_of_nonneg i (by omega)]; exact q)
theorem op_pow:OpR X (binaryOp .Pow) (rI CPow fun i j=>.int (i ^ j.toNat)):=opI fun _ _ _ _ _ _ _ hc q=>pow_int_small hc.1 hc.2.1 hc.2.2 q
theorem unI {f:Value→Sem Value} {g:Int→Int}
  (rule:∀ (i:Int) (t:Tok) (s:Shared) (Q:Value→Shared→Prop) (E:Value→Shared→Prop),Q (.int (g i) s.toks) { s with toks:=s.toks + 1 }→wpAny (model X.prog X.w) X.A (f (.int i t)) Q E s) :
  UnR X f (rU fun i=>.int (g i)):=by
 intro pins s σ H x v Q I rx h
 obtain ⟨i,rfl,q⟩:=h
 obtain ⟨t,rfl⟩:=rx
 exact rule i t s _ _ ⟨.int (g i),H,I.tok _,⟨_,rfl⟩,q⟩
theorem un_neg:UnR X (unaryOp .USub) (rU fun i=>.int (-i)):=unI fun _ _ _ _ _ q=>neg_int q
end
noncomputable def scal:V→V→Bool
 | .non,.non=>true | .non,.int _=>true | .int _,.non=>true | .non,.bl _=>true | .bl _,.non=>true | .non,.str _=>true | .str _,.non=>true
 | .int _,.int _=>true | .bl _,.bl _=>true | .str _,.str _=>true | .byt _,.byt _=>true
 | .int _,.str _=>true | .str _,.int _=>true | .bl _,.str _=>true | .str _,.bl _=>true
 | _,_=>false
noncomputable def rEq:R2:=fun x y H Q=>scal x y=true∧Q (.bl (decide (x=y))) H
noncomputable def rNe:R2:=fun x y H Q=>scal x y=true∧Q (.bl (!decide (x=y))) H
theorem dec_int {i j:Int}:decide (V.int i=V.int j)=(i == j):=by
 rw [Bool.eq_iff_iff]
 simp
theorem dec_bl {i j:Bool}:decide (V.bl i=V.bl j)=(i == j):=by
 rw [Bool.eq_iff_iff]
 simp
theorem dec_str {i j:Str}:decide (V.str i=V.str j)=(i == j):=by
 rw [Bool.eq_iff_iff]
 simp
theorem dec_byt {i j:Array UInt8}:decide (V.byt i=V.byt j)=(i.toList == j.toList):=by
 rw [Bool.eq_iff_iff]
 cases i
 cases j
 simp
section
variable {X:Cx} {a b c:Expr} {ta tb tc:TE} {pos:Pos}
theorem fin_bl {pins:List (Addr×Obj)} {σ:St} {H:Hp} {s:Shared} {Q:VK} {k k':Bool} (I:Inv X pins σ H s) (q:Q (.bl k) H) (e:k=k'):EP X pins σ Q (.bool k') s:=by
 subst e
 exact ⟨.bl k,H,I,rfl,q⟩
theorem op_eq:OpR X (compareOp .Eq) rEq:=by
 intro pins s σ H x y v u Q I rx ry h
 obtain ⟨hs,q⟩:=h
 cases x with
 | non =>
  cases rx
  cases y with
  | non=>cases ry; exact PySem.EqNone.eq_none_none (fin_bl I q (by simp))
  | bl j=>cases ry; exact PySem.EqNone.eq_none_bool (fin_bl I q (by simp))
  | int j=>obtain ⟨t',rfl⟩:=ry; exact PySem.EqNone.eq_none_int (fin_bl I q (by simp))
  | str j=>obtain ⟨t',rfl⟩:=ry; exact PySem.EqNone.eq_none_str (fin_bl I q (by simp))
  | _=>exact absurd (show false=true from hs) Bool.false_ne_true
 | bl i =>
  cases rx
  cases y with
  | non=>cases ry; exact PySem.EqNone.eq_bool_none (fin_bl I q (by simp))
  | bl j=>cases ry; exact eq_bool (fin_bl I q dec_bl)
  | str j=>obtain ⟨t',rfl⟩:=ry; exact PySem.EqMixed.eq_bool_str (fin_bl I q (by simp))
  | _=>exact absurd (show false=true from hs) Bool.false_ne_true
 | int i =>
  obtain ⟨t,rfl⟩:=rx
  cases y with
  | non=>cases ry; exact PySem.EqNone.eq_int_none (fin_bl I q (by simp))
  | int j=>obtain ⟨t',rfl⟩:=ry; exact eq_int (fin_bl I q dec_int)
  | str j=>obtain ⟨t',rfl⟩:=ry; exact PySem.EqMixed.eq_int_str (fin_bl I q (by simp))
  | _=>exact absurd (show false=true from hs) Bool.false_ne_true
 | str i =>
  obtain ⟨t,rfl⟩:=rx
  cases y with
  | non=>cases ry; exact PySem.EqNone.eq_str_none (fin_bl I q (by simp))
  | bl j=>cases ry; exact PySem.EqMixed.eq_str_bool (fin_bl I q (by simp))
  | int j=>obtain ⟨t',rfl⟩:=ry; exact PySem.EqMixed.eq_str_int (fin_bl I q (by simp))
  | str j=>obtain ⟨t',rfl⟩:=ry; exact eq_str (fin_bl I q dec_str)
  | _=>exact absurd (show false=true from hs) Bool.false_ne_true
 | byt i =>
  obtain ⟨t,rfl⟩:=rx
  cases y with
  | byt j=>obtain ⟨t',rfl⟩:=ry; exact PySem.W.eq_bytes (fin_bl I q dec_byt)
  | _=>exact absurd (show false=true from hs) Bool.false_ne_true
 | _=>cases y <;> exact absurd (show false=true from hs) Bool.false_ne_true
theorem op_ne:OpR X (compareOp .NotEq) rNe:=by
 intro pins s σ H x y v u Q I rx ry h
 obtain ⟨hs,q⟩:=h
 cases x with
 | non =>
  cases rx
  cases y with
  | non=>cases ry; exact PySem.EqNone.ne_none_none (fin_bl I q (by simp))
  | bl j=>cases ry; exact PySem.EqNone.ne_none_bool (fin_bl I q (by simp))
  | int j=>obtain ⟨t',rfl⟩:=ry; exact PySem.EqNone.ne_none_int (fin_bl I q (by simp))
  | str j=>obtain ⟨t',rfl⟩:=ry; exact PySem.EqNone.ne_none_str (fin_bl I q (by simp))
  | _=>exact absurd (show false=true from hs) Bool.false_ne_true
 | bl i =>
  cases rx
  cases y with
  | non=>cases ry; exact PySem.EqNone.ne_bool_none (fin_bl I q (by simp))
  | bl j=>cases ry; exact ne_bool (fin_bl I q (congrArg not dec_bl))
  | str j=>obtain ⟨t',rfl⟩:=ry; exact PySem.EqMixed.ne_bool_str (fin_bl I q (by simp))
  | _=>exact absurd (show false=true from hs) Bool.false_ne_true
 | int i =>
  obtain ⟨t,rfl⟩:=rx
  cases y with
  | non=>cases ry; exact PySem.EqNone.ne_int_none (fin_bl I q (by simp))
  | int j=>obtain ⟨t',rfl⟩:=ry; exact ne_int (fin_bl I q (congrArg not dec_int))
  | str j=>obtain ⟨t',rfl⟩:=ry; exact PySem.EqMixed.ne_int_str (fin_bl I q (by simp))
  | _=>exact absurd (show false=true from hs) Bool.false_ne_true
 | str i =>
  obtain ⟨t,rfl⟩:=rx
  cases y with
  | non=>cases ry; exact PySem.EqNone.ne_str_none (fin_bl I q (by simp))
  | bl j=>cases ry; exact PySem.EqMixed.ne_str_bool (fin_bl I q (by simp))
  | int j=>obtain ⟨t',rfl⟩:=ry; exact PySem.EqMixed.ne_str_int (fin_bl I q (by simp))
  | str j=>obtain ⟨t',rfl⟩:=ry; exact ne_str (fin_bl I q (congrArg not dec_str))
  | _=>exact absurd (show false=true from hs) Bool.false_ne_true
 | byt i =>
  obtain ⟨t,rfl⟩:=rx
  cases y with
  | byt j=>obtain ⟨t',rfl⟩:=ry; exact PySem.W.ne_bytes (fin_bl I q (congrArg not dec_byt))
  | _=>exact absurd (show false=true from hs) Bool.false_ne_true
 | _=>cases y <;> exact absurd (show false=true from hs) Bool.false_ne_true
theorem op_lt:OpR X (compareOp .Lt) (rI0 fun i j=>.bl (decide (i < j))):=opB0 fun _ _ _ _ _ _ _ q=>lt_int q
theorem op_gt:OpR X (compareOp .Gt) (rI0 fun i j=>.bl (decide (j < i))):=opB0 fun _ _ _ _ _ _ _ q=>gt_int q
theorem op_lt_str:OpR X (compareOp .Lt) (fun x y H Q=>∃ i j,x=.str i∧y=.str j∧Q (.bl (decide (i.cps.toList < j.cps.toList))) H):=by
 intro pins s σ H x y v u Q I rx ry h
 obtain ⟨i,j,rfl,rfl,q⟩:=h
 obtain ⟨t,rfl⟩:=rx
 obtain ⟨t',rfl⟩:=ry
 exact lt_str (fin_bl I q rfl)
theorem op_in_str:OpR X (compareOp .In) (fun x y H Q=>∃ i j,x=.str i∧y=.str j∧Q (.bl (!(Builtin.Str.occurrences j i 0 j.length 1).isEmpty)) H):=by
 intro pins s σ H x y v u Q I rx ry h
 obtain ⟨i,j,rfl,rfl,q⟩:=h
 obtain ⟨t,rfl⟩:=rx
 obtain ⟨t',rfl⟩:=ry
 exact in_str (fin_bl I q rfl)
theorem OpR.or {f:Value→Value→Sem Value} {r r':R2} (h:OpR X f r) (h':OpR X f r'):OpR X f (fun x y H Q=>r x y H Q∨r' x y H Q):=by
 intro pins s σ H x y v u Q I rx ry q
 rcases q with q | q
 ·exact h pins s σ H x y v u Q I rx ry q
 ·exact h' pins s σ H x y v u Q I rx ry q
theorem nomark (b:Expr) {op:CmpOp} (h:op≠.In:=by decide) (h2:op≠.NotIn:=by decide):behindInMarks op b=false:=by
 have e1:(op == CmpOp.In)=false:=by cases op <;> first | rfl | exact absurd rfl h
 have e2:(op == CmpOp.NotIn)=false:=by cases op <;> first | rfl | exact absurd rfl h2
 cases b <;> simp [behindInMarks,e1,e2]
theorem pe_cmpR {op:CmpOp} {r:R2} (ho:OpR X (compareOp op) r) (ha:PE X a ta) (hb:PE X b tb) (hm:behindInMarks op b=false):PE X (.Compare a [op] [b] pos) (tOp r ta tb):=by
 intro pins s σ H Q I h
 exact wpAny_Compare1 (binT ha hb I h fun v u s2 x y H2 I2 rx ry q=>ho pins s2 σ H2 x y v u Q I2 rx ry q) hm
noncomputable def tTest (t:TE):TT:=fun σ H Q=>t σ H fun x H'=>∃ k,x=.bl k∧Q k H'
theorem pt_cmpR {op:CmpOp} {r:R2} (ho:OpR X (compareOp op) r) (ha:PE X a ta) (hb:PE X b tb) (hm:behindInMarks op b=false):PT X (.Compare a [op] [b] pos) (tTest (tOp r ta tb)):=by
 intro pins s σ H Q I h
 refine wpAny_isTrue_Compare1 (thn (ha pins s σ H _ I h) fun v s1 ⟨x,H1,I1,r1,q1⟩=>thn (hb pins s1 σ H1 _ I1 q1) fun u s2 ⟨y,H2,I2,r2,q2⟩ =>
  thn (ho pins s2 σ H2 x y v u _ I2 r1 r2 q2) fun c s3 ⟨z,H3,I3,r3,k,e,q3⟩=>?_) hm
 subst e
 cases r3
 exact wpAny_truthy_bool ⟨H3,I3,q3⟩
noncomputable def TruV (K:PySem.W.Frag) (x:V) (H:Hp) (k:Bool):Prop :=
 match x with
 | .non=>k=false
 | .bl b=>k=b
 | .int i=>k=(i != 0)
 | .str y=>y.length≤sizeLine∧k=((y.length:Int) != 0)
 | .byt y=>y.size≤sizeLine∧k=((y.size:Int) != 0)
 | .ref p=>(∃ xs,SqL K H p xs∧k=!xs.isEmpty)∨(∃ xs,SqT K H p xs∧k=!xs.isEmpty)∨∃ kvs,H p=some (.dK kvs)∧k=!kvs.isEmpty
 | _=>False
theorem isEmpty_kv {κ:Type} {kvs:List (κ×V)} {vs:List (κ×Value)} (r:KV kvs vs):(!vs.isEmpty)=!kvs.isEmpty:=by
 cases r <;> rfl
theorem isEmpty_of {xs:List V} {its:List Value} (r:Vals xs its):(!its.toArray.isEmpty)=!xs.isEmpty:=by
 cases r <;> simp
theorem line63:(sizeLine:Nat) < 2 ^ 63:=by rw [sizeLine_eq]; decide
theorem tru_ok:TruR X (fun x H Q=>∃ k,TruV X.K x H k∧Q k H):=by
 intro pins s σ H x v Q I rx h
 obtain ⟨k,e,q⟩:=h
 have hl:=line63
 have hs:sizeLine=16777216:=sizeLine_eq
 cases x with
 | non =>
  cases rx
  have e':k=false:=e
  subst e'
  exact truthy_none ⟨H,I,q⟩
 | bl b =>
  cases rx
  have e':k=b:=e
  subst e'
  exact wpAny_truthy_bool ⟨H,I,q⟩
 | int i =>
  obtain ⟨t,rfl⟩:=rx
  have e':k=(i != 0):=e
  subst e'
  exact PySem.P.truthy_int ⟨H,I,q⟩
 | str y =>
  obtain ⟨t,rfl⟩:=rx
  obtain ⟨hy,e'⟩:y.length≤sizeLine∧k=((y.length:Int) != 0):=e
  subst e'
  exact PySem.P.truthy_str (by omega) ⟨H,I.tok _,q⟩
 | byt y =>
  obtain ⟨t,rfl⟩:=rx
  obtain ⟨hy,e'⟩:y.size≤sizeLine∧k=((y.size:Int) != 0):=e
  subst e'
  exact PySem.W.truthy_bytes (by omega) ⟨H,I.tok _,q⟩
 | ref p =>
  cases rx
  have e':(∃ xs,SqL X.K H p xs∧k=!xs.isEmpty)∨(∃ xs,SqT X.K H p xs∧k=!xs.isEmpty)∨∃ kvs,H p=some (.dK kvs)∧k=!kvs.isEmpty:=e
  rcases e' with ⟨xs,hx,e'⟩ | ⟨xs,hx,e'⟩ | ⟨kvs,hx,e'⟩
  ·subst e'
   obtain ⟨its,r,pl,hz⟩:=I.list hx
   have hlen:=r.length
   exact wpAny_truthy_list pl.isList (by simp only [List.size_toArray]; omega) ⟨H,I.tok _,by rw [isEmpty_of r]; exact q⟩
  ·subst e'
   obtain ⟨its,r,pl,hz⟩:=I.tuple hx
   have hlen:=r.length
   exact truthy_tuple pl (by simp only [List.size_toArray]; omega) ⟨H,I.tok _,by rw [isEmpty_of r]; exact q⟩
  ·subst e'
   obtain ⟨hz,hS,vs,r,m⟩:kvs.length≤sizeLine∧(p == sysModules)=false∧∃ vs,KV kvs vs∧s.heap.DictOf (mixKind X.prog X.w) p vs:=I.hok p _ hx
   have hlen:kvs.length=vs.length:=Paired.length r
   exact wpAny_truthy_dict hS m (by omega) ⟨H,I.tok _,by rw [isEmpty_kv r]; exact q⟩
 | _=>exact (show False from e).elim
theorem pt_truth (ha:PE X a ta) (he:∀ whole,isTrue a X.env whole=(do let v ← whole; standAt a.pos; holding [v] (truthy v))) :
  PT X a (fun σ H Q=>ta σ H fun x H'=>∃ k,TruV X.K x H' k∧Q k H'):=by
 intro pins s σ H Q I h
 exact isTrue_plain (thn (ha pins s σ H _ I h) fun v s1 ⟨x,H1,I1,r1,q1⟩=>tru_ok pins s1 σ H1 x v Q I1 r1 q1) (he _)
theorem op_add_str:OpR X (binaryOp .Add) (fun x y H Q=>∃ i j,x=.str i∧y=.str j∧i.length + j.length≤sizeLine∧Q (.str (i++j)) H):=by
 intro pins s σ H x y v u Q I rx ry h
 obtain ⟨i,j,rfl,rfl,hz,q⟩:=h
 obtain ⟨t,rfl⟩:=rx
 obtain ⟨t',rfl⟩:=ry
 exact add_str (fun t' tk=>⟨.str (i++j),H,I.tok _,⟨_,rfl⟩,q⟩) hz
theorem vals1 {x:V} {us:List Value} (r:Vals [x] us):∃ u,us=[u]∧RelV x u:=by
 cases r with
 | cons r1 r2=>cases r2; exact ⟨_,rfl,r1⟩
theorem vals2 {x y:V} {us:List Value} (r:Vals [x,y] us):∃ u w',us=[u,w']∧RelV x u∧RelV y w':=by
 cases r with
 | cons r1 r2 =>
  cases r2 with
  | cons r3 r4=>cases r4; exact ⟨_,_,rfl,r1,r3⟩
theorem call_max2 (hc:X.calm=true):CallR X (.builtin "max") (fun xs H Q=>∃ i j,xs=[.int i,.int j]∧Q (.int (if j > i then j else i)) H):=by
 intro pins s σ H xs us Q I r h
 obtain ⟨i,j,rfl,q⟩:=h
 obtain ⟨u,w',rfl,⟨t,rfl⟩,⟨t',rfl⟩⟩:=vals2 r
 refine max_two_ints (I.ok.hd hc) fun h' tk k=>⟨_,H,I.kept k,?_,q⟩
 by_cases hj:j > i
 ·rw [if_pos hj,if_pos hj]; exact ⟨_,rfl⟩
 ·rw [if_neg hj,if_neg hj]; exact ⟨_,rfl⟩
theorem call_int1:CallR X (.type "int") (fun xs H Q=>(∃ i,xs=[.int i]∧Q (.int i) H)∨∃ k,xs=[.bl k]∧Q (.int (if k then 1 else 0)) H):=by
 intro pins s σ H xs us Q I r h
 rcases h with ⟨i,rfl,q⟩ | ⟨k,rfl,q⟩
 ·obtain ⟨u,rfl,t,rfl⟩:=vals1 r
  exact call_int_int ⟨.int i,H,I,⟨_,rfl⟩,q⟩
 ·obtain ⟨u,rfl,r1⟩:=vals1 r
  cases r1
  exact call_int_bool ⟨.int (if k then 1 else 0),H,I.tok _,⟨_,rfl⟩,q⟩
noncomputable def LenV (K:PySem.W.Frag) (x:V) (H:Hp) (n:Nat):Prop :=
 match x with
 | .str y=>y.length≤sizeLine∧n=y.length
 | .byt y=>y.size≤sizeLine∧n=y.size
 | .ref p=>(∃ xs,SqL K H p xs∧n=xs.length)∨∃ xs,SqT K H p xs∧n=xs.length
 | _=>False
theorem call_len:CallR X (.builtin "len") (fun xs H Q=>∃ x n,xs=[x]∧LenV X.K x H n∧Q (.int n) H):=by
 intro pins s σ H xs us Q I r h
 obtain ⟨x,n,rfl,e,q⟩:=h
 obtain ⟨u,rfl,rx⟩:=vals1 r
 have hl:=line63
 have hs:sizeLine=16777216:=sizeLine_eq
 cases x with
 | str y =>
  obtain ⟨t,rfl⟩:=rx
  obtain ⟨hy,e'⟩:y.length≤sizeLine∧n=y.length:=e
  subst e'
  exact len_str (by omega) ⟨.int _,H,I.tok _,⟨_,rfl⟩,q⟩
 | byt y =>
  obtain ⟨t,rfl⟩:=rx
  obtain ⟨hy,e'⟩:y.size≤sizeLine∧n=y.size:=e
  subst e'
  exact PySem.W.len_bytes (by omega) ⟨.int _,H,I.tok _,⟨_,rfl⟩,q⟩
 | ref p =>
  cases rx
  have e':(∃ xs,SqL X.K H p xs∧n=xs.length)∨∃ xs,SqT X.K H p xs∧n=xs.length:=e
  rcases e' with ⟨xs,hx,e'⟩ | ⟨xs,hx,e'⟩
  ·subst e'
   obtain ⟨its,r',pl,hz⟩:=I.list hx
   have hlen:=r'.length
   exact Calls.call_len_list pl.isList (by simp only [List.size_toArray]; omega) ⟨.int xs.length,H,I.tok _,⟨_,by simp only [List.size_toArray]; rw [hlen]⟩,q⟩
  ·subst e'
   obtain ⟨its,r',pl,hz⟩:=I.tuple hx
   have hlen:=r'.length
   exact len_tuple pl (by simp only [List.size_toArray]; omega) ⟨.int xs.length,H,I.tok _,⟨_,by simp only [List.size_toArray]; rw [hlen]⟩,q⟩
 | _=>exact (show False from e).elim
end
end L2
namespace L2
open PySem PySem.Spec PyProof.Rows
structure ObjM (h:Heap) (x dx C:Addr) (mA:Str→Option Value):Prop where
 obj:h.get? x=some (PySem.W.instObj C dx)
 ns:h.Ns1 dx mA
 ne:dx≠x
theorem lookIn_ns {h:Heap} {dx:Addr} {mA:Str→Option Value} (n:h.Ns1 dx mA):∃ od,h.get? dx=some od∧∀ name,PySem.W.lookIn name od=some (mA name):=by
 obtain ⟨o,es,ep,ho,hd,hk,_,hm⟩:=n
 refine ⟨o,ho,fun name=>?_⟩
 have e:=hm name
 unfold nsFind findBy at e
 rw [← Array.find?_toList] at e
 unfold PySem.W.lookIn
 rw [hd]
 dsimp only
 split
 ·rename_i y q
  rw [q] at e
  exact congrArg some e
 ·rename_i q
  rw [q] at e
  have a:es.toList.any (·.refKey)=false:=by
   rw [List.any_eq_false]
   intro y hy
   obtain ⟨z,t,hkey⟩:=hk y (Array.mem_toList_iff.mp hy)
   simp [DictEntry.refKey,hkey]
  have a':¬ es.toList.any (·.refKey)=true:=by rw [a]; exact Bool.false_ne_true
  rw [if_neg a']
  exact congrArg some e
theorem ObjM.look {h:Heap} {x dx C:Addr} {mA:Str→Option Value} (I:ObjM h x dx C mA):∃ od,PySem.W.InstAt h x (PySem.W.instObj C dx) C (some od)∧∀ name,PySem.W.lookIn name od=some (mA name) :=
 let ⟨od,ho,hl⟩:=lookIn_ns I.ns
 ⟨od,⟨I.obj,rfl,rfl,ho⟩,hl⟩
section
variable {prog:Program} {w:World} {A:Around} {E:Value→Shared→Prop} {s:Shared} {K:PySem.W.Frag} {x dx C f:Addr} {mA:Str→Option Value} {name:Str} {v:Value}
theorem get_map {expr:Bool} {Q:Value→Shared→Prop} (X:K.In s.heap) (I:ObjM s.heap x dx C mA) (hg:PySem.W.plainGet K C name=true) (hh:PySem.W.hasDictIn K C=true)
  (ha:PySem.W.findIn K (.ref C) name=some none) (hv:mA name=some v) (hv':PySem.W.handedIn v=true) (h:Q v { s with toks:=s.toks + 1 }) :
  wpAny (model prog w) A (getAttr (.ref x) name expr) Q E s:=by
 obtain ⟨od,J,hl⟩:=I.look
 exact PySem.W.get_value X J (PySem.W.plainGet_of hg).1 (PySem.W.findObj_own hh ha rfl (by rw [hl,hv])) hv' h
theorem get_meth {pl:Sem Bool} {Q:Value×List Value→Shared→Prop} (X:K.In s.heap) (I:ObjM s.heap x dx C mA) (hg:PySem.W.plainGet K C name=true)
  (hf:PySem.W.findIn K (.ref C) name=some (some (.ref f))) (ht:PySem.W.isFn K (.ref f)=true) (hv:mA name=none) (h:Q (.ref f,[.ref x]) s) :
  wpAny (model prog w) A (getMethod (.ref x) name pl) Q E s:=by
 obtain ⟨od,J,hl⟩:=I.look
 exact PySem.W.method_fn X J (PySem.W.plainGet_of hg).1 (PySem.W.plainGet_of hg).2 hf (beq_iff_eq.mp ht) (by show (PySem.W.lookIn name od).map (·.isSome)=some false; rw [hl,hv]; rfl) h
theorem set_map {ns:List Str} {Q:Unit→Shared→Prop} (X:K.In s.heap) (I:ObjM s.heap x dx C mA)
  (hs:PySem.W.findIn K (.ref C) "__setattr__" = some (some (.builtin "object.__setattr__"))) (hp:PySem.W.plainOver K C=true) (ht:PySem.W.takerIn K C name=some none) (hh:PySem.W.hasDictIn K C=true)
  (hw:PySem.Within mA ns) (hsz:ns.length≤sizeLine)
  (h:∀ h',ObjM h' x dx C (fun y=>if y=name then some v else mA y)→Heap.SameBut dx s.heap h'→Q () { s with heap:=h',toks:=s.toks + 2 }) :
  wpAny (model prog w) A (setAttr (.ref x) name v) Q E s:=by
 obtain ⟨od,J,hl⟩:=I.look
 refine PySem.W.set_plain X J hs (PySem.W.osa_open (s:={ s with toks:=s.toks + 1 }) (r:=none) X J hp ht fun b=>?_)
 obtain ⟨cd,hc,hd'⟩:=PySem.W.any_some hh
 have hx:s.heap.get? x=some ⟨.ref C,some dx,.plain,#[]⟩:=I.obj
 refine wpAny_bind (wpAny_pure (wpAny_bind (wpAny_bind (wpAny_loadPart hx (wpAny_bind (PySem.W.Looks.here (s:={ s with toks:=s.toks + 1 }) (PySem.W.looks_clsIn X hc) ?_))))))
 rw [hd']
 refine wpAny_pure (a:=some dx) (wpAny_bind (wpAny_pure (wpAny_bind ?_)))
 refine wpAny_nsSet1 (s:={ s with toks:=s.toks + 1 }) I.ns fun h' hn2 hs2=>?_
 obtain ⟨oD,esD,epD,hoD,hdD,hcD⟩:=hn2.count (PySem.Within.cons name v hw)
 refine wpAny_bind (wpAny_lookBehind hoD (by rw [hdD]; exact pastItsLine_dict (Nat.le_trans hcD (by rw [List.length_cons]; omega))) ?_)
 exact wpAny_pure (h _ ⟨(hs2.2 _ (Ne.symm I.ne)).trans I.obj,hn2,I.ne⟩ hs2)
theorem make_map {R:Result→Shared→Prop} {vs:List Value} {kw:List (Str×Value)} (X:K.In s.heap) (hm:PySem.W.makesIn K C=true)
  (hi:PySem.W.findIn K (.ref C) "__init__" = some (some (.ref f))) (hf:PySem.W.typeIn K (.ref f)=some (.type "function"))
  (h:codeAny (model prog w) (A.under (.builtin "type.__call__" ⟨.ref C :: vs,kw⟩)) (.call (.ref f) ⟨.ref (s.heap.objs.size + 1) :: vs,kw⟩) (PySem.W.InitBack (s.heap.objs.size + 1) R)
   { s with heap:=(s.heap.push PySem.W.emptyDict).push (PySem.W.instObj C s.heap.objs.size) }) :
  codeAny (model prog w) A (.call (.ref C) ⟨vs,kw⟩) R s:=by
 obtain ⟨hh,g,d,t,os⟩:=s
 exact PySem.W.make_core (PySem.W.makes_of X hm) (PySem.W.looks_findIn X hi) (fun self=>PySem.W.bind_fn X self hf) (.inl rfl) h
end
noncomputable def putF (f:Str) (v:V):List (Str×V)→List (Str×V)
 | []=>[(f,v)]
 | (g,x) :: r=>if g=f then (g,v) :: r else (g,x) :: putF f v r
theorem lookup_putF (f g:Str) (v:V):∀ fs:List (Str×V),(putF f v fs).lookup g=if g=f then some v else fs.lookup g
 | []=>by
  show List.lookup g [(f,v)]=_
  by_cases h:g=f
  ·have hb:(g == f)=true:=beq_iff_eq.mpr h
   simp only [List.lookup,hb,if_pos h]
  ·have hb:(g == f)=false:=beq_eq_false_iff_ne.mpr h
   simp only [List.lookup,hb,if_neg h]
 | (k,x) :: r=>by
  have ih:=lookup_putF f g v r
  rw [show putF f v ((k,x) :: r)=(if k=f then (k,v) :: r else (k,x) :: putF f v r) from rfl]
  by_cases hk:k=f
  ·rw [if_pos hk]
   by_cases h:g=k
   ·have hb:(g == k)=true:=beq_iff_eq.mpr h
    simp only [List.lookup,hb,if_pos (h.trans hk)]
   ·have hb:(g == k)=false:=beq_eq_false_iff_ne.mpr h
    simp only [List.lookup,hb,if_neg (fun e:g=f=>h (e.trans hk.symm))]
  ·rw [if_neg hk]
   by_cases h:g=k
   ·have hb:(g == k)=true:=beq_iff_eq.mpr h
    simp only [List.lookup,hb,if_neg (fun e:g=f=>hk (h.symm.trans e))]
   ·have hb:(g == k)=false:=beq_eq_false_iff_ne.mpr h
    simp only [List.lookup,hb]
    exact ih
theorem keys_putF (f:Str) (v:V):∀ fs:List (Str×V),f∈(putF f v fs).map (·.1)∧∀ g,g∈fs.map (·.1)→g∈(putF f v fs).map (·.1)
 | []=>⟨by simp [putF],fun g h=>by simp at h⟩
 | (k,x) :: r=>by
  obtain ⟨i1,i2⟩:=keys_putF f v r
  rw [show putF f v ((k,x) :: r)=(if k=f then (k,v) :: r else (k,x) :: putF f v r) from rfl]
  by_cases hk:k=f
  ·rw [if_pos hk]
   subst hk
   exact ⟨by simp,fun g h=>by simpa using h⟩
  ·rw [if_neg hk]
   refine ⟨?_,fun g h=>?_⟩
   ·rw [List.map_cons]
    exact List.mem_cons_of_mem _ i1
   ·rw [List.map_cons] at h ⊢
    rcases List.mem_cons.mp h with e | e
    ·exact List.mem_cons.mpr (.inl e)
    ·exact List.mem_cons_of_mem _ (i2 g e)
theorem length_putF (f:Str) (v:V):∀ fs:List (Str×V),(putF f v fs).length≤fs.length + 1
 | []=>by simp [putF]
 | (k,x) :: r=>by
  have ih:=length_putF f v r
  rw [show putF f v ((k,x) :: r)=(if k=f then (k,v) :: r else (k,x) :: putF f v r) from rfl]
  by_cases hk:k=f
  ·rw [if_pos hk,List.length_cons,List.length_cons]; omega
  ·rw [if_neg hk,List.length_cons,List.length_cons]; omega
theorem RelO.some_of {v:V} {o:Option Value} (r:RelO (some v) o):∃ u,o=some u∧RelV v u:=by
 cases o with
 | none=>exact (show False from r).elim
 | some u=>exact ⟨u,rfl,r⟩
theorem RelO.none_of {o:Option Value} (r:RelO none o):o=none:=by
 cases o with
 | none=>rfl
 | some u=>exact (show False from r).elim
theorem handed_of {v:V} {u:Value} (r:RelV v u):PySem.W.handedIn u=true:=by
 cases v with
 | non=>cases (show u=Value.none from r); rfl
 | bl b=>cases (show u=Value.bool b from r); rfl
 | int i=>obtain ⟨t,e⟩:=(show ∃ t,u=Value.int i t from r); cases e; rfl
 | str x=>obtain ⟨t,e⟩:=(show ∃ t,u=Value.str x t from r); cases e; rfl
 | byt b=>obtain ⟨t,e⟩:=(show ∃ t,u=Value.bytes b t from r); cases e; rfl
 | flt b=>obtain ⟨t,e⟩:=(show ∃ t,u=Value.float b t from r); cases e; rfl
 | ref a=>cases (show u=Value.ref a from r); rfl
 | ty n=>cases (show u=Value.type n from r); rfl
section
variable {P:Program} {w:World} {H H':Hp} {h h':Heap} {a C dx:Addr} {fs fs':List (Str×V)}
theorem ins_get (hok:HOk P w H h) (e:H a=some (.ins C dx fs)):∃ mA,ObjM h a dx C mA∧(∀ f,RelO (fs.lookup f) (mA f))∧PySem.Within mA (fs.map (·.1))∧fs.length≤1000∧H dx=some (.own a):=by
 obtain ⟨d,z,ne,ob,mA,n,r,q⟩:=(show ObjOk P w H h a (.ins C dx fs) from hok a _ e)
 exact ⟨mA,⟨ob,n,ne⟩,r,q,z,d⟩
end
structure Cls (K:PySem.W.Frag) (C:Addr):Prop where
 pg:PySem.W.plainGet K C Str.empty=true
 hd:PySem.W.hasDictIn K C=true
 po:PySem.W.plainOver K C=true
 sa:PySem.W.findIn K (.ref C) "__setattr__" = some (some (.builtin "object.__setattr__"))
theorem Cls.get {K:PySem.W.Frag} {C:Addr} (c:Cls K C) (f:Str):PySem.W.plainGet K C f=true:=c.pg
noncomputable def NoAttr (K:PySem.W.Frag) (C:Addr) (f:Str):Prop:=PySem.W.findIn K (.ref C) f=some none
theorem NoAttr.taker {K:PySem.W.Frag} {C:Addr} {f:Str} (n:NoAttr K C f):PySem.W.takerIn K C f=some none:=by
 unfold PySem.W.takerIn
 rw [show PySem.W.findIn K (.ref C) f=some none from n]
 rfl
structure Meth (K:PySem.W.Frag) (C:Addr) (m:Str) (f:Addr):Prop where
 at_:PySem.W.findIn K (.ref C) m=some (some (.ref f))
 fn:PySem.W.isFn K (.ref f)=true
 kp:PySem.W.keepIn K (.ref f)=true
section
variable {X:Cx} {pins:List (Addr×Obj)} {σ:St} {H:Hp} {s:Shared} {a C dx:Addr} {fs:List (Str×V)} {f:Str} {v:V} {A:Around} {E:Value→Shared→Prop}
theorem getattr_ok {b:Bool} {Q:Value→Shared→Prop} (I:Inv X pins σ H s) (e:H a=some (.ins C dx fs)) (c:Cls X.K C) (n:NoAttr X.K C f) (l:fs.lookup f=some v)
  (h:∀ u s',Inv X pins σ H s'→RelV v u→Q u s'):wpAny (model X.prog X.w) A (getAttr (.ref a) f b) Q E s:=by
 obtain ⟨mA,O,r,_,_,_⟩:=ins_get I.hok e
 obtain ⟨u,hu,ru⟩:=RelO.some_of (v:=v) (o:=mA f) (by rw [← l]; exact r f)
 exact get_map I.kIn O (c.get f) c.hd n hu (handed_of ru) (h u _ (I.tok _) ru)
theorem getmeth_ok {m:Str} {g:Addr} {pl:Sem Bool} {Q:Value×List Value→Shared→Prop} (I:Inv X pins σ H s) (e:H a=some (.ins C dx fs)) (c:Cls X.K C) (k:Meth X.K C m g) (l:fs.lookup m=none)
  (h:Q (.ref g,[.ref a]) s):wpAny (model X.prog X.w) A (getMethod (.ref a) m pl) Q E s:=by
 obtain ⟨mA,O,r,_,_,_⟩:=ins_get I.hok e
 have hn:mA m=none:=RelO.none_of (by rw [← l]; exact r m)
 exact get_meth I.kIn O (c.get m) k.at_ k.fn hn h
theorem setattr_ok {y:V} {u:Value} {Q:Unit→Shared→Prop} (I:Inv X pins σ H s) (e:H a=some (.ins C dx fs)) (c:Cls X.K C) (n:NoAttr X.K C f) (hl:fs.length < 1000) (ry:RelV y u)
  (h:∀ s',Inv X pins σ (upd H a (.ins C dx (putF f y fs))) s'→Q () s'):wpAny (model X.prog X.w) A (setAttr (.ref a) f u) Q E s:=by
 obtain ⟨mA,O,r,wi,_,ho⟩:=ins_get I.hok e
 have hz:(fs.map (·.1)).length≤sizeLine:=by rw [List.length_map,sizeLine_eq]; omega
 refine set_map I.kIn O c.sa c.po n.taker c.hd wi hz fun h' O' sb=>h _ ?_
 have hd:∃ o,h'.get? dx=some o:=let ⟨o,_,_,e',_⟩:=O'.ns; ⟨o,e'⟩
 refine I.write (x:=a) (e:=dx) (by rw [e]; exact True.intro) (.inr ho) (fun b q hb z=>(sb.2 b hb).trans z) hd ?_
 refine ⟨by rw [upd_ne O.ne]; exact ho,?_,O.ne,O'.obj,_,O'.ns,fun g=>?_,fun g hg=>?_⟩
 ·have:=length_putF f y fs; omega
 ·show RelO ((putF f y fs).lookup g) (if g=f then some u else mA g)
  rw [lookup_putF]
  by_cases q:g=f
  ·rw [if_pos q,if_pos q]; exact ry
  ·rw [if_neg q,if_neg q]; exact r g
 ·by_cases q:g=f
  ·rw [q]; exact (keys_putF f y fs).1
  ·refine (keys_putF f y fs).2 g (wi g fun z=>hg ?_)
   show (if g=f then some u else mA g)=none
   rw [if_neg q]; exact z
theorem Inv.made (I:Inv X pins σ H s):Inv X pins σ (upd (upd H s.heap.objs.size (.own (s.heap.objs.size + 1))) (s.heap.objs.size + 1) (.ins C s.heap.objs.size []))
  { s with heap:=(s.heap.push PySem.W.emptyDict).push (PySem.W.instObj C s.heap.objs.size) }:=by
 have e1:(s.heap.push PySem.W.emptyDict).get? s.heap.objs.size=some PySem.W.emptyDict:=Heap.get?_push_size s.heap rfl
 have e2:((s.heap.push PySem.W.emptyDict).push (PySem.W.instObj C s.heap.objs.size)).get? (s.heap.objs.size + 1)=some (PySem.W.instObj C s.heap.objs.size):=by
  have:=Heap.get?_push_size (s.heap.push PySem.W.emptyDict) (o:=PySem.W.instObj C s.heap.objs.size) rfl
  rwa [Heap.size_push] at this
 have e3:(s.heap.push PySem.W.emptyDict).Ns s.heap.objs.size (fun _=>none):=⟨PySem.W.emptyDict,#[],_,e1,rfl,(fun e he=>absurd he (by simp)),fun _=>rfl⟩
 have I1:=I.laid (a:=s.heap.objs.size) (o:=.own (s.heap.objs.size + 1)) (h':=s.heap.push PySem.W.emptyDict) (t':=s.toks) (fun b u q=>Heap.get?_push_of_some _ q) (Nat.le_refl _) ⟨_,e1⟩
 refine I1.laid (a:=s.heap.objs.size + 1) (o:=.ins C s.heap.objs.size []) (t':=s.toks) (fun b u q=>Heap.get?_push_of_some _ q) (Nat.le_of_eq (Heap.size_push _ _)) ?_
 have ne:s.heap.objs.size≠s.heap.objs.size + 1:=Nat.ne_of_lt (Nat.lt_succ_self _)
 refine ⟨by rw [upd_ne ne,upd_same],Nat.zero_le _,ne,e2,fun _=>none,(Heap.Ns1.of_empty e3).at fun o q=>Heap.get?_push_of_some _ q,fun _=>True.intro,fun y hy=>absurd rfl hy⟩
theorem attr_of {prog:Program} {w:World} {env:Env} {e:Expr} {f:Str} {pos:Pos} {s:Shared} {Q:Value→Shared→Prop} (hb:attributeBase e f env (eval e env)=eval e env)
  (h:wpAny (model prog w) A (eval e env) (fun o s₁=>wpAny (model prog w) A (getAttr o f true) Q E s₁) E s):wpAny (model prog w) A (eval (.Attribute e f pos) env) Q E s :=
 Attribute_any_ h (by rw [arm_eval_Attribute,hb])
end
noncomputable def tFld (K:PySem.W.Frag) (ta:TE) (f:Str):TE:=fun σ H Q=>ta σ H fun x H1=>∃ a C dx fs v,x=.ref a∧H1 a=some (.ins C dx fs)∧Cls K C∧NoAttr K C f∧fs.lookup f=some v∧Q v H1
noncomputable def sFld (K:PySem.W.Frag) (ta tv:TE) (f:Str):TS:=fun D σ H=>tv σ H fun y H1=>ta σ H1 fun x H2=>∃ a C dx fs,x=.ref a∧H2 a=some (.ins C dx fs)∧Cls K C∧NoAttr K C f∧fs.length < 1000 ∧
 D.nx σ (upd H2 a (.ins C dx (putF f y fs)))
noncomputable def InOp (X:Cx) (op:Operator) (rd:V→V→Hp→VK→Prop):Prop :=
 ∀ (pins:List (Addr×Obj)) (s:Shared) (σ:St) (H:Hp) (x y:V) (u v:Value) (Q:VK),Inv X pins σ H s→RelV x u→RelV y v→rd x y H Q→wpAny (model X.prog X.w) X.A (inplaceOp op u v) (EP X pins σ Q) X.xe s
noncomputable def sFldAug (K:PySem.W.Frag) (ta tv:TE) (rd:V→V→Hp→VK→Prop) (f:Str):TS:=fun D σ H=>ta σ H fun x H1=>∃ a C dx fs v,x=.ref a∧H1 a=some (.ins C dx fs)∧Cls K C∧NoAttr K C f∧fs.lookup f=some v ∧
 tv σ H1 fun y H2=>rd v y H2 fun z H3=>∃ dx' fs',H3 a=some (.ins C dx' fs')∧fs'.length < 1000∧D.nx σ (upd H3 a (.ins C dx' (putF f z fs')))
section
variable {X:Cx} {o e value:Expr} {f:Str} {pos pos' tpos:Pos} {ta tv:TE}
theorem pe_fld (he:PE X e ta) (hb:attributeBase e f X.env (eval e X.env)=eval e X.env):PE X (.Attribute e f pos) (tFld X.K ta f):=by
 intro pins s σ H Q I h
 refine attr_of hb (thn (he pins s σ H _ I h) fun u s1 ⟨x,H1,I1,rx,a,C,dx,fs,v,ex,ea,c,n,l,q⟩=>?_)
 subst ex
 obtain rfl:u=Value.ref a:=rx
 exact getattr_ok I1 ea c n l fun u' s2 I2 ru=>⟨v,H1,I2,ru,q⟩
theorem ps_fld (ha:PE X o ta) (hv:PE X value tv) (hs:swapsWith value (some (.Attribute o f pos')) pos.line X.env=pure false):PS X (.Assign [.Attribute o f pos'] value pos) (sFld X.K ta tv f):=by
 intro pins s σ H D I h
 refine plainObj_wpAny_Assign_Attribute (thn (hv pins s σ H _ I h) fun u s1 ⟨y,H1,I1,ry,q⟩=>thn (ha pins s1 σ H1 _ I1 q) fun ov s2 ⟨x,H2,I2,rx,a,C,dx,fs,ex,ea,c,n,l,q2⟩=>?_) hs
 subst ex
 obtain rfl:ov=Value.ref a:=rx
 exact setattr_ok I2 ea c n l ry fun s3 I3=>⟨σ,_,I3,q2⟩
theorem ps_fldaug {op:Operator} {rd:V→V→Hp→VK→Prop} (ha:PE X o ta) (hv:PE X value tv) (hop:InOp X op rd):PS X (.AugAssign (.Attribute o f tpos) op value pos) (sFldAug X.K ta tv rd f):=by
 intro pins s σ H D I h
 refine wpAny_AugAssign_AttributeAny (thn (ha pins s σ H _ I h) fun ov s1 ⟨x,H1,I1,rx,a,C,dx,fs,v,ex,ea,c,n,l,q⟩=>?_)
 subst ex
 obtain rfl:ov=Value.ref a:=rx
 refine getattr_ok I1 ea c n l fun u s2 I2 ru=>thn (hv pins s2 σ H1 _ I2 q) fun w3 s3 ⟨y,H2,I3,ry,q3⟩=>thn (hop pins s3 σ H2 v y u w3 _ I3 ru ry q3) fun w4 s4 ⟨z,H3,I4,rz,dx',fs',ea',l',q4⟩=>?_
 exact setattr_ok I4 ea' c n l' rz fun s5 I5=>⟨σ,_,I5,q4⟩
noncomputable def rAdd:V→V→Hp→VK→Prop:=fun x y H Q=>∃ i j,x=.int i∧y=.int j∧Q (.int (i + j)) H
theorem in_add:InOp X .Add rAdd:=by
 rintro pins s σ H x y u v Q I rx ry ⟨i,j,rfl,rfl,q⟩
 obtain ⟨t,rfl⟩:=(show ∃ t,u=Value.int i t from rx)
 obtain ⟨t',rfl⟩:=(show ∃ t',v=Value.int j t' from ry)
 exact PyProof.Rows.iadd_int ⟨.int (i + j),H,I.tok _,⟨_,rfl⟩,q⟩
end
section
variable {X:Cx} {pins:List (Addr×Obj)} {σ:St} {H:Hp} {s:Shared} {A:Around} {E:Value→Shared→Prop} {Q:Value→Shared→Prop} {c:Value} {b:Bool}
inductive TyOf (K:PySem.W.Frag) (H:Hp):V→Value→Prop where
 | non:TyOf K H .non (.type "NoneType")
 | bl (x:Bool):TyOf K H (.bl x) (.type "bool")
 | int (i:Int):TyOf K H (.int i) (.type "int")
 | str (x:Str):TyOf K H (.str x) (.type "str")
 | flt (x:UInt64):TyOf K H (.flt x) (.type "float")
 | lst {a:Addr} {xs:List V} (e:H a=some (.lst xs)):TyOf K H (.ref a) (.type "list")
 | frz {a:Addr} {o:Obj} {xs:List V} (e:H a=some (.frz o (.lst xs))):TyOf K H (.ref a) (.type "list")
 | tup {a:Addr} {xs:List V} (e:H a=some (.tup xs)):TyOf K H (.ref a) (.type "tuple")
 | dK {a:Addr} {kvs:List (Key×V)} (e:H a=some (.dK kvs)):TyOf K H (.ref a) (.type "dict")
 | dT {a:Addr} {kvs:List (List Key×V)} (e:H a=some (.dT kvs)):TyOf K H (.ref a) (.type "dict")
 | ins {a C dx:Addr} {fs:List (Str×V)} (e:H a=some (.ins C dx fs)) (cl:Cls K C) (ha:PySem.W.findIn K (.ref C) "__class__" = some (some (.builtin "object.__class__")))
   (hn:PySem.W.specialIn K (.builtin "object.__class__") "__get__" = some (some (.builtin "getset_descriptor.__get__"))) (htk:PySem.W.takesIn K (.builtin "object.__class__")=some true)
   (hm:PySem.W.mroIn K C (.type "object")=some true):TyOf K H (.ref a) (.ref C)
theorem isinst_ok {x:V} {u t:Value} (I:Inv X pins σ H s) (rx:RelV x u) (ty:TyOf X.K H x t) (e:PySem.W.kitOne X.K t c=some b) (h:∀ tk,Q (.bool b) { s with toks:=tk }) :
  wpAny (model X.prog X.w) A (call (.builtin "isinstance") [u,c]) Q E s:=by
 cases ty with
 | non=>cases (show u=Value.none from rx); exact PySem.W.kia_one PySem.W.kitx_none I.kIn True.intro e (fun z=>nomatch z) h
 | bl y=>cases (show u=Value.bool y from rx); exact PySem.W.kia_one PySem.W.kitx_bool I.kIn True.intro e (fun z=>nomatch z) h
 | int i=>obtain ⟨t,q⟩:=(show ∃ t,u=Value.int i t from rx); cases q; exact PySem.W.kia_one PySem.W.kitx_int I.kIn True.intro e (fun z=>nomatch z) h
 | str y=>obtain ⟨t,q⟩:=(show ∃ t,u=Value.str y t from rx); cases q; exact PySem.W.kia_one PySem.W.kitx_str I.kIn True.intro e (fun z=>nomatch z) h
 | flt y=>obtain ⟨t,q⟩:=(show ∃ t,u=Value.float y t from rx); cases q; exact PySem.W.kia_one PySem.W.kitx_float I.kIn True.intro e (fun z=>nomatch z) h
 | @lst a xs ea =>
  cases (show u=Value.ref a from rx)
  obtain ⟨_,_,n,_,h1⟩:=(show ObjOk X.prog X.w H s.heap a (.lst xs) from I.hok a _ ea)
  exact PySem.W.kia_one PySem.W.kitx_list I.kIn ⟨_,h1,rfl⟩ e (fun z=>nomatch z) h
 | @frz a ob xs ea =>
  cases (show u=Value.ref a from rx)
  obtain ⟨_,_,_,n,_,h1⟩:=(show ObjOk X.prog X.w H s.heap a (.frz ob (.lst xs)) from I.hok a _ ea)
  exact PySem.W.kia_one PySem.W.kitx_list I.kIn ⟨_,h1,rfl⟩ e (fun z=>nomatch z) h
 | @tup a xs ea =>
  cases (show u=Value.ref a from rx)
  obtain ⟨_,_,_,p⟩:=(show ObjOk X.prog X.w H s.heap a (.tup xs) from I.hok a _ ea)
  obtain ⟨o,h1,h2,_⟩:=p
  exact PySem.W.kia_one PySem.W.kitx_tuple I.kIn ⟨o,h1,h2⟩ e (fun z=>nomatch z) h
 | @dK a kvs ea =>
  cases (show u=Value.ref a from rx)
  obtain ⟨_,_,vs,_,p⟩:=(show ObjOk X.prog X.w H s.heap a (.dK kvs) from I.hok a _ ea)
  obtain ⟨o,es,ep,h1,h2,_⟩:=p
  exact PySem.W.kia_one PySem.W.kitx_dict I.kIn ⟨o,h1,h2.1⟩ e (fun z=>nomatch z) h
 | @dT a kvs ea =>
  cases (show u=Value.ref a from rx)
  obtain ⟨_,_,xs,_,o,es,ep,h1,h2,_⟩:=(show ObjOk X.prog X.w H s.heap a (.dT kvs) from I.hok a _ ea)
  exact PySem.W.kia_one PySem.W.kitx_dict I.kIn ⟨o,h1,h2.1⟩ e (fun z=>nomatch z) h
 | @ins a C dx fs ea cl ha hn htk hm =>
  cases (show u=Value.ref a from rx)
  obtain ⟨mA,O,_⟩:=ins_get I.hok ea
  obtain ⟨od,J,_⟩:=O.look
  exact PySem.W.kia_one (PySem.W.kitx_own (cl.get _) cl.hd ha hn htk hm) I.kIn J e (fun z=>nomatch z) h
end
end L2
namespace L2
open PySem PySem.Spec PyProof.Rows
structure Room (k:Nat) (A:Around):Prop where
 hd:A.handled=none
 dp:A.depth + 3 * k + 5 < recursionLimit
 un:A.units + 16 * k + 200 < cLine
theorem Room.mono {j k:Nat} {A:Around} (r:Room k A) (h:j≤k):Room j A:=⟨r.hd,by have:=r.dp; omega,by have:=r.un; omega⟩
theorem Room.deeper {k:Nat} {A:Around} (r:Room (k + 1) A) (env:Env):Room k (A.deeper env) :=
 ⟨r.hd,by have:=r.dp; show A.depth + 1 + 3 * k + 5 < _; omega,by have:=r.un; show A.units + 3 + 16 * k + 200 < _; omega⟩
theorem make_depth {A:Around} {C:Addr} {us:List Value} {kw:List (Str×Value)}:(A.under (.builtin "type.__call__" ⟨.ref C :: us,kw⟩)).depth=A.depth + 1:=by
 first | rfl | simp [Around.under,Code.weight,Code.isCreation,Code.isGuard,Code.isCaller,Code.frames,Code.isFrame,guardIds]
theorem make_units {A:Around} {C:Addr} {us:List Value} {kw:List (Str×Value)}:(A.under (.builtin "type.__call__" ⟨.ref C :: us,kw⟩)).units=A.units + 1:=by
 first | rfl | simp [Around.under,Code.cUnits,Code.frames,Code.isFrame]
theorem Room.make {k:Nat} {A:Around} (r:Room (k + 1) A) (C:Addr) (us:List Value) (kw:List (Str×Value)):Room k (A.under (.builtin "type.__call__" ⟨.ref C :: us,kw⟩)) :=
 ⟨r.hd,by have:=r.dp; rw [make_depth]; omega,by have:=r.un; rw [make_units]; omega⟩
theorem Room.depth {k:Nat} {A:Around} (r:Room k A):A.depth < recursionLimit:=by have:=r.dp; omega
noncomputable def tNil:TA:=fun _ H Q=>Q [] H
noncomputable def tCons (ta:TE) (tr:TA):TA:=fun σ H Q=>ta σ H fun x H1=>tr σ H1 fun xs H2=>Q (x :: xs) H2
section
variable {X:Cx} {e:Expr} {es:List Expr} {te:TE} {t:TA} {pos:Pos}
theorem pa_nil:PA X [] tNil:=fun _ _ _ _ H Q I h=>Calls.spliced_nil ⟨[],H,I,.nil,h⟩
theorem pa_cons (ha:PE X e te) (hr:PA X es t) (hs:starEach (e :: es) X.env=(false,eval e X.env) :: starEach es X.env:=by rfl):PA X (e :: es) (tCons te t):=by
 intro pos pins s σ H Q I h
 rw [hs]
 show wpAny _ _ (spliced ((false,eval e X.env) :: backTo pos (starEach es X.env))) _ _ s
 refine Calls.spliced_cons (thn (ha pins s σ H _ I h) fun u s1 ⟨x,H1,I1,r1,q1⟩=>?_)
 exact thn (hr pos pins s1 σ H1 _ I1 q1) fun us s2 ⟨xs,H2,I2,r2,q2⟩=>⟨x :: xs,H2,I2,.cons r1 r2,q2⟩
noncomputable def tTup (t:TA):TE:=fun σ H Q=>t σ H fun xs H1=>xs.length≤sizeLine∧∀ p,H1 p=none→Q (.ref p) (upd H1 p (.tup xs))
noncomputable def tLst (t:TA):TE:=fun σ H Q=>t σ H fun xs H1=>xs.length≤sizeLine∧∀ p,H1 p=none→Q (.ref p) (upd H1 p (.lst xs))
theorem pe_tup {x1} (h:PA X es t):PE X (.Tuple es x1 pos) (tTup t):=by
 intro pins s σ H Q I hq
 refine wpAny_Tuple_spliced (thn (h pos pins s σ H _ I hq) fun us s1 ⟨xs,H1,I1,r,z,q⟩=>⟨by rw [← r.length]; exact z,?_⟩)
 have hf:H1 s1.heap.objs.size=none:=I1.hok.fresh (Nat.le_refl _)
 refine ⟨.ref s1.heap.objs.size,upd H1 s1.heap.objs.size (.tup xs),I1.laid (t':=s1.toks) (fun b u e=>Heap.get?_push_of_some _ e) (Nat.le_refl _) ?_,rfl,q _ hf⟩
 exact ⟨z,us,r,⟨_,Heap.get?_push_size _ rfl,rfl,_,rfl⟩⟩
theorem pe_lst (h:PA X es t):PE X (.List es pos) (tLst t):=by
 intro pins s σ H Q I hq
 refine wpAny_List_spliced (thn (h pos pins s σ H _ I hq) fun us s1 ⟨xs,H1,I1,r,z,q⟩=>⟨by rw [← r.length]; exact z,?_⟩)
 have hf:H1 s1.heap.objs.size=none:=I1.hok.fresh (Nat.le_refl _)
 refine ⟨.ref s1.heap.objs.size,upd H1 s1.heap.objs.size (.lst xs),I1.laid (t':=s1.toks) (fun b u e=>Heap.get?_push_of_some _ e) (Nat.le_refl _) ?_,rfl,q _ hf⟩
 exact ⟨z,us,0,r,Heap.get?_push_size _ rfl⟩
end
noncomputable abbrev Sp:=List V→Hp→VK→XK→Prop
noncomputable abbrev CXT:=List Env→Hp→Shared→XK→Value→Shared→Prop
structure Env0 (P:Program) (w:World) (K:PySem.W.Frag) (mg:Str→Option Value) (base:Heap) (A:Around) (outer:List Env) (s:Shared) (H:Hp):Prop where
 frames:A.frames=some outer
 mod:Mod K mg base
 bs:∀ b o,base.get? b=some o→s.heap.get? b=some o∧H b=none
 bsz:base.objs.size≤s.heap.objs.size
 funs:s.heap.FunFrames base outer
 frf:∀ b∈frs outer,H b=none
 hok:HOk P w H s.heap
 bare:AllBare s.gens
noncomputable def CE (outer:List Env) (P:Program) (w:World) (H:Hp) (s:Shared) (Q:VK) (u:Value) (s':Shared):Prop :=
 ∃ v H',s'.os=s.os∧AllBare s'.gens∧Un (frs outer) [] H H' s.heap s'.heap∧HOk P w H' s'.heap∧RelV v u∧Q v H'
noncomputable def CR (CX:CXT) (outer:List Env) (P:Program) (w:World) (H:Hp) (s:Shared) (Q:VK) (E:XK) (r:Result) (s':Shared):Prop :=
 match r with
 | .ok (.ret u)=>CE outer P w H s Q u s'
 | .ok _=>False
 | .error e=>CX outer H s E e s'
structure FnOk (P:Program) (w:World) (K:PySem.W.Frag) (mg:Str→Option Value) (base:Heap) (CX:CXT) (k:Nat) (f:Addr) (fd:FuncData) (ps:List Str) (sp:Sp):Prop where
 len:∀ vs H Q E,sp vs H Q E→vs.length=ps.length
 run:∀ (A:Around) (outer:List Env) (s:Shared) (H:Hp) (args:Args) (us:List Value) (vs:List V) (Q:VK) (E:XK),Room k A→Env0 P w K mg base A outer s H→BindsTo s fd args (ps.zip us)→Vals vs us→sp vs H Q E →
  codeAny (model P w) A (.call (.ref f) args) (CR CX outer P w H s Q E) s
theorem Env0.make {P:Program} {w:World} {K:PySem.W.Frag} {mg:Str→Option Value} {base:Heap} {A:Around} {outer:List Env} {s:Shared} {H:Hp} (e:Env0 P w K mg base A outer s H) (C:Addr) (us:List Value) (kw:List (Str×Value)) :
  Env0 P w K mg base (A.under (.builtin "type.__call__" ⟨.ref C :: us,kw⟩)) outer s H:=⟨by first | exact e.frames | (simpa [Around.under,Code.envs,Code.isFrame,pushEnvs] using e.frames),e.mod,e.bs,e.bsz,e.funs,e.frf,e.hok,e.bare⟩
section
variable {X:Cx} {pins:List (Addr×Obj)} {σ:St} {H:Hp} {s s':Shared}
theorem Inv.env0 (I:Inv X pins σ H s):Env0 X.prog X.w X.K X.mg X.base X.A X.stack s H :=
 ⟨I.ok.frames,I.ok.mod,I.bs,Nat.le_trans I.ok.bsz I.sz,I.stack,I.stkFree,I.hok,I.bare⟩
theorem Inv.after {Q:VK} {u:Value} (I:Inv X pins σ H s) (h:CE X.stack X.prog X.w H s Q u s'):EP X pins σ Q u s':=by
 obtain ⟨v,H',os,bare,un,hok,r,q⟩:=h
 obtain ⟨hh,g,d,t,os'⟩:=s'
 obtain rfl:os'=s.os:=os
 exact ⟨v,H',I.call (h':=hh) (g':=g) (d':=d) (t':=t) (ch:=[]) un hok bare (fun b z=>absurd z (by simp)),r,q⟩
end
noncomputable def tCall (sp:Sp) (dvs:List V) (E:XK) (t:TA):TE:=fun σ H Q=>t σ H fun vs H1=>sp (vs++dvs) H1 Q E
noncomputable def Binds (K:PySem.W.Frag) (fd:FuncData) (ps:List Str) (ds:List Value):Prop :=
 ∀ (s:Shared) (us:List Value),K.In s.heap→(us++ds).length=ps.length→BindsTo s fd ⟨us,[]⟩ (ps.zip (us++ds))
theorem Binds.all {K:PySem.W.Frag} {fd:FuncData} {ps:List Str} (h:∀ us:List Value,us.length=ps.length→bindArgs fd ⟨us,[]⟩=pure (ps.zip us)):Binds K fd ps []:=fun s us _ hl=>by
 rw [List.append_nil] at hl ⊢
 exact .of_eq (h us hl)
noncomputable def Passes (CX:CXT) (X:Cx) (E:XK):Prop:=∀ (pins:List (Addr×Obj)) (σ:St) (H:Hp) (s:Shared) (e:Value) (s':Shared),Inv X pins σ H s→CX X.stack H s E e s'→X.xe e s'
section
variable {X:Cx} {CX:CXT} {k:Nat} {f C:Addr} {fd:FuncData} {ps:List Str} {sp:Sp} {dvs:List V} {ds:List Value} {E:XK} {x m:Str} {p pos apos:Pos} {e o:Expr} {es:List Expr} {ta:TE} {t:TA}
theorem run_fn {pins:List (Addr×Obj)} {σ:St} {H:Hp} {s:Shared} {Q:VK} {us:List Value} {vs:List V} (F:FnOk X.prog X.w X.K X.mg X.base CX k f fd ps sp) (hr:Room k X.A) (hb:Binds X.K fd ps ds) (hd:Vals dvs ds) (hx:Passes CX X E)
  (I:Inv X pins σ H s) (r:Vals vs us) (h:sp (vs++dvs) H Q E):wpAny (model X.prog X.w) X.A (call (.ref f) us) (EP X pins σ Q) X.xe s:=by
 have r2:Vals (vs++dvs) (us++ds):=r.append hd
 have hl:(us++ds).length=ps.length:=by rw [← r2.length]; exact F.len _ _ _ _ h
 refine wpAny_call (codeAny_mono (F.run X.A X.stack s H ⟨us,[]⟩ (us++ds) (vs++dvs) Q E hr I.env0 (hb s us I.kIn hl) r2 h) fun r s' hq=>?_)
 cases r with
 | error e=>exact hx pins σ H s e s' I hq
 | ok fl =>
  cases fl with
  | ret u=>exact I.after hq
  | next=>exact False.elim hq
  | brk=>exact False.elim hq
  | cont=>exact False.elim hq
theorem pe_call (F:FnOk X.prog X.w X.K X.mg X.base CX k f fd ps sp) (hr:Room k X.A) (hg:Gl X x) (hm:X.mg x=some (.ref f)) (hk:PySem.W.keepIn X.K (.ref f)=true) (hb:Binds X.K fd ps ds) (hd:Vals dvs ds) (hx:Passes CX X E)
  (ha:PA X (e :: es) t) (hdb:(x == ("__debug__" : Str))=false:=by decide) (he:starEach (e :: es) X.env=(false,eval e X.env) :: starEach es X.env:=by rfl) (hpl:(backTo pos (starEach es X.env)).any (·.1)=false:=by rfl) :
  PE X (.Call (.Name x p) (e :: es) [] pos) (tCall sp dvs E t):=by
 intro pins s σ H Q I h
 refine wpAny_Call_Name_kw (ld_glob I hg hm ?_ hdb)
 refine PySem.W.callWith_K (h₀:=X.base) I.ok.mod.kin hk (thn (ha pos pins s σ H _ I h) fun us s1 ⟨vs,H1,I1,r,q⟩=>⟨I1.kIn,?_⟩) he hpl
 exact run_fn F hr hb hd hx I1 r q
structure Mk (K:PySem.W.Frag) (C f:Addr):Prop where
 makes:PySem.W.makesIn K C=true
 init:PySem.W.findIn K (.ref C) "__init__" = some (some (.ref f))
 fn:PySem.W.isFn K (.ref f)=true
 kp:PySem.W.keepIn K (.ref C)=true
theorem run_make {pins:List (Addr×Obj)} {σ:St} {H:Hp} {s:Shared} {Q:VK} {us:List Value} {vs:List V} (M:Mk X.K C f) (F:FnOk X.prog X.w X.K X.mg X.base CX k f fd ps sp) (hr:Room (k + 1) X.A) (hb:Binds X.K fd ps ds) (hd:Vals dvs ds)
  (hx:Passes CX X E) (I:Inv X pins σ H s) (r:Vals vs us)
  (h:∀ x dx,H x=none→H dx=none→dx≠x→sp (.ref x :: (vs++dvs)) (upd (upd H dx (.own x)) x (.ins C dx [])) (fun v H2=>v=.non∧Q (.ref x) H2) E) :
  wpAny (model X.prog X.w) X.A (call (.ref C) us) (EP X pins σ Q) X.xe s:=by
 have hq:=h (s.heap.objs.size + 1) s.heap.objs.size (I.hok.fresh (Nat.le_succ _)) (I.hok.fresh (Nat.le_refl _)) (Nat.ne_of_lt (Nat.lt_succ_self _))
 have I2:=Inv.made (C:=C) I
 have r2:Vals (V.ref (s.heap.objs.size + 1) :: (vs++dvs)) (Value.ref (s.heap.objs.size + 1) :: (us++ds)):=.cons rfl (r.append hd)
 have hl:(Value.ref (s.heap.objs.size + 1) :: us++ds).length=ps.length:=by
  have e:=r2.length
  rw [F.len _ _ _ _ hq] at e
  exact e.symm
 refine wpAny_call (make_map (f:=f) I.kIn M.makes M.init (beq_iff_eq.mp M.fn) (codeAny_mono (F.run _ X.stack _ _ ⟨Value.ref (s.heap.objs.size + 1) :: us,[]⟩ (Value.ref (s.heap.objs.size + 1) :: (us++ds)) _ _ E (hr.make C us [])
  (I2.env0.make C us []) (hb _ (Value.ref (s.heap.objs.size + 1) :: us) I2.kIn hl) r2 hq) fun r s' hq'=>?_))
 cases r with
 | error e=>exact hx pins σ _ _ e s' I2 hq'
 | ok fl =>
  cases fl with
  | ret u =>
   obtain ⟨v,H',I3,rv,ev,q3⟩:=I2.after hq'
   subst ev
   exact ⟨rv,⟨V.ref (s.heap.objs.size + 1),H',I3,rfl,q3⟩⟩
  | next=>exact False.elim hq'
  | brk=>exact False.elim hq'
  | cont=>exact False.elim hq'
end
section
variable {X:Cx} {CX:CXT} {k:Nat} {f C:Addr} {fd:FuncData} {ps ks:List Str} {sp:Sp} {E:XK} {x m:Str} {p pos apos kpos:Pos} {e o:Expr} {es:List Expr} {kws:List Keyword} {te ta:TE} {t tk:TA} {nm:Option Str}
variable {g:List Value→List Value→List Value} {gV:List V→List V→List V}
end
structure FnScope (N P:List Str) (sc:Scope):Prop where
 kind:sc.kind=.function
 co:sc.isCoroutine=false
 gen:sc.isGenerator=false
 nd:N.Nodup
 pre:N.take P.length=P
 par:∀ x∈P,sc.names.lookup x=some .local∨sc.names.lookup x=some .cell
 nofree:∀ y∈sc.names,y.2≠.free
theorem bindL_out {kindOf:Str→Option NameKind} {x:Str}:∀ {binds:List (Str×Value)} {m:Str→Option Value},(∀ v,(x,v) ∉ binds)→bindL kindOf binds m x=m x
 | [],_,_=>rfl
 | (n,v) :: r,m,h=>by
  unfold bindL
  rw [bindL_out fun w hw=>h w (List.mem_cons_of_mem _ hw)]
  split
  ·have:x≠n:=by rintro rfl; exact h v List.mem_cons_self
   simp [this]
  ·rfl
theorem bindC_out {kindOf:Str→Option NameKind} {x:Str}:∀ {binds:List (Str×Value)} {m:Str→Option Value},(∀ v,(x,v) ∉ binds)→bindC kindOf binds m x=m x
 | [],_,_=>rfl
 | (n,v) :: r,m,h=>by
  unfold bindC
  rw [bindC_out fun w hw=>h w (List.mem_cons_of_mem _ hw)]
  split
  ·rfl
  ·have:x≠n:=by rintro rfl; exact h v List.mem_cons_self
   simp [this]
theorem bindL_get {kindOf:Str→Option NameKind} {x:Str} {v:Value}:∀ {P:List Str} {vs:List Value} {i:Nat} {m:Str→Option Value},P.Nodup→P[i]?=some x→vs[i]?=some v→kindOf x=some .local →
  bindL kindOf (P.zip vs) m x=some v
 | [],_,_,_,_,h,_,_=>by simp at h
 | _ :: _,[],_,_,_,_,h,_=>by simp at h
 | p :: P,w :: vs,0,m,nd,h1,h2,hk=>by
  simp at h1 h2; subst h1; subst h2
  show bindL kindOf ((p,w) :: P.zip vs) m p=_
  unfold bindL
  rw [bindL_out fun v hv=>(List.nodup_cons.mp nd).1 (List.of_mem_zip hv).1,if_pos hk]
  simp
 | p :: P,w :: vs,i + 1,m,nd,h1,h2,hk=>by
  show bindL kindOf ((p,w) :: P.zip vs) m x=_
  unfold bindL
  exact bindL_get (i:=i) (List.nodup_cons.mp nd).2 (by simpa using h1) (by simpa using h2) hk
theorem bindC_get {kindOf:Str→Option NameKind} {x:Str} {v:Value}:∀ {P:List Str} {vs:List Value} {i:Nat} {m:Str→Option Value},P.Nodup→P[i]?=some x→vs[i]?=some v→kindOf x≠some .local →
  bindC kindOf (P.zip vs) m x=some v
 | [],_,_,_,_,h,_,_=>by simp at h
 | _ :: _,[],_,_,_,_,h,_=>by simp at h
 | p :: P,w :: vs,0,m,nd,h1,h2,hk=>by
  simp at h1 h2; subst h1; subst h2
  show bindC kindOf ((p,w) :: P.zip vs) m p=_
  unfold bindC
  rw [bindC_out fun v hv=>(List.nodup_cons.mp nd).1 (List.of_mem_zip hv).1,if_neg hk]
  simp
 | p :: P,w :: vs,i + 1,m,nd,h1,h2,hk=>by
  show bindC kindOf ((p,w) :: P.zip vs) m x=_
  unfold bindC
  exact bindC_get (i:=i) (List.nodup_cons.mp nd).2 (by simpa using h1) (by simpa using h2) hk
noncomputable def start (N:List Str) (vs:List V):St:=vs.map some++List.replicate (N.length - vs.length) none
noncomputable def cxOf (CX:CXT) (P:Program) (w:World) (K:PySem.W.Frag) (mg:Str→Option Value) (base:Heap) (N:List Str) (qual:Str) (scope:Scope) (f:Addr) (cd:Value) (A:Around) (outer:List Env) (s:Shared) (H:Hp) (E:XK):Cx where
 prog:=P
 w:=w
 K:=K
 mg:=mg
 base:=base
 A:=A.deeper (envOfC qual scope s.heap.objs.size f cd)
 N:=N
 s₀:=s
 H₀:=H
 env:=envOfC qual scope s.heap.objs.size f cd
 outer:=outer
 stack:=envOfC qual scope s.heap.objs.size f cd :: outer
 ex:=[]
 calm:=true
 fn:=fun _=>true
 pn:=[]
 xe:=fun e s'=>wpAny (model P w) (A.deeper (envOfC qual scope s.heap.objs.size f cd)) (leaving (envOfC qual scope s.heap.objs.size f cd) e) (fun _ s''=>CX outer H s E e s'') (fun e' s''=>CX outer H s E e' s'') s'
theorem cell_has {sc:Scope} {n:Nat} {x:Str} (h:sc.names.lookup x=some .cell):∃ c,(cellsFrom n sc.names []).lookup x=some c:=by
 have q:=PySem.W.cellsFrom_some sc.names n [] (.inl h)
 exact Option.isSome_iff_exists.mp q
theorem inv_start {CX:CXT} {P:Program} {w:World} {K:PySem.W.Frag} {mg:Str→Option Value} {base:Heap} {N ps:List Str} {qual:Str} {scope:Scope} {f:Addr} {cd:Value} {A:Around} {outer:List Env} {s s1:Shared} {H:Hp} {E:XK} {us:List Value} {vs:List V}
  (S:FnScope N ps scope) (hd:A.handled=none) (e0:Env0 P w K mg base A outer s H) (hl:vs.length=ps.length) (r:Vals vs us)
  (x:InCallC s s.heap.objs.size (bindL (envOfC qual scope s.heap.objs.size f cd).kindOf (ps.zip us) fun _=>none) (cellsFrom (s.heap.objs.size + 1) scope.names []) (bindC (envOfC qual scope s.heap.objs.size f cd).kindOf (ps.zip us) fun _=>none) s1) :
  Inv (cxOf CX P w K mg base N qual scope f cd A outer s H E) [] (start N vs) H s1:=by
 have hpl:ps.length≤N.length:=by have:=congrArg List.length S.pre; rw [List.length_take] at this; omega
 obtain ⟨h1,tk,rfl,hk⟩:=x.done
 have noA:∀ b:Addr,b ∉ (cxOf CX P w K mg base N qual scope f cd A outer s H E).ex:=fun b z=>absurd (show b∈([]:List Addr) from z) (by simp)
 refine ⟨⟨e0.mod,S.kind,rfl,rfl,Nat.le_refl _,fun y z c h1 h2=>?_,fun y hy=>?_,fun y c _ h=>?_,fun _=>hd,Around.frames_deeper e0.frames,.inr ⟨rfl,rfl⟩,fun b z=>absurd z (noA b),e0.bs,e0.bsz,fun b _ _=>noA b,fun b z=>absurd z (noA b),e0.funs,e0.frf⟩,
  rfl,e0.bare,Un.kept hk,⟨_,x.toInCall.ns,fun i y v h1 h2 h3=>?_⟩,fun y c h=>⟨_,x.cell y c h⟩,e0.hok.fresh (Nat.le_refl _),fun y c h=>?_,fun p hp=>absurd (show p∈([]:List (Addr×Obj)) from hp) (by simp),e0.hok.kept hk,?_⟩
 ·exact name_of_addr x.apart (PySem.mem_of_lookup h1) (PySem.mem_of_lookup h2)
 ·have hy:scope.names.lookup y=some .cell∨scope.names.lookup y=some .free:=hy
  rcases hy with hy | hy
  ·exact cell_has hy
  ·exact absurd rfl (S.nofree _ (PySem.mem_of_lookup hy))
 ·exact Nat.le_of_lt (x.above y c (PySem.mem_of_lookup h))
 ·have hi:i < vs.length:=by
   unfold start at h2
   by_cases hi:i < vs.length
   ·exact hi
   ·rw [List.getElem?_append_right (by simpa using hi)] at h2
    rw [List.getElem?_replicate] at h2
    split at h2 <;> cases h2
  have ha:vs[i]?=some v:=by
   unfold start at h2
   rw [List.getElem?_append_left (by simpa using hi),List.getElem?_map] at h2
   cases e:vs[i]? with
   | none=>rw [e] at h2; cases h2
   | some a=>rw [e] at h2; cases h2; rfl
  obtain ⟨u,hu,rv⟩:=r.get ha
  have hp:ps[i]?=some y:=by
   rw [← S.pre,List.getElem?_take_of_lt (by omega)]; exact h1
  have ndP:ps.Nodup:=by rw [← S.pre]; exact S.nd.sublist (List.take_sublist _ _)
  refine ⟨u,rv,?_⟩
  rcases S.par y (List.mem_of_getElem? hp) with k | k
  ·exact .inl ⟨k,bindL_get ndP hp hu k⟩
  ·obtain ⟨c,e⟩:=cell_has (n:=s.heap.objs.size + 1) k
   refine .inr ⟨.inl k,c,e,?_⟩
   have q:=x.cell y c e
   rw [bindC_get ndP hp hu (by show scope.names.lookup y≠_; rw [k]; decide)] at q
   exact q
 ·exact e0.hok.fresh (Nat.le_of_lt (x.above y c (PySem.mem_of_lookup h)))
 ·unfold start
  show _=N.length
  rw [List.length_append,List.length_map,List.length_replicate]
  omega
theorem fn_of {CX:CXT} {P:Program} {w:World} {K:PySem.W.Frag} {mg:Str→Option Value} {base:Heap} {k:Nat} {f:Addr} {name qual:Str} {params:Arguments} {body:List Stmt} {scope:Scope} {dV kV doc pm cdv ct oc:Value} {an od:Option Addr}
  {osl:Array (Option Value)} {N ps:List Str} {sp:Sp} (lk:K.lookup f=some ⟨oc,od,.func (PySem.W.fnOf name qual params body scope dV kV doc pm an cdv ct),osl⟩) (hcd:PySem.W.codeIn K cdv qual=true) (S:FnScope N ps scope)
  (len:∀ vs H Q E,sp vs H Q E→vs.length=ps.length)
  (hbody:∀ (A:Around) (outer:List Env) (s:Shared) (H:Hp) (vs:List V) (Q:VK) (E:XK),Room k (A.deeper (envOfC qual scope s.heap.objs.size f cdv))→sp vs H Q E →
   ∃ t,PSs (cxOf CX P w K mg base N qual scope f cdv A outer s H E) body t∧t { nx:=fun _ H'=>Q .non H',rt:=Q } (start N vs) H) :
  FnOk P w K mg base CX (k + 1) f (PySem.W.fnOf name qual params body scope dV kV doc pm an cdv ct) ps sp:=by
 refine ⟨len,fun A outer s H args us vs Q E hr e0 hb r hsp=>?_⟩
 have hl:=len _ _ _ _ hsp
 have KX:K.In s.heap:=e0.mod.kin.keeps fun b o e=>(e0.bs b o e).1
 have lim:s.heap.NoLimit:=e0.mod.nolimit.keeps fun b o e=>(e0.bs b o e).1
 have hkind:∀ y∈ps.zip us,scope.names.lookup y.1=some .local∨(scope.names.lookup y.1=some .cell∧((cellsFrom (s.heap.objs.size + 1) scope.names []).lookup y.1).isSome=true):=fun ⟨n,v⟩ hy=>by
  rcases S.par n (List.of_mem_zip hy).1 with q | q
  ·exact .inl q
  ·exact .inr ⟨q,PySem.W.cellsFrom_some _ _ _ (.inl q)⟩
 refine codeAny_call_function hr.depth (KX _ _ lk) rfl S.co S.gen rfl (PySem.W.codeRec_of KX hcd) (hb _ _ _ _ ?_)
 refine wpAny_newFunctionEnv_cells S.kind hkind fun env he s1 x=>?_
 subst he
 refine ⟨lim.keeps x.toInCall.keep,codeAny_func ?_⟩
 obtain ⟨t,ht,hq⟩:=hbody A outer s H vs Q E (hr.deeper _) hsp
 have I:Inv (cxOf CX P w K mg base N qual scope f cdv A outer s H E) [] (start N vs) H s1:=inv_start S hr.hd e0 hl r x
 refine wpAny_mono (ht [] s1 (start N vs) H _ I hq) (fun fl s' hs=>?_) fun e s' hs=>hs
 have fin:∀ {σ':St} {H':Hp} {v:V} {u:Value},Inv (cxOf CX P w K mg base N qual scope f cdv A outer s H E) [] σ' H' s'→RelV v u→Q v H'→CE outer P w H s Q u s' :=
  fun {σ' H' v u} J rv q=>⟨v,H',J.os,J.bare,J.base,J.hok,rv,q⟩
 cases fl with
 | ret u =>
  obtain ⟨v,σ',H',J,rv,q⟩:=hs
  exact fin J rv q
 | next =>
  obtain ⟨σ',H',J,q⟩:=hs
  exact fin (v:=V.non) (u:=Value.none) J rfl q
 | brk =>
  obtain ⟨_,_,_,q⟩:=hs
  exact False.elim q
 | cont =>
  obtain ⟨_,_,_,q⟩:=hs
  exact False.elim q
end L2
namespace L2
open PySem PySem.Spec PyProof.Rows
section
variable {X:Cx} {x:Str} {p pos:Pos} {e:Expr} {es:List Expr} {t:TA} {id T:String} {r:List V→Hp→VK→Prop}
noncomputable def tCB (r:List V→Hp→VK→Prop) (t:TA):TE:=fun σ H Q=>t σ H fun vs H1=>r vs H1 Q
theorem pe_callB (hc:CallR X (.builtin id) r) (hg:Gl X x) (hm:X.mg x=none) (hv:bootBuiltins x=some (.builtin id)) (ha:PA X (e :: es) t) (hn:x ≠ "__name__" := by decide) (hdb:(x == ("__debug__" : Str))=false:=by decide)
  (he:starEach (e :: es) X.env=(false,eval e X.env) :: starEach es X.env:=by rfl) (hpl:(backTo pos (starEach es X.env)).any (·.1)=false:=by rfl):PE X (.Call (.Name x p) (e :: es) [] pos) (tCB r t):=by
 intro pins s σ H Q I h
 refine wpAny_Call_Name_kw (ld_blt I hg hm hv ?_ hn hdb)
 exact PyProof.Rows.callWith_builtin1 (thn (ha pos pins s σ H _ I h) fun us s1 ⟨vs,H1,I1,r1,q1⟩=>hc pins s1 σ H1 vs us Q I1 r1 q1) he hpl
theorem pe_callTy (hc:CallR X (.type T) r) (hg:Gl X x) (hm:X.mg x=none) (hv:bootBuiltins x=some (.type T)) (ha:PA X (e :: es) t) (hn:x ≠ "__name__" := by decide) (hdb:(x == ("__debug__" : Str))=false:=by decide)
  (he:starEach (e :: es) X.env=(false,eval e X.env) :: starEach es X.env:=by rfl) (hpl:(backTo pos (starEach es X.env)).any (·.1)=false:=by rfl):PE X (.Call (.Name x p) (e :: es) [] pos) (tCB r t):=by
 intro pins s σ H Q I h
 refine wpAny_Call_Name_kw (ld_blt I hg hm hv ?_ hn hdb)
 exact PyProof.Rows.callWith_type1 (thn (ha pos pins s σ H _ I h) fun us s1 ⟨vs,H1,I1,r1,q1⟩=>hc pins s1 σ H1 vs us Q I1 r1 q1) he hpl
end
end L2
namespace HT
open PySem PyProof.Rows
section
open PySem.SeqAt
open PySem.AutoSeq1 (wpAny_loadPart')
open PySem.MeetsSeq PySem.MeetsSeq2 PySem.MeetsSeq3
end
section
variable {prog:Program} {w:World} {A:Around} {E:Value→Shared→Prop} {s:Shared}
theorem cat_tup {t b:Addr} {vs ws:List Value} {Q:Value→Shared→Prop} (ht:IsTup s.heap t vs.toArray) (hb:IsTup s.heap b ws.toArray) (hv:vs≠[])
  (h1:ws=[]→Q (.ref t) s) (h2:ws≠[]→Q (.ref s.heap.objs.size) { s with heap:=s.heap.push { cls:=.type "tuple",data:=.seq (vs++ws).toArray } })
  (hsz:vs.length + ws.length≤sizeLine):wpAny (model prog w) A (binaryOp .Add (.ref t) (.ref b)) Q E s:=by
 obtain ⟨⟨cls,dd,data,sl⟩,ho,hc,n,hd⟩:=id ht
 obtain ⟨⟨cls2,dd2,data2,sl2⟩,ho2,hc2,n2,hd2⟩:=id hb
 simp only at hc hd hc2 hd2
 subst hc hd hc2 hd2
 have e:vs.toArray++ws.toArray=(vs++ws).toArray:=by simp
 by_cases hw:ws=[]
 ·exact concat_meets ⟨_,ho,rfl⟩ ⟨_,ho2,rfl⟩ noFill_tuple_add seq_tuple_add PySem.F.slot_tuple_add PySem.F.entry_tuple_add (PySem.F.args_tuple_add_2 _ _)
   (tuple_addW1 t b vs.toArray ws.toArray n n2 dd dd2 sl sl2 (by simpa using hv) (by simp [hw])) ⟨ho,ho2,h1 hw⟩
 ·refine concat_meets ⟨_,ho,rfl⟩ ⟨_,ho2,rfl⟩ noFill_tuple_add seq_tuple_add PySem.F.slot_tuple_add PySem.F.entry_tuple_add (PySem.F.args_tuple_add_2 _ _)
   (tuple_addW2 t b vs.toArray ws.toArray n n2 dd dd2 sl sl2 (by simpa using hv) (by simpa using hw) (by rw [List.size_toArray,List.size_toArray]; exact hsz)) ⟨ho,ho2,?_⟩
  rw [e]
  exact h2 hw
noncomputable def sIx (n d:Nat):Option Int→Nat
 | none=>d
 | some v=>if v < 0 then (v + (n:Int)).toNat else min v.toNat n
theorem sIx_none (n d:Nat):sIx n d none=d:=rfl
theorem sIx_nat (n d k:Nat):sIx n d (some (k:Int))=min k n:=by
 show (if (k:Int) < 0 then ((k:Int) + (n:Int)).toNat else min (k:Int).toNat n)=min k n
 rw [if_neg (by omega),Int.toNat_natCast]
theorem sIx_le (n d:Nat) (hd:d≤n) (o:Option Int):sIx n d o≤n:=by
 cases o with
 | none=>exact hd
 | some v =>
  show (if v < 0 then (v + (n:Int)).toNat else min v.toNat n)≤n
  by_cases hv:v < 0
  ·rw [if_pos hv]; omega
  ·rw [if_neg hv]; exact Nat.min_le_right _ _
theorem clip_eq (v:Int) (n d:Nat):(if v < 0 then max (v + (n:Int)) 0 else min v (n:Int))=((sIx n d (some v):Nat):Int):=by
 show (if v < 0 then max (v + (n:Int)) 0 else min v (n:Int))=(((if v < 0 then (v + (n:Int)).toNat else min v.toNat n):Nat):Int)
 by_cases hv:v < 0
 ·simp only [if_pos hv]; omega
 ·simp only [if_neg hv]; omega
theorem adjust_gen (lo hi:Option Int) (n:Nat):Builtin.Slice.sliceAdjust lo hi 1 (n:Int)=(((sIx n 0 lo:Nat):Int),((sIx n n hi:Nat):Int)):=by
 have h1:¬ ((1:Int) < 0):=by omega
 unfold Builtin.Slice.sliceAdjust
 simp only [h1,if_false]
 refine Prod.ext ?_ ?_
 ·cases lo with
  | none=>rfl
  | some v=>exact clip_eq v n 0
 ·cases hi with
  | none=>rfl
  | some v=>exact clip_eq v n n
theorem places_gen (i j:Nat):Builtin.Slice.slicePlaces (i:Int) (j:Int) 1=j - i:=by
 unfold Builtin.Slice.slicePlaces
 have h1:(1:Int) > 0:=by omega
 simp only [h1,if_true,Int.ediv_one]
 split <;> omega
theorem slicePart_ {v:Value} {o:Option Int} {Q:Option Int→Shared→Prop} (p:IsPart v o) (h:Q o s):wpAny (model prog w) A (Builtin.Slice.slicePartIndex v) Q E s:=by
 cases p with
 | none=>exact slicePart_none h
 | int i t=>exact slicePart_int h
theorem sliceApplied_gen {sl:Addr} {vl vu:Value} {lo hi:Option Int} {n:Nat} {Q:Int×Int×Nat→Shared→Prop} (hs:s.heap.IsSliceOf sl vl vu .none) (pl:IsPart vl lo) (pu:IsPart vu hi)
  (h:Q (((sIx n 0 lo:Nat):Int),1,sIx n n hi - sIx n 0 lo) s):wpAny (model prog w) A (Builtin.Slice.sliceApplied (.ref sl) (pure (n:Int))) Q E s:=by
 obtain ⟨os,hos,hcs,hds⟩:=id hs
 unfold Builtin.Slice.sliceApplied Builtin.Slice.sliceFields
 refine wpAny_bind (wpAny_bind (wpAny_field hos hds (x:=vl) rfl (wpAny_bind (wpAny_field hos hds (x:=vu) rfl (wpAny_bind (wpAny_field hos hds (x:=.none) rfl (wpAny_pure ?_)))))))
 refine wpAny_bind (slicePart_none ?_)
 show wpAny _ _ (if ((1:Int) == 0)=true then _ else _) _ _ s
 rw [if_neg (by decide)]
 refine wpAny_bind (slicePart_ pl (wpAny_bind (slicePart_ pu (wpAny_bind (wpAny_pure ?_)))))
 show wpAny _ _ (match Builtin.Slice.sliceAdjust lo hi 1 (n:Int) with | (lo,hi)=>pure (lo,(1:Int),Builtin.Slice.slicePlaces lo hi 1)) _ _ s
 rw [adjust_gen lo hi n]
 show wpAny _ _ (pure (((sIx n 0 lo:Nat):Int),(1:Int),Builtin.Slice.slicePlaces ((sIx n 0 lo:Nat):Int) ((sIx n n hi:Nat):Int) 1)) _ _ s
 rw [places_gen]
 exact wpAny_pure h
theorem pick_gen (xs:Array Value) (i k:Nat):((List.range k).filterMap fun (m:Nat)=>xs[((i:Int) + (m:Int) * 1).toNat]?).toArray=((xs.toList.drop i).take k).toArray:=by
 have e:(fun (m:Nat)=>xs[((i:Int) + (m:Int) * 1).toNat]?)=fun m=>xs[i + m]?:=by
  funext m
  have:((i:Int) + (m:Int) * 1).toNat=i + m:=by omega
  rw [this]
 rw [e]
 have:=pick_run xs i k
 rw [List.filterMap_map] at this
 have e2:((fun x=>xs[x]?) ∘ fun x=>i + x)=fun m=>xs[i + m]?:=rfl
 rw [e2] at this
 rw [this]
theorem getItem_tuple_cut {t sl:Addr} {items:Array Value} {vl vu:Value} {lo hi:Option Int} {Q:Value→Shared→Prop} (ht:IsTup s.heap t items) (hs:s.heap.IsSliceOf sl vl vu .none) (pl:IsPart vl lo) (pu:IsPart vu hi)
  (hw:¬ (sIx items.size 0 lo=0∧sIx items.size items.size hi=items.size))
  (h:Q (.ref s.heap.objs.size) { s with heap:=s.heap.push { cls:=.type "tuple",data:=.seq ((items.toList.drop (sIx items.size 0 lo)).take (sIx items.size items.size hi - sIx items.size 0 lo)).toArray } })
  (hsz:items.size≤sizeLine):wpAny (model prog w) A (getItem (.ref t) (.ref sl)) Q E s:=by
 have htake:sizeOk (.seq ((items.toList.drop (sIx items.size 0 lo)).take (sIx items.size items.size hi - sIx items.size 0 lo)).toArray):=by
  show ((items.toList.drop (sIx items.size 0 lo)).take (sIx items.size items.size hi - sIx items.size 0 lo)).toArray.size≤sizeLine
  rw [List.size_toArray,List.length_take,List.length_drop,Array.length_toList]
  omega
 have hj:sIx items.size items.size hi≤items.size:=sIx_le _ _ (Nat.le_refl _) hi
 obtain ⟨os,hos,hcs,hds⟩:=id hs
 have hTs:s.TypeIs (.ref sl) "slice" := ⟨os,hos,hcs⟩
 unfold getItem
 try with_reducible refine wpAny_holding ?_
 first | refine wpAny_bind (wpAny_pure ?_) | skip
 refine wpAny_bind (wpAny_sequenceKey ht.typeIs (by decide) ?_)
 refine wpAny_bind (wpAny_callSpecial?_slot (name:=Str.ofString "__getitem__") ht.typeIs PyProof.Rows.slot_tuple_getitem
  (wpAny_call_entry PyProof.Rows.slot_tuple_getitem ht.typeIs entry_tuple_getitem ?_ (args_tuple_getitem _ _)))
 show wpAny _ _ (Builtin.Tuple.tupleItemsOf (.ref t) >>= _) _ _ s
 refine wpAny_bind (tupleItemsOf_ ht ?_)
 refine wpAny_bind (wpAny_typeOf hTs ?_)
 rw [if_pos (by decide)]
 refine wpAny_bind (sliceApplied_gen hs pl pu ?_)
 have hno:¬ ((((sIx items.size 0 lo:Nat):Int) == 0 && (1:Int) == 1 && (sIx items.size items.size hi - sIx items.size 0 lo) == items.size)=true):=by
  intro q
  rw [Bool.and_eq_true,Bool.and_eq_true] at q
  have q1:((sIx items.size 0 lo:Nat):Int)=0:=eq_of_beq q.1.1
  have q2:sIx items.size items.size hi - sIx items.size 0 lo=items.size:=eq_of_beq q.2
  exact hw ⟨by omega,by omega⟩
 show wpAny _ _ (if (((sIx items.size 0 lo:Nat):Int) == 0 && (1:Int) == 1 && (sIx items.size items.size hi - sIx items.size 0 lo) == items.size)=true then _ else _) _ _ s
 rw [if_neg hno,pick_gen]
 first
  | exact wpAny_bind (m:=Builtin.Tuple.tupleExact _) (wpAny_newObj_type (wpAny_pure ⟨_,rfl,wpAny_pure h⟩) htake)
  | exact wpAny_bind (m:=Builtin.Tuple.tupleExact _) (wpAny_newObj_type (wpAny_bind (wpAny_pure (wpAny_pure ⟨_,rfl,wpAny_pure h⟩))) htake)
  | exact wpAny_bind (wpAny_bind (m:=Builtin.Tuple.tupleExact _) (wpAny_newObj_type (wpAny_pure (wpAny_pure ⟨_,rfl,wpAny_pure h⟩)) htake))
  | exact wpAny_bind (wpAny_bind (m:=Builtin.Tuple.tupleExact _) (wpAny_newObj_type (wpAny_pure ⟨_,rfl,wpAny_pure h⟩) htake))
end
end HT
namespace L2
open PySem PySem.Spec PyProof.Rows
noncomputable abbrev TO:=St→Hp→(Option Int→Hp→Prop)→Prop
noncomputable def PO (X:Cx) (e:Option Expr) (t:TO):Prop :=
 ∀ (pins:List (Addr×Obj)) (s:Shared) (σ:St) (H:Hp) (Q:Option Int→Hp→Prop),Inv X pins σ H s→t σ H Q →
  wpAny (model X.prog X.w) X.A (evalPart e X.env) (fun u s'=>∃ o H',Inv X pins σ H' s'∧IsPart u o∧Q o H') X.xe s
noncomputable def tNoPart:TO:=fun _ H Q=>Q none H
noncomputable def tPart (t:TE):TO:=fun σ H Q=>t σ H fun x H1=>∃ i,x=.int i∧Q (some i) H1
section
variable {X:Cx} {e:Expr} {te:TE} {lo hi:Option Expr} {tl th:TO} {pos p2:Pos}
theorem po_none:PO X none tNoPart:=by
 intro pins s σ H Q I h
 rw [evalPart_none]
 exact wpAny_pure ⟨none,H,I,.none,h⟩
theorem po_some (h:PE X e te):PO X (some e) (tPart te):=by
 intro pins s σ H Q I hw
 rw [evalPart_some]
 refine thn (h pins s σ H _ I hw) fun u s1 ⟨x,H1,I1,r1,q1⟩=>?_
 obtain ⟨i,rfl,q⟩:=q1
 obtain ⟨t,rfl⟩:=r1
 exact ⟨some i,H1,I1,.int i t,q⟩
noncomputable def SlR (X:Cx) (r:V→Option Int→Option Int→Hp→VK→Prop):Prop :=
 ∀ (pins:List (Addr×Obj)) (s:Shared) (σ:St) (H:Hp) (x:V) (v vl vu:Value) (lo hi:Option Int) (sl:Addr) (Q:VK),Inv X pins σ H s→RelV x v→s.heap.IsSliceOf sl vl vu .none→IsPart vl lo→IsPart vu hi→r x lo hi H Q →
  ∃ T id,typeLookup (.type T) "__getitem__" = pure (some (.builtin id))∧s.TypeIs v T∧wpAny (model X.prog X.w) X.A (getItem v (.ref sl)) (EP X pins σ Q) X.xe s
theorem SlR.or {r r':V→Option Int→Option Int→Hp→VK→Prop} (h:SlR X r) (h':SlR X r'):SlR X (fun x lo hi H Q=>r x lo hi H Q∨r' x lo hi H Q):=by
 intro pins s σ H x v vl vu lo hi sl Q I rx hs pl pu q
 rcases q with q | q
 ·exact h pins s σ H x v vl vu lo hi sl Q I rx hs pl pu q
 ·exact h' pins s σ H x v vl vu lo hi sl Q I rx hs pl pu q
noncomputable def tSl (r:V→Option Int→Option Int→Hp→VK→Prop) (te:TE) (tl th:TO):TE:=fun σ H Q=>te σ H fun x H1=>tl σ H1 fun l H2=>th σ H2 fun u H3=>r x l u H3 Q
theorem pe_slice {r:V→Option Int→Option Int→Hp→VK→Prop} (hr:SlR X r) (he:PE X e te) (hl:PO X lo tl) (hu:PO X hi th):PE X (.Subscript e (.Slice lo hi none p2) pos) (tSl r te tl th):=by
 intro pins s σ H Q I h
 refine Subscript_ (thn (he pins s σ H _ I h) fun v s1 ⟨x,H1,I1,r1,q1⟩=>?_)
 refine wpAny_Slice (thn (hl pins s1 σ H1 _ I1 q1) fun vl s2 ⟨l,H2,I2,pl,q2⟩=>thn (hu pins s2 σ H2 _ I2 q2) fun vu s3 ⟨u,H3,I3,pu,q3⟩=>?_)
 rw [evalPart_none]
 refine wpAny_pure ?_
 have I4:Inv X pins σ H3 { s3 with heap:=s3.heap.push { cls:=.type "slice",data:=.fields #[vl,vu,.none] } }:=I3.kept (t':=s3.toks) fun b ob q=>Heap.get?_push_of_some _ q
 obtain ⟨T,id,hT,ht,hg⟩:=hr pins { s3 with heap:=s3.heap.push { cls:=.type "slice",data:=.fields #[vl,vu,.none] } } σ H3 x v vl vu l u s3.heap.objs.size Q I4 r1 (Heap.IsSliceOf.new ..) pl pu q3
 show wpAny (model X.prog X.w) X.A (subscriptTail e (.Slice lo hi none p2) v (.ref s3.heap.objs.size)) (EP X pins σ Q) X.xe { s3 with heap:=s3.heap.push { cls:=.type "slice",data:=.fields #[vl,vu,.none] } }
 exact tail_any (ops:=[.ref s3.heap.objs.size,v]) ht hT hg (by with_unfolding_all rfl)
noncomputable def cutV (xs:List V) (lo hi:Option Int):List V:=(xs.drop (HT.sIx xs.length 0 lo)).take (HT.sIx xs.length xs.length hi - HT.sIx xs.length 0 lo)
theorem cutV_length (xs:List V) (lo hi:Option Int):(cutV xs lo hi).length≤xs.length:=by
 unfold cutV
 rw [List.length_take,List.length_drop]
 omega
noncomputable def rSlT (K:PySem.W.Frag):V→Option Int→Option Int→Hp→VK→Prop:=fun x lo hi H Q=>∃ a xs,x=.ref a∧SqT K H a xs ∧
 ¬ (HT.sIx xs.length 0 lo=0∧HT.sIx xs.length xs.length hi=xs.length)∧∀ p,H p=none→Q (.ref p) (upd H p (.tup (cutV xs lo hi)))
theorem sl_tup:SlR X (rSlT X.K):=by
 intro pins s σ H x v vl vu lo hi sl Q I rx hs pl pu h
 obtain ⟨a,xs,rfl,hx,hw,q⟩:=h
 cases rx
 obtain ⟨its,r,ht,hz⟩:=I.tuple hx
 have hlen:its.toArray.size=xs.length:=by rw [List.size_toArray]; exact r.length.symm
 refine ⟨"tuple",_,PyProof.Rows.slot_tuple_getitem.lookup,ht.typeIs,?_⟩
 refine HT.getItem_tuple_cut ht hs pl pu (by rw [hlen]; exact hw) ?_ (by rw [hlen]; exact hz)
 rw [hlen]
 refine ⟨.ref s.heap.objs.size,_,I.laid (t':=s.toks) (o:=.tup (cutV xs lo hi)) (fun b ob q=>Heap.get?_push_of_some _ q) (Nat.le_refl _) ?_,rfl,q _ (I.hok.fresh (Nat.le_refl _))⟩
 exact ⟨Nat.le_trans (cutV_length xs lo hi) hz,_,(r.drop (HT.sIx xs.length 0 lo)).take (HT.sIx xs.length xs.length hi - HT.sIx xs.length 0 lo),IsTup.new _ _⟩
noncomputable def rCatT (K:PySem.W.Frag):R2:=fun x y H Q=>∃ a b xs ys,x=.ref a∧y=.ref b∧SqT K H a xs∧SqT K H b ys∧xs≠[]∧xs.length + ys.length≤sizeLine ∧
 (ys=[]→Q (.ref a) H)∧(ys≠[]→∀ p,H p=none→Q (.ref p) (upd H p (.tup (xs++ys))))
theorem Vals.nil_iff {xs:List V} {us:List Value} (r:Vals xs us):us=[]↔xs=[]:=by
 cases r with
 | nil=>simp
 | cons _ _=>simp
theorem op_catT:OpR X (binaryOp .Add) (rCatT X.K):=by
 intro pins s σ H x y v u Q I rx ry h
 obtain ⟨a,b,xs,ys,rfl,rfl,ha,hb,hx,hz,q1,q2⟩:=h
 cases rx
 cases ry
 obtain ⟨its,r1,p1,_⟩:=I.tuple ha
 obtain ⟨its2,r2,p2,_⟩:=I.tuple hb
 refine HT.cat_tup p1 p2 (fun z=>hx (r1.nil_iff.mp z)) (fun z=>⟨.ref a,H,I,rfl,q1 (r2.nil_iff.mp z)⟩) (fun z=>?_) (by rw [← r1.length,← r2.length]; exact hz)
 refine ⟨.ref s.heap.objs.size,_,I.laid (t':=s.toks) (o:=.tup (xs++ys)) (fun b ob q=>Heap.get?_push_of_some _ q) (Nat.le_refl _) ?_,rfl,q2 (fun w=>z (r2.nil_iff.mpr w)) _ (I.hok.fresh (Nat.le_refl _))⟩
 exact ⟨by rw [List.length_append]; exact hz,_,r1.append r2,IsTup.new _ _⟩
end
end L2
namespace L2
open PySem PySem.Spec PyProof.Rows
noncomputable def ixN (n:Nat) (i:Int):Option Nat:=if 0≤i then (if i < n then some i.toNat else none) else if -(n:Int)≤i then some (i + n).toNat else none
noncomputable def atI {α:Type} (xs:List α) (i:Int):Option α:=(ixN xs.length i).bind fun j=>xs[j]?
theorem ixN_seq {n:Nat} {i:Int} {j:Nat} (h:ixN n i=some j):seqIndex? i n=some j∧j < n∧-(n:Int)≤i∧i < n:=by
 unfold ixN at h
 by_cases h0:0≤i
 ·rw [if_pos h0] at h
  by_cases h1:i < n
  ·rw [if_pos h1] at h
   have e:i.toNat=j:=Option.some.inj h
   exact ⟨by rw [seqIndex_of h0 h1,e],by omega,by omega,h1⟩
  ·rw [if_neg h1] at h; cases h
 ·rw [if_neg h0] at h
  by_cases h1:-(n:Int)≤i
  ·rw [if_pos h1] at h
   have e:(i + n).toNat=j:=Option.some.inj h
   exact ⟨by rw [seqIndex_neg (by omega) h1,e],by omega,h1,by omega⟩
  ·rw [if_neg h1] at h; cases h
theorem atI_get {α:Type} {xs:List α} {i:Int} {v:α} (h:atI xs i=some v):∃ j,seqIndex? i xs.length=some j∧xs[j]?=some v∧j < xs.length∧-(xs.length:Int)≤i∧i < xs.length:=by
 unfold atI at h
 cases e:ixN xs.length i with
 | none=>rw [e] at h; cases h
 | some j =>
  rw [e] at h
  obtain ⟨h1,h2,h3,h4⟩:=ixN_seq e
  exact ⟨j,h1,h,h2,h3,h4⟩
theorem atI_nat {α:Type} {xs:List α} {j:Nat} {v:α} (h:xs[j]?=some v):atI xs (j:Int)=some v:=by
 have hj:j < xs.length:=(List.getElem?_eq_some_iff.mp h).1
 have e:ixN xs.length (j:Int)=some j:=by
  unfold ixN
  rw [if_pos (by omega),if_pos (by omega)]; simp
 unfold atI; rw [e]; exact h
noncomputable def PlainIx (b:Expr):Prop:=∀ o i,subscripted b false o i=operate [o,i] (getItem o i)
noncomputable def IxR (X:Cx) (r:R2):Prop :=
 ∀ (value slice:Expr) (pins:List (Addr×Obj)) (s:Shared) (σ:St) (H:Hp) (x y:V) (v u:Value) (Q:VK),Inv X pins σ H s→RelV x v→RelV y u→r x y H Q →
  subscripted slice false v u=operate [v,u] (getItem v u)→wpAny (model X.prog X.w) X.A (subscriptTail value slice v u) (EP X pins σ Q) X.xe s
noncomputable def MtR (X:Cx) (id:String) (r:V→List V→Hp→VK→Prop):Prop :=
 ∀ (pins:List (Addr×Obj)) (s:Shared) (σ:St) (H:Hp) (x:V) (xs:List V) (v:Value) (us:List Value) (Q:VK),Inv X pins σ H s→RelV x v→Vals xs us→r x xs H Q →
  wpAny (model X.prog X.w) X.A (call (.builtin id) (v :: us)) (EP X pins σ Q) X.xe s
section
variable {X:Cx} {a b:Expr} {ta tb:TE} {pos:Pos}
theorem IxR.or {r r':R2} (h:IxR X r) (h':IxR X r'):IxR X (fun x y H Q=>r x y H Q∨r' x y H Q):=by
 intro value slice pins s σ H x y v u Q I rx ry q hs
 rcases q with q | q
 ·exact h value slice pins s σ H x y v u Q I rx ry q hs
 ·exact h' value slice pins s σ H x y v u Q I rx ry q hs
theorem pe_ix {r:R2} (hr:IxR X r) (ha:PE X a ta) (hb:PE X b tb) (hs:PlainIx b):PE X (.Subscript a b pos) (tOp r ta tb):=by
 intro pins s σ H Q I h
 exact Subscript_ (binT ha hb I h fun v u s2 x y H2 I2 rx ry q=>hr a b pins s2 σ H2 x y v u Q I2 rx ry q (hs _ _))
noncomputable def rIxL (K:PySem.W.Frag):R2:=fun x y H Q=>∃ p xs i v,x=.ref p∧y=.int i∧SqL K H p xs∧atI xs i=some v∧Q v H
noncomputable def rIxT (K:PySem.W.Frag):R2:=fun x y H Q=>∃ p xs i v,x=.ref p∧y=.int i∧SqT K H p xs∧atI xs i=some v∧Q v H
noncomputable def rIxS:R2:=fun x y H Q=>∃ z i c,x=.str z∧y=.int i∧z.length≤sizeLine∧atI z.cps.toList i=some c∧Q (.str ⟨#[c]⟩) H
theorem ix_list:IxR X (rIxL X.K):=by
 intro value slice pins s σ H x y v u Q I rx ry h hs
 obtain ⟨p,xs,i,z,rfl,rfl,hq,he,q⟩:=h
 cases rx
 obtain ⟨t,rfl⟩:=ry
 obtain ⟨its,r,pl,hz⟩:=I.list hq
 obtain ⟨j,h1,h2,h3,h4,h5⟩:=atI_get he
 obtain ⟨w,ew,rw'⟩:=r.get h2
 have hl:=r.length
 have hn:=line63
 have fin:EP X pins σ Q w s:=⟨z,H,I,rw',q⟩
 by_cases h0:0≤i
 ·have hj:i.toNat=j:=by
   rw [seqIndex_of h0 h5] at h1
   exact Option.some.inj h1
  exact item_listR pl.isList h0 (by omega) (by rw [hj]; simpa using ew) fin hs
 ·have hj:(i + (its.toArray.size:Int)).toNat=j:=by
   rw [seqIndex_neg (by omega) h4] at h1
   rw [List.size_toArray,← hl]
   exact Option.some.inj h1
  exact subscriptTail_builtinR (x:=w) pl.isList.typeIs slot_list_getitem.lookup
   (wpAny_getItem_list_neg (Q:=fun r s'=>r=w∧EP X pins σ Q r s') pl.isList (by omega) (by rw [List.size_toArray] <;> omega) (by omega) (by rw [hj]; simpa using ew) ⟨rfl,fin⟩) hs
theorem ix_tup:IxR X (rIxT X.K):=by
 intro value slice pins s σ H x y v u Q I rx ry h hs
 obtain ⟨p,xs,i,z,rfl,rfl,hq,he,q⟩:=h
 cases rx
 obtain ⟨t,rfl⟩:=ry
 obtain ⟨its,r,pl,hz⟩:=I.tuple hq
 obtain ⟨j,h1,h2,h3,h4,h5⟩:=atI_get he
 obtain ⟨w,ew,rw'⟩:=r.get h2
 have hl:=r.length
 have hn:=line63
 have fin:EP X pins σ Q w s:=⟨z,H,I,rw',q⟩
 exact subscriptTail_builtinR (x:=w) pl.typeIs slot_tuple_getitem.lookup
  (getItem_tuple (j:=j) (Q:=fun r s'=>r=w∧EP X pins σ Q r s') pl (by omega) (by omega) (by rw [List.size_toArray,← hl]; exact h1) (by simpa using ew) ⟨rfl,fin⟩) hs
theorem ix_str:IxR X rIxS:=by
 intro value slice pins s σ H x y v u Q I rx ry h hs
 obtain ⟨z,i,c,rfl,rfl,hz,he,q⟩:=h
 obtain ⟨t,rfl⟩:=rx
 obtain ⟨t',rfl⟩:=ry
 obtain ⟨j,h1,h2,h3,h4,h5⟩:=atI_get he
 have hl:z.cps.toList.length=z.length:=by simp [Str.length]
 rw [hl] at h1 h4 h5
 have hn:=line63
 exact tail_any (typeIs_str s z t) slot_str_getitem.lookup (getItem_str (c:=c) (by
  have e1:decide (i < -(2 ^ 63:Int))=false:=decide_eq_false (by omega)
  have e2:decide (i ≥ 2 ^ 63)=false:=decide_eq_false (by omega)
  rw [e1,e2,Bool.or_false]) (by rw [h1]; simpa using h2) ⟨.str ⟨#[c]⟩,H,I.tok _,⟨_,rfl⟩,q⟩) hs
noncomputable def rIx (K:PySem.W.Frag):R2:=fun x y H Q=>rIxL K x y H Q∨rIxT K x y H Q∨rIxS x y H Q
theorem ix_seq:IxR X (rIx X.K):=ix_list.or (ix_tup.or ix_str)
theorem slice_bounds (lo hi:Option Int) (n:Nat):(sliceBounds lo hi none n).1=((HT.sIx n 0 lo:Nat):Int)∧(sliceBounds lo hi none n).2.1=((HT.sIx n n hi:Nat):Int)∧(sliceBounds lo hi none n).2.2=1:=by
 refine ⟨?_,?_,rfl⟩
 ·cases lo with
  | none=>simp [sliceBounds,HT.sIx]
  | some i =>
   simp only [sliceBounds,HT.sIx,Option.getD_none,show (1:Int) > 0 by decide,if_true]
   by_cases h:i < 0
   ·simp only [h,if_true] <;> omega
   ·simp only [h,if_false] <;> omega
 ·cases hi with
  | none=>simp [sliceBounds,HT.sIx]
  | some i =>
   simp only [sliceBounds,HT.sIx,Option.getD_none,show (1:Int) > 0 by decide,if_true]
   by_cases h:i < 0
   ·simp only [h,if_true] <;> omega
   ·simp only [h,if_false] <;> omega
theorem slicePick_cut (its:List Value) (lo hi:Option Int):slicePick its.toArray lo hi none=((its.drop (HT.sIx its.length 0 lo)).take (HT.sIx its.length its.length hi - HT.sIx its.length 0 lo)).toArray:=by
 obtain ⟨h1,h2,h3⟩:=slice_bounds lo hi its.toArray.size
 unfold slicePick
 rw [h1,h2,h3]
 simp only [sliceRange_one,pick_run,List.size_toArray] <;> rfl
noncomputable def rSlL (K:PySem.W.Frag):V→Option Int→Option Int→Hp→VK→Prop:=fun x lo hi H Q=>∃ a xs,x=.ref a∧SqL K H a xs∧∀ p,H p=none→Q (.ref p) (upd H p (.lst (cutV xs lo hi)))
theorem sl_list:SlR X (rSlL X.K):=by
 intro pins s σ H x v vl vu lo hi sl Q I rx hs pl pu h
 obtain ⟨a,xs,rfl,hx,q⟩:=h
 cases rx
 obtain ⟨its,r,ht,hz⟩:=I.list hx
 have hlen:=r.length
 refine ⟨"list",_,slot_list_getitem.lookup,ht.isList.typeIs,?_⟩
 refine wpAny_getItem_list_slice ht.isList hs pl pu .none (by simp) ?_ (by rw [List.size_toArray] <;> omega)
 rw [slicePick_cut,← hlen]
 refine ⟨.ref s.heap.objs.size,_,I.laid (t':=s.toks) (o:=.lst (cutV xs lo hi)) (fun b ob q=>Heap.get?_push_of_some _ q) (Nat.le_refl _) ?_,rfl,q _ (I.hok.fresh (Nat.le_refl _))⟩
 exact ⟨Nat.le_trans (cutV_length xs lo hi) hz,_,0,(r.drop (HT.sIx xs.length 0 lo)).take (HT.sIx xs.length xs.length hi - HT.sIx xs.length 0 lo),Heap.get?_push_size _ rfl⟩
noncomputable def flatV:V→Bool
 | .non=>true
 | .bl _=>true
 | .int _=>true
 | .str _=>true
 | _=>false
noncomputable def eqV:V→V→Bool
 | .non,.non=>true
 | .bl a,.bl b=>a == b
 | .bl a,.int b=>(if a then 1 else 0) == b
 | .int a,.bl b=>a == (if b then 1 else 0)
 | .int a,.int b=>a == b
 | .str a,.str b=>a == b
 | _,_=>false
theorem eqAt_V {A:Around} {s:Shared} {y x:V} {u v:Value} (ry:RelV y u) (rx:RelV x v) (fy:flatV y=true) (fx:flatV x=true):SeqAt.EqAt A s u v (eqV y x):=by
 cases y with
 | non =>
  cases ry
  cases x with
  | non=>cases rx; exact SeqAt.EqAt.same _
  | bl b=>cases rx; exact SeqAt.EqAt.none_bool b
  | int b=>obtain ⟨t,rfl⟩:=rx; exact SeqAt.EqAt.none_int b t
  | str b=>obtain ⟨t,rfl⟩:=rx; exact SeqAt.EqAt.none_str b t
  | _=>exact absurd (show false=true from fx) Bool.false_ne_true
 | bl a =>
  cases ry
  cases x with
  | non=>cases rx; exact SeqAt.EqAt.bool_none a
  | bl b=>cases rx; exact SeqAt.EqAt.bool_bool a b
  | int b=>obtain ⟨t,rfl⟩:=rx; exact SeqAt.EqAt.bool_int a b t
  | str b=>obtain ⟨t,rfl⟩:=rx; exact SeqAt.EqAt.bool_str a b t
  | _=>exact absurd (show false=true from fx) Bool.false_ne_true
 | int a =>
  obtain ⟨t',rfl⟩:=ry
  cases x with
  | non=>cases rx; exact SeqAt.EqAt.int_none a t'
  | bl b=>cases rx; exact SeqAt.EqAt.int_bool a t' b
  | int b=>obtain ⟨t,rfl⟩:=rx; exact SeqAt.EqAt.int_int a t' b t
  | str b=>obtain ⟨t,rfl⟩:=rx; exact SeqAt.EqAt.int_str a t' b t
  | _=>exact absurd (show false=true from fx) Bool.false_ne_true
 | str a =>
  obtain ⟨t',rfl⟩:=ry
  cases x with
  | non=>cases rx; exact SeqAt.EqAt.str_none a t'
  | bl b=>cases rx; exact SeqAt.EqAt.str_bool a t' b
  | int b=>obtain ⟨t,rfl⟩:=rx; exact SeqAt.EqAt.str_int a t' b t
  | str b=>obtain ⟨t,rfl⟩:=rx; exact SeqAt.EqAt.str_str a t' b t
  | _=>exact absurd (show false=true from fx) Bool.false_ne_true
 | _=>exact absurd (show false=true from fy) Bool.false_ne_true
noncomputable def eqU (x:V) (u:Value):Bool:=match u with
 | .none=>eqV .non x
 | .bool b=>eqV (.bl b) x
 | .int i _=>eqV (.int i) x
 | .str z _=>eqV (.str z) x
 | _=>false
theorem eqU_of {x y:V} {u:Value} (r:RelV y u) (f:flatV y=true):eqU x u=eqV y x:=by
 cases y with
 | non=>cases r; rfl
 | bl b=>cases r; rfl
 | int i=>obtain ⟨t,rfl⟩:=r; rfl
 | str z=>obtain ⟨t,rfl⟩:=r; rfl
 | _=>exact absurd (show false=true from f) Bool.false_ne_true
theorem any_eqU {x:V}:∀ {xs:List V} {us:List Value},Vals xs us→xs.all flatV=true→us.any (eqU x)=xs.any fun y=>eqV y x
 | _,_,.nil,_=>rfl
 | y :: xs,u :: us,.cons r t,f=>by
  rw [List.all_cons,Bool.and_eq_true] at f
  rw [List.any_cons,List.any_cons,eqU_of r f.1,any_eqU t f.2]
theorem mem_eqAt {A:Around} {s:Shared} {x:V} {v:Value} (rx:RelV x v) (fx:flatV x=true):∀ {xs:List V} {us:List Value},Vals xs us→xs.all flatV=true→∀ u∈us,SeqAt.EqAt A s u v (eqU x u)
 | _,_,.nil,_=>fun u hu=>by cases hu
 | y :: xs,u :: us,.cons r t,f=>fun u' hu=>by
  rw [List.all_cons,Bool.and_eq_true] at f
  rcases List.mem_cons.mp hu with rfl | hu
  ·rw [eqU_of r f.1]; exact eqAt_V r rx f.1 fx
  ·exact mem_eqAt rx fx t f.2 u' hu
noncomputable def inV (x:V) (xs:List V):Bool:=xs.any fun y=>eqV y x
noncomputable def rIn (K:PySem.W.Frag) (neg:Bool):R2:=fun x y H Q=>∃ p xs,y=.ref p∧(SqL K H p xs∨SqT K H p xs)∧flatV x=true∧xs.all flatV=true∧Q (.bl (if neg then !inV x xs else inV x xs)) H
theorem op_in_seq:OpR X (compareOp .In) (rIn X.K false):=by
 intro pins s σ H x y v u Q I rx ry h
 obtain ⟨p,xs,rfl,hq,fx,fs,q⟩:=h
 cases ry
 rcases hq with hq | hq
 ·obtain ⟨its,r,pl,hz⟩:=I.list hq
  refine SeqAt.in_listAt (eqU x) pl.isList (fun w hw=>mem_eqAt rx fx r fs w (by simpa using hw)) ⟨.bl _,H,I,rfl,?_⟩
  rw [show its.toArray.any (eqU x)=its.any (eqU x) by simp,any_eqU r fs]
  exact q
 ·obtain ⟨its,r,pl,hz⟩:=I.tuple hq
  refine SeqAt.in_tupleAt (eqU x) pl (fun w hw=>mem_eqAt rx fx r fs w (by simpa using hw)) ⟨.bl _,H,I,rfl,?_⟩
  rw [show its.toArray.any (eqU x)=its.any (eqU x) by simp,any_eqU r fs]
  exact q
theorem call_list_of:CallR X (.type "list") (fun xs H Q=>∃ p ys,xs=[.ref p]∧(SqL X.K H p ys∨SqT X.K H p ys)∧∀ l,H l=none→Q (.ref l) (upd H l (.lst ys))):=by
 intro pins s σ H xs us Q I r h
 obtain ⟨p,ys,rfl,hq,q⟩:=h
 obtain ⟨u,rfl,rx⟩:=vals1 r
 cases rx
 have fin:∀ (its:List Value),Vals ys its→ys.length≤sizeLine→∀ (h':Heap) (c':Nat),(∀ b o',s.heap.get? b=some o'→h'.get? b=some o') →
   h'.get? s.heap.objs.size=some { cls:=.type "list",dict:=none,data:=.seq its.toArray c',slots:=#[] }→EP X pins σ Q (.ref s.heap.objs.size) { s with heap:=h' }:=fun its r' hz h' c' kp e =>
  ⟨.ref s.heap.objs.size,_,I.laid (t':=s.toks) kp (Nat.le_refl _) (show ObjOk X.prog X.w _ h' _ (.lst ys) from ⟨hz,its,c',r',e⟩),rfl,q _ (I.hok.fresh (Nat.le_refl _))⟩
 rcases hq with hq | hq
 ·obtain ⟨its,r',pl,hz⟩:=I.list hq
  have hlen:=r'.length
  obtain ⟨o,ho,hc,n,hd⟩:=pl.isList
  exact call_list_seq p (.inl rfl) ho hc hd (fun h' c' kp e=>fin its r' hz h' c' kp e) (by simp only [List.size_toArray] <;> omega)
 ·obtain ⟨its,r',pl,hz⟩:=I.tuple hq
  have hlen:=r'.length
  obtain ⟨o,ho,hc,n,hd⟩:=pl
  exact call_list_seq p (.inr rfl) ho hc hd (fun h' c' kp e=>fin its r' hz h' c' kp e) (by simp only [List.size_toArray] <;> omega)
noncomputable def tyV (K:PySem.W.Frag) (T:String) (x:V) (H:Hp):Prop:=match x with
 | .str _=>T = "str"
 | .int _=>T = "int"
 | .ref p=>(T = "list" ∧ ∃ xs,SqL K H p xs)∨(T = "tuple" ∧ ∃ o,K.lookup p=some o∧o.cls=.type "tuple" ∧ o.dict=none) ∨
   (T = "dict" ∧ ((∃ kvs,H p=some (.dK kvs))∨∃ kvs,H p=some (.dT kvs)))∨(T = "set" ∧ ∃ S n,H p=some (.set S n))
 | _=>False
theorem tyV_is {pins:List (Addr×Obj)} {σ:St} {H:Hp} {s:Shared} {T:String} {x:V} {v:Value} (I:Inv X pins σ H s) (r:RelV x v) (ty:tyV X.K T x H) :
  s.TypeIs v T∧∀ a,v=.ref a→∃ ob,s.heap.get? a=some ob∧ob.dict=none:=by
 cases x with
 | str z =>
  obtain ⟨t,rfl⟩:=r
  cases (show T = "str" from ty)
  exact ⟨typeIs_str s z t,fun _ e=>nomatch e⟩
 | int i =>
  obtain ⟨t,rfl⟩:=r
  cases (show T = "int" from ty)
  exact ⟨typeIs_int s i t,fun _ e=>nomatch e⟩
 | ref p =>
  cases r
  rcases ty with ⟨rfl,xs,hq⟩ | ⟨rfl,o,hk,hc,hd⟩ | ⟨rfl,hk⟩ | ⟨rfl,S,n,hk⟩
  ·obtain ⟨its,_,pl,_⟩:=I.list hq
   refine ⟨pl.isList.typeIs,fun a e=>?_⟩
   cases e
   obtain ⟨o,n,e,c,hd,_⟩:=pl
   exact ⟨o,e,hd⟩
  ·refine ⟨⟨o,I.kIn p o hk,hc⟩,fun a e=>?_⟩
   cases e
   exact ⟨o,I.kIn _ o hk,hd⟩
  ·have z:∃ o,s.heap.get? p=some o∧o.ExactDict:=by
    rcases hk with ⟨kvs,hk⟩ | ⟨kvs,hk⟩
    ·obtain ⟨_,_,_,_,o,_,_,e,ex,_⟩:=I.hok p _ hk
     exact ⟨o,e,ex⟩
    ·obtain ⟨_,_,_,_,o,_,_,e,ex,_⟩:=I.hok p _ hk
     exact ⟨o,e,ex⟩
   obtain ⟨o,e,ex⟩:=z
   refine ⟨⟨o,e,ex.1⟩,fun a e2=>?_⟩
   cases e2
   exact ⟨o,e,ex.2.1⟩
  ·obtain ⟨o,_,_,_,e,ex,_⟩:=I.hok p _ hk
   refine ⟨⟨o,e,ex.1⟩,fun a e2=>?_⟩
   cases e2
   exact ⟨o,e,ex.2.1⟩
 | _=>exact False.elim ty
noncomputable def tBM0 (K:PySem.W.Frag) (T:String) (r:V→List V→Hp→VK→Prop) (to:TE):TE:=fun σ H Q=>to σ H fun x H1=>tyV K T x H1∧r x [] H1 Q
noncomputable def tBM (K:PySem.W.Frag) (T:String) (r:V→List V→Hp→VK→Prop) (to:TE) (t:TA):TE:=fun σ H Q=>to σ H fun x H1=>tyV K T x H1∧t σ H1 fun xs H2=>r x xs H2 Q
variable {o e:Expr} {es:List Expr} {to:TE} {t:TA} {name:Str} {apos cpos:Pos} {T id:String} {r:V→List V→Hp→VK→Prop}
theorem pe_bm0 (pa:PlainAttrs T) (slot:Slot T name id) (hty:typeOf (.builtin id)=pure (.type "method_descriptor")) (hm:MtR X id r) (ho:PE X o to)
  (hbase:attributeBase o name X.env (eval o X.env)=eval o X.env:=by rfl) (hline:(apos.endLine == cpos.line)=true:=by rfl):PE X (.Call (.Attribute o name apos) [] [] cpos) (tBM0 X.K T r to):=by
 intro pins s σ H Q I h
 refine wpAny_Call_method0_late hbase hline (thn (ho pins s σ H _ I h) fun v s1 ⟨x,H1,I1,r1,ty,q1⟩=>?_)
 obtain ⟨h1,h2⟩:=tyV_is I1 r1 ty
 exact ⟨T,id,pa,slot,hty,h1,h2,Calls.callWith_builtin rfl (PySem.evalArgs_none (hm pins s1 σ H1 x [] v [] Q I1 r1 .nil q1))⟩
theorem pe_bm (pa:PlainAttrs T) (slot:Slot T name id) (hty:typeOf (.builtin id)=pure (.type "method_descriptor")) (hm:MtR X id r) (ho:PE X o to) (ha:PA X (e :: es) t)
  (hbase:attributeBase o name X.env (eval o X.env)=eval o X.env:=by rfl)
  (hfew:((backTo cpos (starEach (e :: es) X.env)).all (fun x=>!x.1) && (backToKw cpos (keywordEach [] X.env)).all (fun x=>x.1.isSome)
   && decide ((e :: es).length + ([]:List Keyword).length + (if ([]:List Keyword).isEmpty then 0 else 1) < 30))=true:=by rfl)
  (hline:(apos.endLine == cpos.line)=true:=by rfl) (hs:starEach (e :: es) X.env=(false,eval e X.env) :: starEach es X.env:=by rfl) (hplain:(backTo cpos (starEach es X.env)).any (·.1)=false:=by rfl) :
  PE X (.Call (.Attribute o name apos) (e :: es) [] cpos) (tBM X.K T r to t):=by
 intro pins s σ H Q I h
 refine wpAny_Call_method_late hbase hfew hline rfl (thn (ho pins s σ H _ I h) fun v s1 ⟨x,H1,I1,r1,ty,q1⟩=>?_)
 obtain ⟨h1,h2⟩:=tyV_is I1 r1 ty
 refine ⟨T,id,pa,slot,hty,h1,h2,?_⟩
 have hA:=ha cpos pins s1 σ H1 _ I1 q1
 rw [hs] at hA ⊢
 refine Calls.callWith_builtin (by show (false || (backTo cpos (starEach es X.env)).any (·.1))=false; rw [hplain] <;> rfl) (Calls.evalArgs_plain ?_)
 exact thn hA fun us s2 ⟨vs,H2,I2,r2,q2⟩=>hm pins s2 σ H2 x vs v us Q I2 r1 r2 q2
end
end L2
namespace L2
open PySem PySem.Spec PyProof.Rows
noncomputable def MtM (X:Cx) (id:String) (r:V→List V→Hp→VK→Prop):Prop :=
 ∀ (pins:List (Addr×Obj)) (s:Shared) (σ:St) (H:Hp) (x:V) (xs:List V) (v:Value) (us:List Value) (Q:VK),Inv X pins σ H s→RelV x v→Vals xs us→r x xs H Q →
  wpAny (model X.prog X.w) X.A (call (.builtin id) (v :: us)) (EP X pins σ Q) X.xe s
theorem Vals.one:∀ {x:V} {us:List Value},Vals [x] us→∃ u,us=[u]∧RelV x u
 | _,_,.cons r .nil=>⟨_,rfl,r⟩
theorem Vals.two:∀ {x y:V} {us:List Value},Vals [x,y] us→∃ u v,us=[u,v]∧RelV x u∧RelV y v
 | _,_,_,.cons r (.cons q .nil)=>⟨_,_,rfl,r,q⟩
theorem Vals.zero:∀ {us:List Value},Vals [] us→us=[]
 | _,.nil=>rfl
theorem Vals.dropLast {xs:List V} {us:List Value} (h:Vals xs us):Vals xs.dropLast us.dropLast:=by
 induction h with
 | nil=>exact .nil
 | cons r t ih =>
  cases t with
  | nil=>exact .nil
  | cons q t'=>exact .cons r ih
theorem Vals.rep {xs:List V} {us:List Value} (h:Vals xs us):∀ k:Nat,Vals (List.replicate k xs).flatten (List.replicate k us).flatten
 | 0=>.nil
 | k + 1=>by
  rw [List.replicate_succ,List.replicate_succ,List.flatten_cons,List.flatten_cons]
  exact Vals.append h (Vals.rep h k)
theorem erase_last {α:Type} (l:List α):l.eraseIdx (l.length - 1)=l.dropLast:=by
 induction l with
 | nil=>rfl
 | cons a r ih =>
  cases r with
  | nil=>rfl
  | cons b r =>
   have e:(a :: b :: r).length - 1=((b :: r).length - 1) + 1:=by
    have h1:(a :: b :: r).length=r.length + 2:=rfl
    have h2:(b :: r).length=r.length + 1:=rfl
    omega
   rw [e,List.eraseIdx_cons_succ,ih]
   all_goals rfl
theorem foldl_rep (its:List Value):∀ (k:Nat) (acc:List Value),
  List.foldl (fun x1 x2=>x1++x2) acc.toArray (List.replicate k its.toArray)=(acc++(List.replicate k its).flatten).toArray
 | 0,acc=>by simp
 | k + 1,acc=>by
  have e:acc.toArray++its.toArray=(acc++its).toArray:=by simp
  have e2:(acc++its)++(List.replicate k its).flatten=acc++(List.replicate (k + 1) its).flatten:=by
   rw [List.replicate_succ,List.flatten_cons,List.append_assoc]
  rw [← e2,← foldl_rep its k (acc++its),← e,List.replicate_succ,List.foldl_cons]
section
variable {X:Cx} {pins:List (Addr×Obj)} {σ:St} {H:Hp} {s:Shared} {l b:Addr} {xs ys zs:List V}
theorem Inv.lset {its its':List Value} {n:Nat} {f:Array Value→Array Value} {t':Nat} (I:Inv X pins σ H s) (hH:H l=some (.lst xs))
  (e:s.heap.get? l=some { cls:=.type "list",data:=.seq its.toArray n }) (hf:f its.toArray=its'.toArray) (hv:Vals ys its') (hz:ys.length≤sizeLine) :
  Inv X pins σ (upd H l (.lst ys)) { s with heap:=s.heap.update l (Obj.mapSeq f),toks:=t' }:=by
 have q:=PySem.IsL.update e f
 rw [hf] at q
 refine I.write (x:=l) (e:=l) (by rw [hH]; exact trivial) (.inl rfl) (fun b' u hb hu=>(Heap.get?_update_other s.heap (Obj.mapSeq f) (Ne.symm hb)).trans hu) ⟨_,q⟩ ?_
 exact ⟨hz,its',_,hv,q⟩
theorem Inv.lnew {its:List Value} {t':Nat} (I:Inv X pins σ H s) (hv:Vals ys its) (hz:ys.length≤sizeLine) :
  Inv X pins σ (upd H s.heap.objs.size (.lst ys)) { s with heap:=s.heap.push { cls:=.type "list",data:=.seq its.toArray },toks:=t' } :=
 I.laid (fun _ _ q=>Heap.get?_push_of_some _ q) (Nat.le_refl _) ⟨hz,its,0,hv,Heap.get?_push_size _ rfl⟩
theorem Inv.fresh (I:Inv X pins σ H s):H s.heap.objs.size=none:=I.hok.fresh (Nat.le_refl _)
theorem Inv.lstM (I:Inv X pins σ H s) (hH:H l=some (.lst xs)):xs.length≤sizeLine∧∃ (its:List Value) (n:Nat),Vals xs its∧xs.length=its.length∧s.heap.get? l=some { cls:=.type "list",data:=.seq its.toArray n }:=by
 obtain ⟨z,its,n,r,e⟩:=I.hok l _ hH
 exact ⟨z,its,n,r,r.length,e⟩
theorem notLongL {n:Nat} (h:n≤sizeLine):Builtin.List.listTooLong n=false:=by
 unfold Builtin.List.listTooLong
 exact decide_eq_false (by omega)
end
section
variable {X:Cx}
noncomputable def rAppend:V→List V→Hp→VK→Prop:=fun x vs H Q=>∃ l xs y,x=.ref l∧vs=[y]∧H l=some (.lst xs)∧xs.length < sizeLine∧Q .non (upd H l (.lst (xs++[y])))
theorem mt_append:MtM X "list.append" rAppend:=by
 intro pins s σ H x vs v us Q I rx rv h
 obtain ⟨l,xs,y,rfl,rfl,hH,hz,q⟩:=h
 cases rx
 obtain ⟨u,rfl,ru⟩:=rv.one
 obtain ⟨z,its,n,r,hl,e⟩:=I.lstM hH
 refine call_meets F.slot_list_append ⟨_,e,rfl⟩ F.entry_list_append (F.args_list_append_2 _ _) (PySem.list_append l its.toArray n u (by rw [List.size_toArray]; omega)) ⟨e,?_⟩
 refine ⟨.non,_,I.lset (its':=its++[u]) hH e (by simp) (r.append (.cons ru .nil)) ?_,rfl,q⟩
 rw [List.length_append,List.length_singleton]
 omega
noncomputable def rExtend:V→List V→Hp→VK→Prop:=fun x vs H Q=>∃ l b xs zs,x=.ref l∧vs=[.ref b]∧H l=some (.lst xs)∧H b=some (.lst zs)∧xs.length + zs.length≤sizeLine∧Q .non (upd H l (.lst (xs++zs)))
theorem mt_extend:MtM X "list.extend" rExtend:=by
 intro pins s σ H x vs v us Q I rx rv h
 obtain ⟨l,b,xs,zs,rfl,rfl,hH,hB,hz,q⟩:=h
 cases rx
 obtain ⟨u,rfl,ru⟩:=rv.one
 cases ru
 obtain ⟨z,its,n,r,hl,e⟩:=I.lstM hH
 obtain ⟨z2,its2,n2,r2,hl2,e2⟩:=I.lstM hB
 have hsz:its.toArray.size + its2.toArray.size≤sizeLine:=by rw [List.size_toArray,List.size_toArray]; omega
 have hlong:¬ (!its.toArray.isEmpty && Builtin.List.listTooLong (its.toArray.size + its2.toArray.size))=true:=by
  rw [notLongL hsz,Bool.and_false]
  exact Bool.false_ne_true
 refine call_meets F.slot_list_extend ⟨_,e,rfl⟩ F.entry_list_extend (F.args_list_extend_2 _ _)
  (AutoSeq1.list_extend_list_list_0 l its.toArray n b its2.toArray n2 hlong (by rw [List.size_toArray]; omega) (by omega)) ⟨e,e2,?_⟩
 refine ⟨.non,_,I.lset (its':=its++its2) hH e (by simp) (r.append r2) ?_,rfl,q⟩
 rw [List.length_append]
 omega
noncomputable def rPop:V→List V→Hp→VK→Prop:=fun x vs H Q=>∃ l xs y,x=.ref l∧vs=[]∧H l=some (.lst xs)∧xs[xs.length - 1]?=some y∧Q y (upd H l (.lst xs.dropLast))
theorem mt_pop:MtM X "list.pop" rPop:=by
 intro pins s σ H x vs v us Q I rx rv h
 obtain ⟨l,xs,y,rfl,rfl,hH,hy,q⟩:=h
 cases rx
 have hus:=rv.zero
 subst hus
 obtain ⟨z,its,n,r,hl,e⟩:=I.lstM hH
 obtain ⟨u,hu,ru⟩:=r.get hy
 have hy':its.toArray[its.toArray.size - 1]?=some u:=by
  show its.toArray[its.length - 1]?=some u
  rw [← Array.getElem?_toList,← hl]
  exact hu
 refine call_meets F.slot_list_pop ⟨_,e,rfl⟩ F.entry_list_pop (F.args_list_pop_1 _) (MeetsSeq.list_pop_last l its.toArray n u hy' (by rw [List.size_toArray]; omega)) ⟨e,?_⟩
 refine ⟨y,_,I.lset (its':=its.dropLast) hH e ?_ r.dropLast ?_,ru,q⟩
 ·show its.toArray.eraseIdxIfInBounds (its.toArray.size - 1)=its.dropLast.toArray
  rw [List.size_toArray,List.eraseIdxIfInBounds_toArray,erase_last]
 ·rw [List.length_dropLast]
  omega
noncomputable def rCat:R2:=fun x y H Q=>∃ l b xs zs,x=.ref l∧y=.ref b∧H l=some (.lst xs)∧H b=some (.lst zs)∧xs.length + zs.length≤sizeLine∧∀ p,H p=none→Q (.ref p) (upd H p (.lst (xs++zs)))
theorem op_cat:OpR X (binaryOp .Add) rCat:=by
 intro pins s σ H x y v u Q I rx ry h
 obtain ⟨l,b,xs,zs,rfl,rfl,hH,hB,hz,q⟩:=h
 cases rx
 cases ry
 obtain ⟨z,its,n,r,hl,e⟩:=I.lstM hH
 obtain ⟨z2,its2,n2,r2,hl2,e2⟩:=I.lstM hB
 refine PySem.P.add_list e e2 ?_ (by rw [List.size_toArray,List.size_toArray]; omega)
 have ea:its.toArray++its2.toArray=(its++its2).toArray:=by simp
 rw [ea]
 exact ⟨.ref _,_,I.lnew (t':=s.toks) (r.append r2) (by rw [List.length_append]; omega),rfl,q _ I.fresh⟩
noncomputable def rRep:R2:=fun x y H Q=>∃ l k xs,x=.ref l∧y=.int k∧H l=some (.lst xs)∧-(2 ^ 63)≤k∧k < 2 ^ 63∧xs.length * k.toNat≤sizeLine ∧
 ∀ p,H p=none→Q (.ref p) (upd H p (.lst (List.replicate k.toNat xs).flatten))
theorem len_rep {α:Type} (xs:List α) (k:Nat):(List.replicate k xs).flatten.length=k * xs.length:=by
 induction k with
 | zero=>simp
 | succ k ih=>rw [List.replicate_succ,List.flatten_cons,List.length_append,ih,Nat.succ_mul,Nat.add_comm]
theorem op_rep:OpR X (binaryOp .Mult) rRep:=by
 intro pins s σ H x y v u Q I rx ry h
 obtain ⟨l,k,xs,rfl,rfl,hH,h1,h2,hz,q⟩:=h
 cases rx
 obtain ⟨t,rfl⟩:=ry
 obtain ⟨z,its,n,r,hl,e⟩:=I.lstM hH
 have hlen:its.toArray.size * k.toNat≤sizeLine:=by rw [List.size_toArray,← hl]; exact hz
 have hcap:¬ its.toArray.size * k.toNat > (2 ^ 63 - 1) / 8:=by
  have:(sizeLine:Nat)≤(2 ^ 63 - 1) / 8:=by decide
  omega
 have hfit:¬ (!Builtin.List.listFitsIndex k)=true:=by
  rw [fitsIndex_both h1 h2]
  exact Bool.false_ne_true
 have hlong:¬ Builtin.List.listTooLong (its.toArray.size * k.toNat)=true:=by
  rw [notLongL hlen]
  exact Bool.false_ne_true
 have hnew:List.foldl (fun x1 x2=>x1++x2) #[] (List.replicate (if its.toArray.isEmpty=true then 0 else k.toNat) its.toArray)=(List.replicate k.toNat its).flatten.toArray:=by
  have f0:∀ m:Nat,List.foldl (fun x1 x2=>x1++x2) #[] (List.replicate m its.toArray)=(List.replicate m its).flatten.toArray:=fun m=>by
   have:=foldl_rep its m []
   rw [List.nil_append] at this
   exact this
  rw [f0]
  cases its with
  | nil=>simp
  | cons a r'=>rw [if_neg (by simp)]
 refine wpAny_binaryOp_repeat_ref (T := "list") (U := "int") (by decide) ⟨_,e,rfl⟩ (fun s'=>typeIs_int s' k t) noFill_list_mul F.fills_int_mul F.slot_int_rmul repeat_list F.slot_int_index.lookup
  (call_meets F.slot_int_rmul (typeIs_int s k t) F.entry_int_rmul (F.args_int_rmul_2 _ _) (int___rmul___int_list k t l its.toArray n)
   ⟨e,rfl,⟨_,e,rfl⟩,call_meets F.slot_list_mul ⟨_,e,rfl⟩ F.entry_list_mul (F.args_list_mul_2 _ _) (AutoListH.list___mul___list_int_3 l its.toArray n k t hfit hcap hlong) ⟨e,?_⟩⟩)
 rw [hnew]
 exact ⟨.ref _,_,I.lnew (t':=s.toks) (r.rep k.toNat) (by rw [len_rep,Nat.mul_comm]; exact hz),rfl,q _ I.fresh⟩
end
section
variable {prog:Program} {w:World} {A:Around} {E:Value→Shared→Prop} {s:Shared}
end
section
variable {X:Cx}
end
end L2
namespace Att
open PySem PySem.W PySem.Calls PyProof.Rows
theorem ints_of_wellAll {P:Params} {h:Heap}:∀ (ns:List Int) (vs:List Value),WellAll P h vs (ns.map WData.int)→IntsAre vs ns:=by
 intro ns
 induction ns with
 | nil =>
  intro vs w
  rw [List.map_nil] at w
  cases w
  exact .nil
 | cons n ns ih =>
  intro vs w
  rw [List.map_cons] at w
  cases w with
  | cons a b =>
   cases a
   exact .cons _ _ (ih _ b)
theorem script_of {l:OpenLaw} {n:Nat} (hn:l.most=some n) {P:Params} {h:Heap} {args:List WData} {vals:List Value}
  (hpre:l.row.toRowW.claim.pre args=true) (hwl:WellAll P h vals args) :
  ∃ a vs ns,vals=[Value.ref a]∧args=[WData.list (ns.map WData.int)]∧h.get? a=some { cls:=.type "list",data:=.seq vs.toArray }∧IntsAre vs ns∧ns.length≤n:=by
 have hsh:WShape.hasAll [] args [.list .int]=true:=(pre_splitW hpre).1
 have hc:l.pre.holds [] { args:=args }=true:=(pre_splitW hpre).2
 obtain ⟨d,r,rfl,h1,h2⟩:=hasAllW_cons hsh
 obtain rfl:=hasAllW_nil h2
 obtain ⟨xs,rfl,h3⟩:=hasW_list h1
 obtain ⟨ns,rfl⟩:=items_int h3
 have hlen:ns.length≤n:=by
  unfold OpenLaw.pre at hc
  have h4:(WTm.not (.lt (.lit (.int (n:Int))) (.len (.arg 0)))).holds [] { args:=[.list (ns.map .int)] }=true:=by
   have h4:=(holds_andW hc).1
   rw [hn] at h4
   exact h4
  have h5:=condW_of h4 (w_not (w_lt w_lit (w_len_list (w_arg rfl))))
  rw [List.length_map] at h5
  refine Nat.le_of_not_lt fun q=>?_
  have q':(n:Int) < ((ns.length:Nat):Int):=by omega
  first
   | (rw [decide_eq_true q'] at h5; exact absurd h5 (by decide))
   | (simp at h5; omega)
 cases hwl with
 | cons w1 w2 =>
  cases w2
  cases w1 with
  | list ho hall=>exact ⟨_,_,ns,rfl,rfl,ho,ints_of_wellAll ns _ hall,hlen⟩
theorem post_true (l:OpenLaw) (args:List WData):l.row.toRowW.claim.post args (.bool true) args=true :=
 postW_of (r:=l.row.toRowW) (X:=(true == true))
  (show WShape.has [] (.bool true) .bool=true by first | rfl | decide | simp [WShape.has,WShape.arms,WShape.armsAll])
  (show (WTm.eq .res (.lit (.bool true))).value [] { args:=args,res:=some (.bool true),after:=args }=some (.bool (true == true)) from w_eq_bool (w_res rfl) w_lit) rfl
theorem attach_call {l:OpenLaw} {n:Nat} {q:Program} {loose:List Str} {XP:(Str→Option Value)→Heap→Prop} {YP:World→Heap→Prop} {d:DefRec}
  (hn:l.most=some n) (hdf:d.params.defaults=[])
  (call:∀ (w:World) (s₀ s₁:Shared) (mg mb:Str→Option Value) (fa:Addr) (o:Obj) (pm cd doc:Value) (a:Addr) (vs:List Value) (ns:List Int),
   Ground q loose [] XP w s₀ mg mb s₁.heap→YP w s₁.heap →
   s₁.heap.get? fa=some o→o.data=.func (docDef d.name d.params d.body d.scope pm cd doc)→s₁.heap.CodeRec cd d.name→mg d.name=some (.ref fa) →
   s₁.heap.get? a=some { cls:=.type "list",data:=.seq vs.toArray }→IntsAre vs ns→ns.length≤n→s₁.gens=#[] →
   codeAny (model l.prog w) callerA (.call (.ref fa) ⟨[.ref a],[]⟩) (fun r s'=>r=.ok (.ret (.bool true))∧OldK s₁.heap s'.heap∧s'.os=s₁.os∧AllBare s'.gens) s₁) :
  WalkO q loose XP YP l.row.toRowW d [] (fun f vs=>PySem.call f vs):=by
 intro w s₀ s₁ mg mb G Y fa o pm cd doc dV kV ho hd hcd hD hmg hg args vals as hpre hlay hrd hwl hlo
 obtain rfl:dV=.none:=Dflts.none hD hdf
 obtain rfl:kV=.none:=Dflts.noKw hD
 obtain ⟨a,vs,ns,rfl,rfl,hobj,hints,hlen⟩:=script_of hn hpre hwl
 refine enter_call (codeAny_mono (call w s₀ s₁ mg mb fa o pm cd doc a vs ns G Y ho (fd_plain hd) hcd hmg hobj hints hlen hg) fun r s' hq=>?_)
 obtain ⟨rfl,h2,h3,h4⟩:=hq
 exact ⟨.inl ⟨.bool true,.bool true,[],rfl,fun _=>rfl,.bool true,post_true l _,fun _=>⟨List.Pairwise.nil,fun _ hm=>(nomatch hm)⟩⟩,h2,h3,h4⟩
section
variable {prog:Program} {w:World} {A:Around} {E:Value→Shared→Prop} {s:Shared} {K:Frag}
end
end Att
namespace L2
open PySem PySem.Spec PyProof.Rows
theorem vals_ints:∀ {vs:List Value} {ns:List Int},IntsAre vs ns→Vals (ns.map V.int) vs
 | _,_,.nil=>.nil
 | _,_,.cons n t h=>.cons ⟨t,rfl⟩ (vals_ints h)
noncomputable def Only (H:Hp):Prop:=∀ b,H b=none∨∃ o xs,H b=some (.frz o (.lst xs))
theorem law_call {P:Program} {w:World} {K:PySem.W.Frag} {mg mb:Str→Option Value} {CX:CXT} {k:Nat} {fa a:Addr} {fd:FuncData} {x:Str} {sp:Sp} {s₁:Shared} {vs:List Value} {ns:List Int}
  (KX:K.In s₁.heap) (hns:s₁.heap.Ns mainGlobals mg) (hb:s₁.heap.Ns builtinsNs mb) (hbb:∀ x:Str,x ≠ "__name__" → mb x=bootBuiltins x) (hlim:s₁.heap.NoLimit) (hg:s₁.gens=#[])
  (ha:s₁.heap.get? a=some { cls:=.type "list",data:=.seq vs.toArray }) (hi:IntsAre vs ns) (hl:ns.length≤sizeLine) (hr:Room k callerA)
  (F:∀ base:Heap,K.In base→base.Ns mainGlobals mg→FnOk P w K mg base CX k fa fd [x] sp) (hbind:∀ (s:Shared) (u:Value),BindsTo s fd ⟨[u],[]⟩ [(x,u)])
  (hsp:∀ H:Hp,Only H→SqL K H a (ns.map V.int)→sp [.ref a] H (fun v _=>v=.bl true) fun _ _ _=>False)
  (hCX:∀ H e s',CX [] H s₁ (fun _ _ _=>False) e s'→False) :
  codeAny (model P w) callerA (.call (.ref fa) ⟨[.ref a],[]⟩) (fun r s'=>r=.ok (.ret (.bool true))∧OldK s₁.heap s'.heap∧s'.os=s₁.os∧AllBare s'.gens) s₁:=by
 have rv:=vals_ints hi
 have lenV:=hi.length
 have core:∀ H:Hp,Only H→SqL K H a (ns.map V.int)→HOk P w H s₁.heap→(∀ b,H b≠none→b=a)→(H a≠none→K.lookup a=none) →
   codeAny (model P w) callerA (.call (.ref fa) ⟨[.ref a],[]⟩) (fun r s'=>r=.ok (.ret (.bool true))∧OldK s₁.heap s'.heap∧s'.os=s₁.os∧AllBare s'.gens) s₁:=by
  intro H hO hS hok hA hK
  have base_of:∀ {b:Addr} {o:Obj},s₁.heap.get? b=some o→H b=none→(hidT s₁.heap H).get? b=some o:=fun e n=>hidT_get e n
  have noA:∀ {b:Addr} {o:Obj} {es:Array DictEntry} {ep:Nat},s₁.heap.get? b=some o→o.data=.dict es ep→H b=none:=fun {b o es ep} e d=>by
   cases q:H b with
   | none=>rfl
   | some u =>
    have e':b=a:=hA b (by rw [q]; simp)
    subst e'
    rw [ha] at e; cases e
    have d':Data.seq vs.toArray _=Data.dict es ep:=d
    cases d'
  have nsK:∀ {b:Addr} {m:Str→Option Value},s₁.heap.Ns b m→(hidT s₁.heap H).Ns b m:=fun {b m} ⟨o,es,ep,e,d,r⟩=>⟨o,es,ep,base_of e (noA e d),d,r⟩
  have hKb:K.In (hidT s₁.heap H):=fun b o e=>base_of (KX b o e) (by
   cases q:H b with
   | none=>rfl
   | some u =>
    have e':b=a:=hA b (by rw [q]; simp)
    subst e'
    rw [hK (by rw [q]; simp)] at e; cases e)
  have hM:Mod K mg (hidT s₁.heap H):=⟨hKb,nsK hns,⟨mb,nsK hb,hbb⟩,let ⟨mc,h1,h2⟩:=hlim; ⟨mc,nsK h1,h2⟩⟩
  have e0:Env0 P w K mg (hidT s₁.heap H) callerA [] s₁ H:=⟨rfl,hM,fun b o e=>of_hidT e,Nat.le_of_eq (hidT_size _ _),trivial,fun b hb=>absurd (show b∈([]:List Addr) from hb) (by simp),hok,.of_eq hg⟩
  refine codeAny_mono ((F _ hKb (nsK hns)).run callerA [] s₁ H ⟨[.ref a],[]⟩ [.ref a] [.ref a] _ _ hr e0 (hbind s₁ (.ref a)) (.cons rfl .nil) (hsp H hO hS)) fun r s' h=>?_
  cases r with
  | error e=>exact (hCX H e s' h).elim
  | ok fl =>
   cases fl with
   | next=>exact False.elim h
   | brk=>exact False.elim h
   | cont=>exact False.elim h
   | ret u =>
    obtain ⟨v,H',os,bare,un,hok',r',q⟩:=h
    have q':v=.bl true:=q
    subst q'
    obtain rfl:u=Value.bool true:=r'
    refine ⟨rfl,OldK.of_keep fun b o e=>?_,os,bare⟩
    cases q:H b with
    | none=>exact un.keep b o e q (by intro z; exact absurd (show b∈([]:List Addr) from z) (by simp)) (by simp)
    | some u =>
     rcases hO b with z | ⟨ob,xs,z⟩
     ·rw [q] at z; cases z
     ·have z2:=un.frzs b ob _ z
      obtain ⟨e1,_⟩:=hok b _ z
      obtain ⟨e2,_⟩:=hok' b _ z2
      rw [e] at e1; cases e1
      exact e2
 cases hk:K.lookup a with
 | some o =>
  have e:=KX a o hk
  rw [ha] at e
  cases e
  refine core (fun _=>none) (fun _=>.inl rfl) (.inr ⟨_,vs.toArray,_,hk,rfl,rfl,rfl,by rw [List.size_toArray,lenV]; exact hl,by simpa using rv⟩) (fun b u z=>by have z':(none:Option HO)=some u:=z; cases z') (fun b z=>absurd rfl z) fun z=>absurd rfl z
 | none =>
  refine core (fun b=>if b=a then some (.frz { cls:=.type "list",data:=.seq vs.toArray } (.lst (ns.map V.int))) else none) (fun b=>?_) (.inl (.inr ⟨{ cls:=.type "list",data:=.seq vs.toArray },if_pos rfl⟩)) (fun b u z=>?_) (fun b z=>?_) fun _=>hk
  ·by_cases hb:b=a
   ·exact .inr ⟨_,_,if_pos hb⟩
   ·exact .inl (if_neg hb)
  ·by_cases hb:b=a
   ·have z':=(if_pos hb).symm.trans z
    cases z'
    subst hb
    exact ⟨ha,by rw [List.length_map]; exact hl,vs,_,rv,ha⟩
   ·have z':=(if_neg hb).symm.trans z
    cases z'
  ·by_cases hb:b=a
   ·exact hb
   ·exact absurd (if_neg hb) z
end L2
namespace L2
open PySem PySem.Spec PyProof.Rows
theorem walk_of {l:PySem.W.OpenLaw} {n k:Nat} {q:Program} {loose:List Str} {XP:(Str→Option Value)→Heap→Prop} {YP:World→Heap→Prop} {d:DefRec} {K:Params→PySem.W.Frag} {CX:World→CXT} {sp:World→Sp} {x:Str}
  (hn:l.most=some n) (hn2:n≤sizeLine) (hdf:d.params.defaults=[]) (hr:Room k callerA)
  (hY:∀ (w:World) (h:Heap),YP w h→(K w.params).In h)
  (F:∀ (w:World) (mg:Str→Option Value) (fa:Addr) (h:Heap),(K w.params).In h→h.Ns mainGlobals mg→mg d.name=some (.ref fa) →
   ∃ fd:FuncData,(∀ (s:Shared) (u:Value),BindsTo s fd ⟨[u],[]⟩ [(x,u)]) ∧
    ∀ base:Heap,(K w.params).In base→base.Ns mainGlobals mg→FnOk l.prog w (K w.params) mg base (CX w) k fa fd [x] (sp w))
  (hsp:∀ (w:World) (H:Hp) (a:Addr) (ns:List Int),ns.length≤n→Only H→SqL (K w.params) H a (ns.map V.int)→sp w [.ref a] H (fun v _=>v=.bl true) fun _ _ _=>False)
  (hCX:∀ (w:World) (H:Hp) (s:Shared) (e:Value) (s':Shared),CX w [] H s (fun _ _ _=>False) e s'→False) :
  PySem.W.WalkO q loose XP YP l.row.toRowW d [] (fun f vs=>PySem.call f vs):=by
 refine Att.attach_call hn hdf fun w s₀ s₁ mg mb fa o pm cd doc a vs ns G Y ho hd hcd hmg hobj hints hlen hg=>?_
 have KX:=hY w _ Y
 obtain ⟨fd,hb,hF⟩:=F w mg fa _ KX G.T.g hmg
 exact law_call KX G.T.g G.T.b G.T.builtins G.T.nolimit hg hobj hints (Nat.le_trans hlen hn2) hr hF hb (fun H hO hS=>hsp w H a ns hlen hO hS) fun H e s'=>hCX w H s₁ e s'
end L2
namespace L2
open PySem PySem.Spec PyProof.Rows
noncomputable def defArgs (s:Stmt):Arguments:=match s with
 | .FunctionDef _ a _ _ _ _ _ _ _ _=>a
 | _=>{ posonlyargs:=[],args:=[],vararg:=none,kwonlyargs:=[],kw_defaults:=[],kwarg:=none,defaults:=[] }
noncomputable def defBody (s:Stmt):List Stmt:=match s with
 | .FunctionDef _ _ b _ _ _ _ _ _ _=>b
 | _=>[]
noncomputable def defScope (s:Stmt):Scope:=match s with
 | .FunctionDef _ _ _ _ _ _ sc _ _ _=>sc
 | _=>{ kind:=.function,names:=[],isGenerator:=false,isCoroutine:=false }
noncomputable abbrev CX0:CXT:=fun _ _ _ _ _ _=>False
noncomputable abbrev E0:XK:=fun _ _ _=>False
theorem pass0 {X:Cx}:Passes CX0 X E0:=fun _ _ _ _ _ _ _ h=>h.elim
structure Fun (K:PySem.W.Frag) (x qual:Str) (st:Stmt) (f:Addr) (fd:FuncData):Prop where
 ex:∃ (oc:Value) (od:Option Addr) (kV doc pm:Value) (an:Option Addr) (cdv ct:Value) (osl:Array (Option Value)),
  fd=PySem.W.fnOf x qual (defArgs st) (defBody st) (defScope st) .none kV doc pm an cdv ct∧K.lookup f=some ⟨oc,od,.func fd,osl⟩∧PySem.W.codeIn K cdv qual=true
 kp:PySem.W.keepIn K (.ref f)=true
section
variable {P:Program} {w:World} {K:PySem.W.Frag} {mg:Str→Option Value} {base:Heap}
theorem Fun.ok {x qual:Str} {st:Stmt} {f:Addr} {fd:FuncData} {N ps:List Str} {k:Nat} {sp:Sp} (F:Fun K x qual st f fd) (S:FnScope N ps (defScope st)) (len:∀ vs H Q E,sp vs H Q E→vs.length=ps.length)
  (hbody:∀ (cdv:Value) (A:Around) (outer:List Env) (s:Shared) (H:Hp) (vs:List V) (Q:VK) (E:XK),Room k (A.deeper (envOfC qual (defScope st) s.heap.objs.size f cdv))→sp vs H Q E →
   ∃ t,PSs (cxOf CX0 P w K mg base N qual (defScope st) f cdv A outer s H E).nox (defBody st) t∧t { nx:=fun _ H'=>Q .non H',rt:=Q } (start N vs) H):FnOk P w K mg base CX0 (k + 1) f fd ps sp:=by
 obtain ⟨oc,od,kV,doc,pm,an,cdv,ct,osl,rfl,lk,hcd⟩:=F.ex
 refine fn_of lk hcd S len fun A outer s H vs Q E hr hsp=>?_
 obtain ⟨t,h,q⟩:=hbody cdv A outer s H vs Q E hr hsp
 exact ⟨t,h.nox,q⟩
theorem Fun.binds {x qual:Str} {st:Stmt} {f:Addr} {fd:FuncData} {ps:List Str} (F:Fun K x qual st f fd)
  (h:∀ (kV doc pm:Value) (an:Option Addr) (cdv ct:Value) (us:List Value),us.length=ps.length→bindArgs (PySem.W.fnOf x qual (defArgs st) (defBody st) (defScope st) .none kV doc pm an cdv ct) ⟨us,[]⟩=pure (ps.zip us)):Binds K fd ps []:=by
 obtain ⟨oc,od,kV,doc,pm,an,cdv,ct,osl,rfl,lk,hcd⟩:=F.ex
 exact .all (h kV doc pm an cdv ct)
theorem fun_mk {x qual:Str} {st:Stmt} {f:Addr} {oc:Value} {od an:Option Addr} {osl:Array (Option Value)} {kV doc pm cdv ct:Value} (l:K.lookup f=some ⟨oc,od,.func (PySem.W.fnOf x qual (defArgs st) (defBody st) (defScope st) .none kV doc pm an cdv ct),osl⟩)
  (c:PySem.W.codeIn K cdv qual=true) (k:PySem.W.keepIn K (.ref f)=true):Fun K x qual st f (PySem.W.fnOf x qual (defArgs st) (defBody st) (defScope st) .none kV doc pm an cdv ct):=⟨⟨oc,od,kV,doc,pm,an,cdv,ct,osl,rfl,l,c⟩,k⟩
end
section
variable {X:Cx}
end
theorem iteF {A B:Prop} (h:B):if false=true then A else B:=by
 rw [if_neg Bool.false_ne_true]
 exact h
theorem iteT {A B:Prop} (h:A):if true=true then A else B:=by
 rw [if_pos rfl]
 exact h
theorem ite2 {c A B:Prop} [Decidable c] (h1:c→A) (h2:¬ c→B):if c then A else B:=by
 by_cases h:c
 ·rw [if_pos h]
  exact h1 h
 ·rw [if_neg h]
  exact h2 h
noncomputable def Same (H H':Hp):Prop:=∀ b o,H b=some o→H' b=some o
theorem Same.refl (H:Hp):Same H H:=fun _ _ h=>h
theorem Same.trans {H H1 H2:Hp} (a:Same H H1) (b:Same H1 H2):Same H H2:=fun c o h=>b c o (a c o h)
theorem Same.free {H H':Hp} (e:Same H H') {l:Addr} (h:H' l=Option.none):H l=Option.none:=by
 cases q:H l with
 | none=>rfl
 | some o =>
  rw [e l o q] at h
  cases h
theorem Same.seq {K:PySem.W.Frag} {H H':Hp} {a:Addr} {xs:List V} (e:Same H H') (h:SqL K H a xs):SqL K H' a xs:=by
 rcases h with (h | ⟨o,h⟩) | h
 ·exact .inl (.inl (e _ _ h))
 ·exact .inl (.inr ⟨o,e _ _ h⟩)
 ·exact .inr h
end L2
set_option maxHeartbeats 8000000
namespace L2
open PySem PySem.Spec PyProof.Rows
noncomputable def closL (env:Env):List (Str×NameKind)→List (Str×Addr)→List (Str×Addr)
 | [],acc=>acc
 | (n,k) :: r,acc=>closL env r (if k == .free then (match env.cells.lookup n with | some a=>(n,a) :: acc | none=>acc) else acc)
theorem closL_sub {env:Env}:∀ {ns:List (Str×NameKind)} {acc:List (Str×Addr)} {x:Str} {c:Addr},(∀ x c,acc.lookup x=some c→env.cells.lookup x=some c)→(closL env ns acc).lookup x=some c→env.cells.lookup x=some c
 | [],acc,x,c,h,e=>h x c e
 | (n,k) :: r,acc,x,c,h,e=>by
  refine closL_sub (ns:=r) ?_ e
  intro y d
  split
  ·split
   ·rename_i a ha
    intro q
    rw [List.lookup_cons] at q
    split at q
    ·rename_i hy
     have hy':y=n:=by simpa using hy
     subst hy'
     rw [ha]; exact q
    ·exact h y d q
   ·exact h y d
  ·exact h y d
theorem closL_acc {env:Env}:∀ {ns:List (Str×NameKind)} {acc:List (Str×Addr)} {x:Str},(acc.lookup x).isSome=true→((closL env ns acc).lookup x).isSome=true
 | [],acc,x,h=>h
 | (n,k) :: r,acc,x,h=>by
  refine closL_acc (ns:=r) ?_
  split
  ·split
   ·rw [List.lookup_cons]
    split
    ·rfl
    ·exact h
   ·exact h
  ·exact h
theorem closL_has {env:Env}:∀ {ns:List (Str×NameKind)} {acc:List (Str×Addr)} {x:Str},(x,NameKind.free)∈ns→(env.cells.lookup x).isSome=true→((closL env ns acc).lookup x).isSome=true
 | [],acc,x,h,_=>by cases h
 | (n,k) :: r,acc,x,h,hc=>by
  rcases List.mem_cons.mp h with e | e
  ·cases e
   refine closL_acc (ns:=r) ?_
   obtain ⟨a,ha⟩:=Option.isSome_iff_exists.mp hc
   rw [if_pos (by rfl),ha]
   show (List.lookup n ((n,a) :: acc)).isSome=true
   rw [List.lookup_cons]
   simp
  ·exact closL_has (ns:=r) e hc
theorem closureFor_eq {scope:Scope} {env:Env} (h:∀ x∈scope.names,x.2=.free→(env.cells.lookup x.1).isSome=true):closureFor scope env=pure (closL env scope.names []):=by
 have all:∀ (ns:List (Str×NameKind)) (acc:List (Str×Addr)),(∀ x∈ns,x.2=.free→(env.cells.lookup x.1).isSome=true) →
   (forIn ns acc fun (x:Str×NameKind) (cs:List (Str×Addr))=>(if (x.2 == NameKind.free)=true then do let a ← cellOf env x.1; pure (ForInStep.yield ((x.1,a) :: cs)) else pure (ForInStep.yield cs):Sem (ForInStep (List (Str×Addr)))))=pure (closL env ns acc):=by
  intro ns
  induction ns with
  | nil=>intro acc _; rfl
  | cons x r ih =>
   intro acc hx
   obtain ⟨n,k⟩:=x
   rw [List.forIn_cons]
   by_cases hk:(k == NameKind.free)=true
   ·obtain ⟨a,ha⟩:=Option.isSome_iff_exists.mp (hx (n,k) List.mem_cons_self (by simpa using hk))
    have ha:env.cells.lookup n=some a:=ha
    have hcell:cellOf env n=pure a:=by unfold cellOf; rw [ha]
    simp only [hk,if_true,hcell]
    refine Eq.trans (ih ((n,a) :: acc) fun y hy=>hx y (List.mem_cons_of_mem _ hy)) ?_
    conv=>rhs; unfold closL
    simp only [hk,if_true,ha]
   ·simp only [hk]
    refine Eq.trans (ih acc fun y hy=>hx y (List.mem_cons_of_mem _ hy)) ?_
    conv=>rhs; unfold closL
    simp only [hk]
    rfl
 unfold closureFor
 exact (by
  have:=all scope.names [] h
  first | exact this | (simp only [bind_pure] ; exact this) | simpa using this)
noncomputable def cmpCx (X:Cx) (scope:Scope) (C:Addr) (N:List Str) (s₀:Shared) (H₀:Hp) (ex:List Addr):Cx where
 prog:=X.prog
 w:=X.w
 K:=X.K
 mg:=X.mg
 base:=X.base
 A:=X.A
 N:=N
 s₀:=s₀
 H₀:=H₀
 env:=compEnvC scope (closL X.env scope.names []) C X.env
 outer:=X.stack
 stack:=X.stack
 ex:=ex
 fn:=fun _=>false
 calm:=X.calm
 pn:=[]
 xe:=fun _ _=>False
structure CScope (sc:Scope) (env:Env):Prop where
 kind:sc.kind=.function
 nocell:∀ y∈sc.names,y.2≠.cell
 loc:∀ y∈sc.names,y.2=.local→sc.names.lookup y.1=some .local
 free:∀ x∈sc.names,x.2=.free→(env.cells.lookup x.1).isSome=true
theorem lookup_relabel {env:Env}:∀ {names:List (Str×NameKind)} {x:Str} {k:NameKind},((names.map fun (n,k)=>if (k == NameKind.free && env.scope.kind == .function && env.kindOf n == some .cell) then (n,NameKind.cell) else (n,k)).lookup x=some k) →
  ∃ k',names.lookup x=some k'∧(k'=k∨(k'=.free∧k=.cell))
 | [],x,k,h=>by simp at h
 | (n,q) :: r,x,k,h=>by
  have ih:=@lookup_relabel env r x k
  have h:List.lookup x ((if (q == NameKind.free && env.scope.kind == .function && env.kindOf n == some .cell)=true then (n,NameKind.cell) else (n,q)) :: _)=some k:=h
  rw [List.lookup_cons]
  cases hx:x == n with
  | true =>
   by_cases hc:(q == NameKind.free && env.scope.kind == .function && env.kindOf n == some .cell)=true
   ·rw [if_pos hc] at h
    simp only [List.lookup_cons,hx] at h
    refine ⟨q,rfl,.inr ⟨?_,(Option.some.inj h).symm⟩⟩
    simp only [Bool.and_eq_true] at hc
    simpa using hc.1.1
   ·rw [if_neg hc] at h
    simp only [List.lookup_cons,hx] at h
    exact ⟨q,rfl,.inl (Option.some.inj h)⟩
  | false =>
   by_cases hc:(q == NameKind.free && env.scope.kind == .function && env.kindOf n == some .cell)=true
   ·rw [if_pos hc] at h
    simp only [List.lookup_cons,hx] at h
    exact ih h
   ·rw [if_neg hc] at h
    simp only [List.lookup_cons,hx] at h
    exact ih h
noncomputable def Takes (X:Cx) (scope:Scope) (N:List Str) (σ σ0:St):Prop :=
 σ0.length=N.length∧∀ (i:Nat) (x:Str) (v:V),N[i]?=some x→σ0[i]?=some (some v)→∃ j:Nat,X.N[j]?=some x∧σ[j]?=some (some v)∧scope.names.lookup x=some .free∧(X.env.kindOf x=some .cell∨X.env.kindOf x=some .free)
section
variable {X:Cx}
theorem cmp_start {scope:Scope} {N:List Str} {pins:List (Addr×Obj)} {σ σ0:St} {H:Hp} {s:Shared} {h':Heap} {tk:Nat} {fp:List Addr} (I:Inv X pins σ H s) (S:CScope scope X.env) (hf:∀ b∈fp,FpOk X pins H b) (hlt:∀ b∈fp,b < s.heap.objs.size)
  (T:Takes X scope N σ σ0) (hn:h'.Ns s.heap.objs.size (fun _=>none)) (hk:∀ b o,s.heap.get? b=some o→h'.get? b=some o) :
  Inv (cmpCx X scope s.heap.objs.size N s H fp) [] σ0 H { s with heap:=h',toks:=tk }:=by
 have subC:∀ x c,(closL X.env scope.names []).lookup x=some c→X.env.cells.lookup x=some c:=fun x c e=>closL_sub (ns:=scope.names) (acc:=[]) (fun y d z=>by simp at z) e
 have hasC:∀ x,scope.names.lookup x=some .free→∃ c,(closL X.env scope.names []).lookup x=some c:=fun x e=>by
  have m:=PySem.mem_of_lookup e
  exact Option.isSome_iff_exists.mp (closL_has m (S.free _ m rfl))
 have fsN:∀ b∈fp,b ∉ frs X.stack:=fun b hb z=>by
  obtain ⟨_,f1,f2,_⟩:=hf b hb
  rcases List.mem_cons.mp (I.stkSub b z) with e | e
  ·exact f1 e
  ·exact f2 e
 have kinds:∀ x,((relabel scope X.env).names.lookup x=some .cell∨(relabel scope X.env).names.lookup x=some .free)→scope.names.lookup x=some .free:=fun x hx=>by
  rcases hx with hx | hx
  ·obtain ⟨k',e,q⟩:=lookup_relabel hx
   rcases q with q | ⟨q,_⟩
   ·subst q
    exact absurd rfl (S.nocell _ (PySem.mem_of_lookup e))
   ·rw [e,q]
  ·obtain ⟨k',e,q⟩:=lookup_relabel hx
   rcases q with q | ⟨_,q⟩
   ·rw [e,q]
   ·cases q
 have noex:∀ b o,X.base.get? b=some o→b ∉ fp:=fun b o e hb=>by
  obtain ⟨_,_,_,f3,_⟩:=hf b hb
  rcases f3 with z | z
  ·exact I.ok.noex b o e z
  ·exact absurd (Nat.lt_of_lt_of_le (Heap.lt_size e) (Nat.le_trans I.ok.bsz z)) (Nat.lt_irrefl _)
 refine ⟨⟨I.ok.mod,S.kind,I.ok.glob,I.ok.blt,Nat.le_refl _,fun x y c e1 e2=>I.ok.inj x y c (subC x c e1) (subC y c e2),fun x hx=>hasC x (kinds x hx),fun x c z=>absurd (show false=true from z) Bool.false_ne_true,I.ok.hd,I.ok.frames,.inl rfl,
   fun b hb=>⟨Nat.ne_of_lt (hlt b hb),fun x c e=>(hf b hb).2.2.2.2.1 x c (subC x c e)⟩,I.bs,Nat.le_trans I.ok.bsz I.sz,noex,fsN,I.stack,I.stkFree⟩,
  rfl,I.bare,Un.kept hk,⟨_,hn,fun i x v e1 e2 e3=>?_⟩,fun x c e=>?_,I.hok.fresh (Nat.le_refl _),fun x c e=>I.freeC x c (subC x c e),fun p hp=>absurd (show p∈([]:List (Addr×Obj)) from hp) (by simp),I.hok.kept hk,T.1⟩
 ·obtain ⟨j,hj,hs,hfr,hkd⟩:=T.2 i x v e1 e2
  obtain ⟨m,_,hl⟩:=I.loc
  obtain ⟨u,r,l⟩:=hl j x v hj hs (hkd.elim (fun z=>Or.inr (Or.inl z)) fun z=>Or.inr (Or.inr z))
  refine ⟨u,r,.inr ⟨?_,?_⟩⟩
  ·show (relabel scope X.env).names.lookup x=some .cell∨(relabel scope X.env).names.lookup x=some .free
   rcases e3 with z | z | z
   ·obtain ⟨k',e,q⟩:=lookup_relabel (show (relabel scope X.env).names.lookup x=some .local from z)
    rw [hfr] at e
    cases e
    rcases q with q | ⟨_,q⟩ <;> cases q
   ·exact .inl z
   ·exact .inr z
  ·obtain ⟨c,hc⟩:=hasC x hfr
   refine ⟨c,hc,?_⟩
   rcases l with ⟨k,_⟩ | ⟨_,c',e,z⟩
   ·rcases hkd with hkd | hkd <;> (rw [hkd] at k; cases k)
   ·have e':=subC x c hc
    rw [e] at e'
    cases e'
    obtain ⟨o,ho,hd⟩:=z
    exact ⟨o,hk _ o ho,hd⟩
 ·obtain ⟨v,o,ho,hd⟩:=I.cell x c (subC x c e)
  exact ⟨v,o,hk _ o ho,hd⟩
theorem cmp_end {scope:Scope} {N:List Str} {pins pins':List (Addr×Obj)} {σ σ':St} {H H':Hp} {s s':Shared} {h':Heap} {fp:List Addr} (I:Inv X pins σ H s) (hf:∀ b∈fp,FpOk X pins H b)
  (I':Inv (cmpCx X scope s.heap.objs.size N s H fp) pins' σ' H' s') (hs:Heap.SameBut s.heap.objs.size s'.heap h'):Inv X pins σ H' { s' with heap:=h' }:=by
 have hC:H' s.heap.objs.size=none:=I'.free
 have ne:∀ b o,s.heap.get? b=some o→b≠s.heap.objs.size:=fun b o e=>Nat.ne_of_lt (Heap.lt_size e)
 have B:Un (frs X.stack) fp H H' s.heap s'.heap:=I'.base
 refine I.call' (s':={ s' with heap:=h' }) (ch:=fp) I'.os ⟨fun b o e n hb hx=>?_,fun b o e n hb hx=>?_,B.free,fun b o e hx=>?_,B.tups,B.frzs,B.tbls⟩ (fun b o e=>?_) I'.bare (fun b hb=>?_)
 ·exact (hs.2 b (ne b o e)).trans (B.keep b o e n hb hx)
 ·obtain ⟨sl,q⟩:=B.slot b o e n hb hx
  exact ⟨sl,(hs.2 b (ne b o e)).trans q⟩
 ·obtain ⟨o',q⟩:=B.there b o e hx
  exact ⟨o',(hs.2 b (ne b o e)).trans q⟩
 ·refine (I'.hok b o e).stay (fun c w' hc q=>(hs.2 c ?_).trans q) (fun _ q=>q) fun _ _ q=>q
  rintro rfl
  rcases hc with rfl | hc
  ·rw [hC] at e; cases e
  ·rw [hC] at hc; cases hc
 ·obtain ⟨_,f1,_,f3,f4,f5⟩:=hf b hb
  exact ⟨f3,f1,f4,f5⟩
end
end L2
namespace L2
open PySem PySem.Spec PyProof.Rows
section
variable {prog:Program} {w:World} {A:Around} {R:Result→Shared→Prop} {s:Shared}
theorem compLoop_any {elt target iter:Expr} {ifs:List Expr} {scope:Scope} {pos:Pos} {it acc:Value} {env:Env} (I:Nat→Shared→Prop)
  (turn:∀ n s,I n s→wpAny (model prog w) A (pyNext it) (fun r s₁=>match r with
   | none=>R (.ok .next) s₁
   | some v=>wpAny (model prog w) A (letOwnedTupleGo target it v) (fun _ s₁'=>wpAny (model prog w) A (assign target env v) (fun _ s₂ =>
     wpAny (model prog w) A (forIn ifs true fun c r=>if r=true then do let ok ← isTrue c env (eval c env); pure (ForInStep.yield ok) else pure (ForInStep.yield r)) (fun ok s₃ =>
      if ok=true then wpAny (model prog w) A (eval elt env) (fun x s₄ =>
       wpAny (model prog w) A (call (.builtin "list.append") [acc,x]) (fun _ s₅=>∃ m,m < n∧I m s₅) (fun _ _=>False) s₄) (fun _ _=>False) s₃
      else ∃ m,m < n∧I m s₃) (fun _ _=>False) s₂) (fun _ _=>False) s₁') (fun _ _=>False) s₁) (fun _ _=>False) s)
  (n:Nat) (h:I n s):codeAny (model prog w) A (.compLoop (.ListComp elt [⟨target,iter,ifs,0⟩] scope pos) 0 it acc env) R s:=by
 refine codeAny_loop rfl I (fun n s hI=>?_) n h
 show wpAny _ A ((compTurn (.ListComp elt [⟨target,iter,ifs,0⟩] scope pos) 0 it acc env).onRaise (fun x=>do noteFrame x env; theTreesLotGoes x)) _ _ s
 refine wpAny_noted ?_
 rw [compTurn_list]
 have up:∀ {α:Type} {t:Sem α} {Q:α→Shared→Prop} {s:Shared} {E:Value→Shared→Prop},wpAny (model prog w) A t Q (fun _ _=>False) s→wpAny (model prog w) A t Q E s:=fun h=>wpAny_noRaise h
 refine wpAny_bind (wpAny_standAt (wpAny_bind (up (thn (turn n s hI) fun r s₁ h₁=>?_))))
 cases r with
 | none=>exact wpAny_pure h₁
 | some v =>
  refine wpAny_bind (up (thn h₁ fun _ s₁' h₁'=>?_))
  refine wpAny_bind (up (thn h₁' fun _ s₂ h₂=>wpAny_bind (up (thn h₂ fun ok s₃ h₃=>?_))))
  cases ok with
  | false=>exact wpAny_pure ⟨rfl,h₃⟩
  | true =>
   exact wpAny_bind (wpAny_bind (up (thn h₃ fun x s₄ h₄=>wpAny_bind (up (thn h₄ fun _ s₅ h₅=>wpAny_pure (wpAny_pure ⟨rfl,h₅⟩))))))
end
noncomputable def CompW (J:It) (g:TG) (tt:TT) (te:TE) (σ0:St) (H1:Hp) (D:Addr) (Q:VK):Prop :=
 ∃ W:Nat→Nat→St→Hp→Prop,(∃ m,W 0 m σ0 (upd H1 D (.lst [])))∧∀ i m σ' H',W i m σ' H' →
  (J.stop i H'∧Q (.ref D) H')∨(J.go i H'∧∃ N:St→Hp→Prop,(∀ σ2 H2,N σ2 H2→∃ m',m' < m∧W (i + 1) m' σ2 H2)∧∀ x H2,J.yld i H' x H2→g x σ' H2 fun σ2 H3=>tt σ2 H3 fun b H4 =>
   if b=true then te σ2 H4 fun y H5=>∃ ys,H5 D=some (.lst ys)∧ys.length < sizeLine∧N σ2 (upd H5 D (.lst (ys++[y]))) else N σ2 H4)
noncomputable def tComp (wi:TI) (σ0:St→St) (g:TG) (tt:TT) (te:TE):TE:=fun σ H Q=>wi σ H fun J H1=>∀ D,H1 D=none→CompW J g tt te (σ0 σ) H1 D Q
noncomputable def PTs (X:Cx) (ifs:List Expr) (t:TT):Prop :=
 ∀ (pins:List (Addr×Obj)) (s:Shared) (σ:St) (H:Hp) (Q:Bool→Hp→Prop),Inv X pins σ H s→t σ H Q →
  wpAny (model X.prog X.w) X.A (forIn ifs true fun c r=>if r=true then do let ok ← isTrue c X.env (eval c X.env); pure (ForInStep.yield ok) else pure (ForInStep.yield r)) (TP X pins σ Q) X.xe s
noncomputable def tYes:TT:=fun _ H Q=>Q true H
theorem pts_nil {X:Cx}:PTs X [] tYes:=fun _ _ _ H _ I h=>wpAny_tests_nil ⟨H,I,h⟩
section
variable {X:Cx} {elt target iter:Expr} {ifs:List Expr} {scope:Scope} {pos:Pos} {N:List Str} {wi:TI} {σ0:St→St} {g:TG} {tt:TT} {te:TE}
theorem comp_block {pins:List (Addr×Obj)} {σ:St} {H:Hp} {s:Shared} {it:Addr} {fp:List Addr} {tn:Nat→Heap→Prop} {J:It} {Q:Addr→Hp→Prop} {RR:Value→Addr→Result→Shared→Prop} {E:Value→Shared→Prop}
  (hc:X.calm=true) (S:CScope scope X.env) (T:Takes X scope N σ (σ0 σ)) (I:Inv X pins σ H s) (Tn:Turn X.prog X.w X.K target J fp it tn) (st:tn 0 s.heap) (hf:∀ b∈fp,FpOk X pins H b)
  (hg:∀ C s H fp,PG (cmpCx X scope C N s H fp) target g) (ht:∀ C s H fp,PTs (cmpCx X scope C N s H fp) ifs tt) (he:∀ C s H fp,PE (cmpCx X scope C N s H fp) elt te)
  (hw:∀ D,H D=none→∃ W:Nat→Nat→St→Hp→Prop,(∃ m,W 0 m (σ0 σ) (upd H D (.lst [])))∧∀ i m σ' H',W i m σ' H' →
   (J.stop i H'∧Q D H')∨(J.go i H'∧∃ N:St→Hp→Prop,(∀ σ2 H2,N σ2 H2→∃ m',m' < m∧W (i + 1) m' σ2 H2)∧∀ x H2,J.yld i H' x H2→g x σ' H2 fun σ2 H3=>tt σ2 H3 fun b H4 =>
    if b=true then te σ2 H4 fun y H5=>∃ ys,H5 D=some (.lst ys)∧ys.length < sizeLine∧N σ2 (upd H5 D (.lst (ys++[y]))) else N σ2 H4))
  (hR:∀ (D C:Addr) (H':Hp) (s':Shared) (m:Str→Option Value),s.heap.objs.size≤C→H' C=none→s'.heap.Ns C m→(∀ h',Heap.SameBut C s'.heap h'→Inv X pins σ H' { s' with heap:=h' })→Q D H'→RR (.ref D) C (.ok .next) s') :
  wpAny (model X.prog X.w) X.A (newList []) (fun acc s₃=>wpAny (model X.prog X.w) X.A (newFunctionEnv scope X.env.globals (closL X.env scope.names []) [] X.env.qual none .none (some X.env)) (fun cenv s₄ =>
   codeAny (model X.prog X.w) X.A (.compStart (.ListComp elt [⟨target,iter,ifs,0⟩] scope pos) 0 (.ref it) acc { cenv with scope:=relabel scope X.env }) (RR acc cenv.locals) s₄) E s₃) E s:=by
 refine wpAny_newObj_type (wpAny_newFunctionEnv S.nocell (by intro y hy; simp at hy) (fun h₁ hns₁ hsb₁=>?_) S.kind)
 have hD:H s.heap.objs.size=none:=I.hok.fresh (Nat.le_refl _)
 have I3:Inv X pins σ (upd H s.heap.objs.size (.lst [])) { s with heap:=s.heap.push { cls:=.type "list",dict:=none,data:=.seq ([]:List Value).toArray } }:=I.lnew (ys:=[]) (its:=[]) (t':=s.toks) .nil (by simp)
 have hlt:∀ b∈fp,b < s.heap.objs.size:=fun b hb=>by obtain ⟨o,e,_⟩:=Tn.obj _ _ st b hb; exact Heap.lt_size e
 have hf3:∀ b∈fp,FpOk X pins (upd H s.heap.objs.size (.lst [])) b:=fun b hb=>⟨by rw [upd_ne (Nat.ne_of_lt (hlt b hb))]; exact (hf b hb).1,(hf b hb).2⟩
 have hlt3:∀ b∈fp,b < ({ s with heap:=s.heap.push { cls:=.type "list",dict:=none,data:=.seq ([]:List Value).toArray } }:Shared).heap.objs.size:=fun b hb=>by
  show b < (s.heap.push _).objs.size
  rw [Heap.size_push]
  exact Nat.lt_succ_of_lt (hlt b hb)
 have hk1:∀ b o,({ s with heap:=s.heap.push { cls:=.type "list",dict:=none,data:=.seq ([]:List Value).toArray } }:Shared).heap.get? b=some o→h₁.get? b=some o:=fun b o e =>
  hsb₁.extBut b o (Nat.ne_of_lt (Heap.lt_size e)) (Heap.get?_push_of_some _ e)
 have I4:=cmp_start (N:=N) (tk:=s.toks + ([]:List (Str×Value)).length) I3 S hf3 hlt3 T hns₁ hk1
 have st4:tn 0 h₁:=Tn.keep _ _ _ st fun b hb o e=>hk1 b o (Heap.get?_push_of_some _ e)
 obtain ⟨W,⟨m0,w0⟩,turn⟩:=hw _ hD
 generalize hX:cmpCx X scope ({ s with heap:=s.heap.push { cls:=.type "list",dict:=none,data:=.seq ([]:List Value).toArray } }:Shared).heap.objs.size N { s with heap:=s.heap.push { cls:=.type "list",dict:=none,data:=.seq ([]:List Value).toArray } } (upd H s.heap.objs.size (.lst [])) fp=X' at I4
 have eP:X'.prog=X.prog:=by rw [← hX]; rfl
 have eW:X'.w=X.w:=by rw [← hX]; rfl
 have eK:X'.K=X.K:=by rw [← hX]; rfl
 have eA:X'.A=X.A:=by rw [← hX]; rfl
 have eC:X'.calm=true:=by rw [← hX]; exact hc
 have eX:X'.xe=fun _ _=>False:=by rw [← hX]; rfl
 have eEx:X'.ex=fp:=by rw [← hX]; rfl
 have hg':PG X' target g:=by rw [← hX]; exact hg _ _ _ _
 have ht':PTs X' ifs tt:=by rw [← hX]; exact ht _ _ _ _
 have he':PE X' elt te:=by rw [← hX]; exact he _ _ _ _
 have eE:X'.env=compEnvC scope (closL X.env scope.names []) ({ s with heap:=s.heap.push { cls:=.type "list",dict:=none,data:=.seq ([]:List Value).toArray } }:Shared).heap.objs.size X.env:=by rw [← hX]; rfl
 have fpIn:∀ {H':Hp},(∀ b∈fp,H' b=none)→∀ b∈fp,FpOk X' [] H' b:=fun {H'} hn b hb=>by
  obtain ⟨f0,f1,f2,f3,f4,f5⟩:=hf3 b hb
  rw [← hX]
  refine ⟨hn b hb,Nat.ne_of_lt (hlt3 b hb),fun z=>?_,.inl hb,fun x c e=>f4 x c (closL_sub (ns:=scope.names) (acc:=[]) (fun y d z=>by simp at z) e),fun p hp=>absurd (show p∈([]:List (Addr×Obj)) from hp) (by simp)⟩
  rcases List.mem_cons.mp (I3.stkSub b z) with e | e
  ·exact f1 e
  ·exact f2 e
 have fr0:∀ b∈fp,upd H s.heap.objs.size (.lst []) b=none:=fun b hb=>(hf3 b hb).1
 have loop:codeAny (model X.prog X.w) X.A (.compLoop (.ListComp elt [⟨target,iter,ifs,0⟩] scope pos) 0 (.ref it) (.ref s.heap.objs.size) X'.env)
   (RR (.ref s.heap.objs.size) ({ s with heap:=s.heap.push { cls:=.type "list",dict:=none,data:=.seq ([]:List Value).toArray } }:Shared).heap.objs.size)
   { s with heap:=h₁,toks:=s.toks + ([]:List (Str×Value)).length }:=by
  refine compLoop_any (fun n s'=>∃ i σ' H',Inv X' [] σ' H' s'∧tn i s'.heap∧(∀ b∈fp,H' b=none)∧W i n σ' H') ?_ m0 ⟨0,σ0 σ,_,I4,st4,fr0,w0⟩
  rintro n s5 ⟨i,σ5,H5,I5,st5,fr5,w5⟩
  rcases turn i n σ5 H5 w5 with ⟨stop,qn⟩ | ⟨go,Nx,hN,step⟩
  ·have q:=Tn.done X' eP eW eK eC i [] s5 σ5 H5 (fun _ _=>False) I5 (fpIn fr5) st5 stop
   rw [eA] at q
   refine thn q fun r s6 ⟨hr,I6⟩=>?_
   subst hr
   obtain ⟨mm,hns6,_⟩:=I6.loc
   rw [eE] at hns6
   have fr6:=I6.free
   rw [eE] at fr6
   refine hR _ _ H5 s6 mm ?_ fr6 hns6 (fun h' hs=>?_) qn
   ·show s.heap.objs.size≤(s.heap.push _).objs.size
    rw [Heap.size_push]
    exact Nat.le_succ _
   ·rw [← hX] at I6
    exact cmp_end I3 hf3 I6 hs
  ·have q:=Tn.item X' eP eW eK eC i [] s5 σ5 H5 (fun _ _=>False) I5 (fpIn fr5) st5 go
   rw [eA] at q
   refine thn q fun r s6 ⟨u,hr,h6⟩=>?_
   subst hr
   refine thn h6 fun _ s7 ⟨x,H7,I7,r7,y7,st7,fr7⟩=>?_
   have I7':=I7.pinned (fpIn fr7) (Tn.obj _ _ st7)
   have q8:=hg' _ s7 σ5 H7 x u _ I7' r7 (step x H7 y7)
   rw [eP,eW,eA,eX] at q8
   refine thn q8 fun _ s8 ⟨σ8,H8,I8,q8⟩=>?_
   have q9:=ht' _ s8 σ8 H8 _ I8 q8
   rw [eP,eW,eA,eX] at q9
   refine thn q9 fun ok s9 ⟨H9,I9,q9⟩=>?_
   have again:∀ {σ10:St} {H10:Hp} {s10:Shared},Inv X' ([]++pinsAt fp s7.heap) σ10 H10 s10→Nx σ10 H10→∃ m,m < n∧∃ i σ' H',Inv X' [] σ' H' s10∧tn i s10.heap∧(∀ b∈fp,H' b=none)∧W i m σ' H':=fun {σ10 H10 s10} J10 n10=>by
    obtain ⟨m',hm,w10⟩:=hN σ10 H10 n10
    refine ⟨m',hm,i + 1,σ10,H10,J10.unpinned,Tn.keep _ _ _ st7 fun b hb o e=>(J10.pin (b,o) (List.mem_append_right _ (List.mem_append_right _ (mem_pinsAt hb e)))).1,fun b hb=>?_,w10⟩
    obtain ⟨o,e,d⟩:=Tn.obj _ _ st7 b hb
    exact (J10.pin (b,o) (List.mem_append_right _ (List.mem_append_right _ (mem_pinsAt hb e)))).2.1
   cases ok with
   | false =>
    have q9':Nx σ8 H9:=q9
    exact again I9 q9'
   | true =>
    have q9':te σ8 H9 _:=q9
    have q10:=he' _ s9 σ8 H9 _ I9 q9'
    rw [eP,eW,eA,eX] at q10
    refine thn q10 fun y s10 ⟨yv,H10,I10,r10,ys,hys,hz,n10⟩=>?_
    have q11:=(mt_append (X:=X')) _ s10 σ8 H10 (.ref s.heap.objs.size) [yv] (.ref s.heap.objs.size) [y] (fun _ H11=>Nx σ8 H11) I10 rfl (.cons r10 .nil) ⟨_,ys,yv,rfl,rfl,hys,hz,n10⟩
    rw [eP,eW,eA,eX] at q11
    exact thn q11 fun _ s11 ⟨_,H11,I11,_,n11⟩=>again I11 n11
 rw [eE] at loop
 exact codeAny_compStart_list loop (Tn.self _ 0 _ _ _ st4 loop)
theorem pe_comp (hc:X.calm=true) (S:CScope scope X.env) (hi:PI X target iter wi) (T:∀ σ,σ.length=X.N.length→Takes X scope N σ (σ0 σ))
  (hg:∀ C s H fp,PG (cmpCx X scope C N s H fp) target g) (ht:∀ C s H fp,PTs (cmpCx X scope C N s H fp) ifs tt) (he:∀ C s H fp,PE (cmpCx X scope C N s H fp) elt te)
  (hs:∀ x,foldedSetIterable iter X.env x=pure x:=by intro _; rfl):PE X (.ListComp elt [⟨target,iter,ifs,0⟩] scope pos) (tComp wi σ0 g tt te):=by
 intro pins s σ H Q I h
 rw [eval_ListComp]
 refine wpAny_comprehension_free (use:=none) rfl hs (closureFor_eq S.free) S.kind S.loc (thn (hi pins s σ H _ I h) fun xv s₁ h₁=>thn h₁ fun itv s₂ h₂=>?_)
 obtain ⟨it,fp,tn,J,H2,rfl,I2,Tn,st2,f2,hw⟩:=h₂
 refine comp_block (Q:=fun D H'=>Q (.ref D) H') (RR:=fun acc C=>compPost (model X.prog X.w) X.A X.xe none (EP X pins σ Q) acc C) hc S (T σ I.len) I2 Tn st2 f2 hg ht he hw ?_
 intro D C H' s' m hC _ hn hI hq
 exact ⟨m,hn,fun h' hs'=>⟨.ref D,H',hI h' hs',rfl,hq⟩⟩
end
end L2
namespace L2
open PySem PySem.Spec PyProof.Rows
section
variable {X:Cx}
theorem op_in_sign:OpR X (compareOp .In) (fun x y H Q=>∃ (c:Nat) (j:Str),x=.str ⟨#[c]⟩∧y=.str j∧Q (.bl (decide (c∈j.cps.toList))) H):=by
 intro pins s σ H x y v u Q I rx ry h
 obtain ⟨c,j,rfl,rfl,q⟩:=h
 exact op_in_str pins s σ H _ _ v u Q I rx ry ⟨_,_,rfl,rfl,by rw [StrLaws.found_one]; exact q⟩
noncomputable def rSlS:V→Option Int→Option Int→Hp→VK→Prop:=fun x lo hi H Q=>∃ z,x=.str z∧z.length≤sizeLine∧Q (.str (Txt.slice z lo hi)) H
theorem sl_str:SlR X rSlS:=by
 intro pins s σ H x v vl vu lo hi sl Q I rx hs pl pu h
 obtain ⟨z,rfl,hz,q⟩:=h
 obtain ⟨t,rfl⟩:=rx
 obtain ⟨o,ho,hc,hd⟩:=hs
 refine ⟨"str",_,slot_str_getitem.lookup,typeIs_str _ _ _,?_⟩
 cases pl with
 | none =>
  cases pu with
  | none=>exact wpAny_getItem_str_slice (l:=none) (u:=none) (st:=none) ⟨_,ho,hc,hd⟩ rfl (post_val_or_str ⟨Nat.le_trans (Txt.slice_le z _ _) hz,fun t' k=>⟨.str (Txt.slice z _ _),H,I.tok k,⟨t',rfl⟩,q⟩⟩)
  | int j u=>exact wpAny_getItem_str_slice (l:=none) (u:=some (j,u)) (st:=none) ⟨_,ho,hc,hd⟩ rfl (post_val_or_str ⟨Nat.le_trans (Txt.slice_le z _ _) hz,fun t' k=>⟨.str (Txt.slice z _ _),H,I.tok k,⟨t',rfl⟩,q⟩⟩)
 | int i ti =>
  cases pu with
  | none=>exact wpAny_getItem_str_slice (l:=some (i,ti)) (u:=none) (st:=none) ⟨_,ho,hc,hd⟩ rfl (post_val_or_str ⟨Nat.le_trans (Txt.slice_le z _ _) hz,fun t' k=>⟨.str (Txt.slice z _ _),H,I.tok k,⟨t',rfl⟩,q⟩⟩)
  | int j u=>exact wpAny_getItem_str_slice (l:=some (i,ti)) (u:=some (j,u)) (st:=none) ⟨_,ho,hc,hd⟩ rfl (post_val_or_str ⟨Nat.le_trans (Txt.slice_le z _ _) hz,fun t' k=>⟨.str (Txt.slice z _ _),H,I.tok k,⟨t',rfl⟩,q⟩⟩)
end
end L2
namespace L2
open PySem PySem.Spec PyProof.Rows
noncomputable def Its (z:Str):It:=⟨fun i _=>i < z.cps.size,fun i H x H'=>H'=H∧∃ c,z.cps.toList[i]?=some c∧x=.str ⟨#[c]⟩,fun i _=>i=z.cps.size⟩
theorem strIter_ty (z:Str):["enumerate", "zip", "dict_itemiterator", "dict_reverseitemiterator", "odict_iterator", "itertools.zip_longest", "itertools.pairwise"].contains (strIterType z)=false:=by
 unfold strIterType
 cases z.cps.all (· < 128) <;> decide
theorem walks_str {P:Program} {w:World} {A:Around} (hh:A.handled=none) (it:Addr) (z:Str) (t:Tok):Walks P w A it [it] [it] z.cps.size (SignAt z) (fun i h=>h.IsStrIter it (strIterType z) z t i):=by
 unfold strIterType
 cases z.cps.all (· < 128)
 ·exact Walks.strWide hh it z t
 ·exact Walks.strAscii hh it z t
theorem turn_str {P:Program} {w:World} {K:PySem.W.Frag} {tg:Expr} (it:Addr) (z:Str) (t:Tok):Turn P w K tg (Its z) [it] it (fun i h=>h.IsStrIter it (strIterType z) z t i) where
 mem:=by simp
 obj:=fun i h st b hb=>by
  have e:b=it:=by simpa using hb
  subst e
  obtain ⟨o,e,c,d⟩:=st
  exact ⟨o,e,fun v z=>by rw [d] at z; cases z⟩
 keep:=fun i h h' st k=>let ⟨o,e,r⟩:=st; ⟨o,k it (by simp) o e,r⟩
 item:=by
  intro X hP hw hK hc i pins s σ H E I hf st hg
  subst hP hw hK
  obtain ⟨f0,f1,f2,f3,f4,f5⟩:=hf it (by simp)
  refine (walks_str (P:=X.prog) (w:=X.w) (I.ok.hd hc) it z t).item i s _ _ hg st fun v h' tk hv st' kk=>?_
  obtain ⟨c,u,hcu,rfl⟩:=hv
  have I1:Inv X pins σ H { s with heap:=h',toks:=tk }:=I.turned (fun b o hb e=>kk b o (by simpa using hb) e) f0 f1 f3 f4 f5
  obtain ⟨o,e,cc,d⟩:=id st'
  exact ⟨_,rfl,go_of (s:={ s with heap:=h',toks:=tk }) e cc d (strIter_ty z) ⟨.str ⟨#[c]⟩,H,I1,⟨u,rfl⟩,⟨rfl,c,by simpa using hcu,rfl⟩,st',fun b hb=>(hf b hb).1⟩⟩
 done:=by
  intro X hP hw hK hc i pins s σ H E I hf st hg
  subst hP hw hK
  obtain ⟨f0,f1,f2,f3,f4,f5⟩:=hf it (by simp)
  have hg:i=z.cps.size:=hg
  subst hg
  exact (walks_str (P:=X.prog) (w:=X.w) (I.ok.hd hc) it z t).done s _ _ st fun h' tk kk=>⟨rfl,I.turned (fun b o hb e=>kk b o (by simpa using hb) e) f0 f1 f3 f4 f5⟩
 self:=fun A i s Q E st h=>by
  obtain ⟨o,e,c,d⟩:=st
  unfold strIterType at c
  cases ha:z.cps.all (· < 128)
  ·rw [ha] at c; exact wpAny_pyIter_striter_wide ⟨o,e,c,d⟩ h
  ·rw [ha] at c; exact wpAny_pyIter_striter_ascii ⟨o,e,c,d⟩ h
section
variable {X:Cx} {tg:Expr}
end
section
variable {g:TG} {tt:TT} {te:TE} {σ0:St} {H1:Hp} {D:Addr} {Q:VK}
noncomputable def CompT (g:TG) (tt:TT) (te:TE) (D:Addr) (Nx:List V→St→Hp→Prop) (x:V) (σ:St) (H:Hp):Prop :=
 g x σ H fun σ2 H3=>tt σ2 H3 fun b H4=>if b=true then te σ2 H4 fun y H5=>∃ ys,H5 D=some (.lst ys)∧ys.length < sizeLine∧(∃ zs,upd H5 D (.lst (ys++[y])) D=some (.lst zs)∧Nx zs σ2 (upd H5 D (.lst (ys++[y])))) else ∃ zs,H4 D=some (.lst zs)∧Nx zs σ2 H4
theorem comp_list {K:PySem.W.Frag} {a:Addr} {xs:List V} (Pv:Nat→List V→St→Hp→Prop) (h0:Pv 0 [] σ0 (upd H1 D (.lst []))) (hl:∀ i ys σ H,i≤xs.length→Pv i ys σ H→SqL K H a xs)
  (hs:∀ i x ys σ H,xs[i]?=some x→H D=some (.lst ys)→Pv i ys σ H→CompT g tt te D (Pv (i + 1)) x σ H)
  (hd:∀ ys σ H,H D=some (.lst ys)→Pv xs.length ys σ H→Q (.ref D) H):CompW (Itl K a) g tt te σ0 H1 D Q:=by
 refine ⟨fun i m σ H=>m=xs.length - i∧i≤xs.length∧∃ ys,H D=some (.lst ys)∧Pv i ys σ H,⟨xs.length,by simp,Nat.zero_le _,[],upd_same,h0⟩,?_⟩
 rintro i m σ H ⟨rfl,hi,ys,hD,p⟩
 have q:=hl i ys σ H hi p
 by_cases hlt:i < xs.length
 ·refine .inr ⟨⟨xs,xs[i],q,by simp [hlt]⟩,fun σ2 H2=>∃ zs,H2 D=some (.lst zs)∧Pv (i + 1) zs σ2 H2,fun σ' H' p'=>⟨xs.length - (i + 1),by omega,rfl,hlt,p'⟩,fun x H' y=>?_⟩
  obtain ⟨e,y⟩:=y
  subst e
  exact hs i x ys σ _ (y xs q) hD p
 ·have e:i=xs.length:=by omega
  subst e
  exact .inl ⟨⟨xs,q,Nat.le_refl _⟩,hd ys σ H hD p⟩
end
section
variable {X:Cx}
theorem vals_bl:∀ {bs:List Bool} {us:List Value},Vals (bs.map V.bl) us→us=bs.map Value.bool
 | [],_,.nil=>rfl
 | b :: bs,_,.cons r t=>by
  cases r
  rw [vals_bl t]
  rfl
theorem range_all {bs:List Bool}:(List.range bs.length).all (fun i=>bs.getD i true)=bs.all id:=by
 induction bs with
 | nil=>rfl
 | cons b r ih =>
  rw [List.length_cons,List.range_succ_eq_map,List.all_cons,List.all_map,List.all_cons]
  have:((fun i=>(b :: r).getD i true) ∘ Nat.succ)=fun i=>r.getD i true:=by
   funext i
   simp
  rw [this,ih]
  rfl
theorem call_all (hc:X.calm=true):CallR X (.builtin "all") (fun xs H Q=>∃ (p:Addr) (bs:List Bool),xs=[.ref p]∧SqL X.K H p (bs.map V.bl)∧Q (.bl (bs.all id)) H):=by
 intro pins s σ H xs us Q I r h
 obtain ⟨p,bs,rfl,hq,q⟩:=h
 obtain ⟨u,rfl,ru⟩:=r.one
 cases ru
 obtain ⟨its,rv,pl,hz⟩:=I.list hq
 obtain rfl:=vals_bl rv
 refine call_all_walk (wpAny_pyIter_list pl.isList ?_)
 have hlt:p < s.heap.objs.size:=by obtain ⟨o,e,_⟩:=pl.isList; exact Heap.lt_size e
 have hl':(s.heap.push { cls:=.type "list_iterator",data:=.fields #[.ref p,rawInt 0] }).IsList p (bs.map Value.bool).toArray:=pl.isList.at fun o e=>Heap.get?_push_of_some _ e
 refine ⟨s.heap.objs.size,_,_,_,_,_,fun i=>bs.getD i true,rfl,Walks.list (A:=X.A.in1) (show X.A.in1.handled=none from I.ok.hd hc) s.heap.objs.size p (Nat.ne_of_lt hlt) (bs.map Value.bool).toArray,⟨⟨_,Heap.get?_push_size _ rfl,rfl,rfl⟩,?_⟩,?_,?_⟩
 ·exact pl.isList.at fun o e=>Heap.get?_push_of_some _ e
 ·intro i v s' Q' E' hv hQ
  have hv':(bs.map Value.bool)[i]?=some v:=by simpa using hv
  rw [List.getElem?_map] at hv'
  cases e:bs[i]? with
  | none=>rw [e] at hv'; cases hv'
  | some b =>
   rw [e] at hv'
   cases hv'
   have:bs.getD i true=b:=by simp [List.getD,e]
   have hQ:Q' (bs.getD i true) s':=hQ
   rw [this] at hQ
   exact wpAny_truthy_bool hQ
 ·intro h' tk hk
  have I1:Inv X pins σ H { s with heap:=s.heap.push { cls:=.type "list_iterator",data:=.fields #[.ref p,rawInt 0] } }:=I.kept (t':=s.toks) fun b o e=>Heap.get?_push_of_some _ e
  have F:=I.fpOk (Nat.le_refl s.heap.objs.size) (I.hok.fresh (Nat.le_refl _))
  obtain ⟨f0,f1,f2,f3,f4,f5⟩:=F
  have I2:Inv X pins σ H { s with heap:=h',toks:=tk }:=Inv.turned (s:={ s with heap:=s.heap.push { cls:=.type "list_iterator",data:=.fields #[.ref p,rawInt 0] } }) (h':=h') (t':=tk) (it:=s.heap.objs.size) I1 (fun b o hb e=>hk b o (by simpa using hb) e) f0 f1 f3 f4 f5
  refine ⟨.bl (bs.all id),H,I2,?_,q⟩
  show Value.bool _=Value.bool _
  have:(bs.map Value.bool).toArray.size=bs.length:=by simp
  rw [this,range_all]
end
end L2
namespace L2
open PySem PySem.Spec PyProof.Rows
theorem Same.upd {H:Hp} {p:Addr} {o:HO} (h:H p=none):Same H (upd H p o):=fun b u e=>by rw [upd_ne (ne_of_none e h)]; exact e
theorem Same.put {H0 H:Hp} {p:Addr} {o:HO} (s:Same H0 H) (h:H p=none):Same H0 (L2.upd H p o):=s.trans (Same.upd h)
theorem Same.over {H0 H:Hp} {p:Addr} {o:HO} (s:Same H0 H) (h:H0 p=none):Same H0 (L2.upd H p o):=fun b u e=>by rw [upd_ne (ne_of_none e h)]; exact s b u e
theorem Same.tup {K:PySem.W.Frag} {H H':Hp} {a:Addr} {xs:List V} (e:Same H H') (h:SqT K H a xs):SqT K H' a xs:=by
 rcases h with (h | ⟨o,h⟩) | h
 ·exact .inl (.inl (e _ _ h))
 ·exact .inl (.inr ⟨o,e _ _ h⟩)
 ·exact .inr h
theorem cscope_fn {sc out:Scope} {qual:Str} {n:Nat} {f:Addr} {cd:Value} (hk:sc.kind=.function) (hc:(sc.names.all fun y=>y.2 != .cell)=true)
  (hl:(sc.names.all fun y=>y.2 != .local || sc.names.lookup y.1 == some .local)=true) (hf:(sc.names.all fun y=>y.2 != .free || out.names.lookup y.1 == some .cell)=true):CScope sc (envOfC qual out n f cd) where
 kind:=hk
 nocell:=fun y hy e=>by have:=List.all_eq_true.mp hc y hy; rw [e] at this; cases this
 loc:=fun y hy e=>by
  have:=List.all_eq_true.mp hl y hy
  rw [e] at this
  simpa using this
 free:=fun y hy e=>by
  have h:=List.all_eq_true.mp hf y hy
  rw [e] at h
  have h:out.names.lookup y.1=some .cell:=by simpa using h
  obtain ⟨c,hc⟩:=cell_has (n:=n + 1) h
  show ((cellsFrom (n + 1) out.names []).lookup y.1).isSome=true
  rw [hc]
  rfl
noncomputable def capSt (k:Nat) (cap:List Nat) (σ:St):St:=List.replicate k none++cap.map fun j=>(σ[j]?).join
theorem takes_of {X:Cx} {scope:Scope} {N:List Str} {k:Nat} {cap:List Nat} {σ:St} (hl:k + cap.length=N.length)
  (h:∀ (i j:Nat) (x:Str),cap[i]?=some j→N[k + i]?=some x→X.N[j]?=some x∧scope.names.lookup x=some .free∧(X.env.kindOf x=some .cell∨X.env.kindOf x=some .free)):Takes X scope N σ (capSt k cap σ):=by
 refine ⟨by unfold capSt; simp [hl],fun i x v hx hv=>?_⟩
 unfold capSt at hv
 by_cases hi:i < k
 ·rw [List.getElem?_append_left (by simpa using hi),List.getElem?_replicate,if_pos hi] at hv
  cases hv
 ·rw [List.getElem?_append_right (by simpa using hi),List.length_replicate,List.getElem?_map] at hv
  cases hj:cap[i - k]? with
  | none=>rw [hj] at hv; cases hv
  | some j =>
   rw [hj] at hv
   have hv:(σ[j]?).join=some v:=Option.some.inj hv
   obtain ⟨h1,h2,h3⟩:=h (i - k) j x hj (by rw [show k + (i - k)=i by omega]; exact hx)
   refine ⟨j,h1,?_,h2,h3⟩
   cases e:σ[j]? with
   | none=>rw [e] at hv; cases hv
   | some o=>rw [e] at hv; exact congrArg some hv
theorem takes_in {X:Cx} {scope:Scope} {N:List Str} {k:Nat} {cap:List Nat} (hl:k + cap.length=N.length)
  (h:((cap.zip (N.drop k)).all fun p=>X.N[p.1]? == some p.2 && scope.names.lookup p.2 == some .free && (X.env.kindOf p.2 == some .cell || X.env.kindOf p.2 == some .free))=true):∀ σ,σ.length=X.N.length→Takes X scope N σ (capSt k cap σ):=fun σ _ =>
 takes_of hl fun i j x hj hx=>by
  have m:(j,x)∈cap.zip (N.drop k):=by
   refine List.mem_of_getElem? (i:=i) ?_
   rw [List.getElem?_zip_eq_some]
   exact ⟨hj,by rw [List.getElem?_drop]; exact hx⟩
  have:=List.all_eq_true.mp h _ m
  simp only [Bool.and_eq_true,Bool.or_eq_true,beq_iff_eq] at this
  exact ⟨this.1.1,this.1.2,this.2⟩
theorem atI_in {α:Type} {xs:List α} {i:Int} (h0:0≤i) (h1:i < xs.length):∃ v,atI xs i=some v∧v∈xs:=by
 have hj:i.toNat < xs.length:=by omega
 refine ⟨xs[i.toNat],?_,List.getElem_mem hj⟩
 have:=atI_nat (xs:=xs) (j:=i.toNat) (v:=xs[i.toNat]) (by simp [hj])
 rwa [Int.toNat_of_nonneg h0] at this
noncomputable def constV:Expr→Option V
 | .Constant (.str x) _ _=>some (.str x)
 | .Constant (.int i) _ _=>some (.int i)
 | .Constant (.bool b) _ _=>some (.bl b)
 | .Constant .none _ _=>some .non
 | _=>none
noncomputable def constsV:List Expr→Option (List V)
 | []=>some []
 | e :: es=>match constV e,constsV es with
  | some v,some vs=>some (v :: vs)
  | _,_=>none
noncomputable def tVals (xs:List V):TA:=fun _ H Q=>Q xs H
theorem constV_ok {X:Cx} {e:Expr} {v:V} (h:constV e=some v):PE X e (tC v)∧∀ es,starEach (e :: es) X.env=(false,eval e X.env) :: starEach es X.env:=by
 unfold constV at h
 split at h
 ·cases h; exact ⟨pe_str,fun _=>rfl⟩
 ·cases h; exact ⟨pe_int,fun _=>rfl⟩
 ·cases h; exact ⟨pe_bl,fun _=>rfl⟩
 ·cases h; exact ⟨pe_non,fun _=>rfl⟩
 ·cases h
theorem pa_consts {X:Cx}:∀ {es:List Expr} {xs:List V},constsV es=some xs→PA X es (tVals xs)
 | [],xs,h=>by
  have h:some []=some xs:=h
  cases h
  exact pa_nil
 | e :: es,xs,h=>by
  unfold constsV at h
  split at h
  ·rename_i v vs h1 h2
   cases h
   obtain ⟨p,hs⟩:=constV_ok (X:=X) h1
   exact pa_cons p (pa_consts h2) (hs es)
  ·cases h
structure Callee (P:Program) (w:World) (K:PySem.W.Frag) (mg:Str→Option Value) (base:Heap) (k:Nat) (x:Str) (ps:List Str) (sp:Sp):Prop where
 ex:∃ (f:Addr) (fd:FuncData),FnOk P w K mg base CX0 k f fd ps sp∧mg x=some (.ref f)∧PySem.W.keepIn K (.ref f)=true∧Binds K fd ps []
section
variable {X:Cx} {k:Nat} {x:Str} {ps:List Str} {sp:Sp} {p pos:Pos} {e:Expr} {es:List Expr} {t:TA}
theorem pe_fn (C:Callee X.prog X.w X.K X.mg X.base k x ps sp) (hr:Room k X.A) (ha:PA X (e :: es) t) (hg:Gl X x:=by rfl) (hdb:(x == ("__debug__" : Str))=false:=by decide)
  (he:starEach (e :: es) X.env=(false,eval e X.env) :: starEach es X.env:=by rfl) (hpl:(backTo pos (starEach es X.env)).any (·.1)=false:=by rfl):PE X (.Call (.Name x p) (e :: es) [] pos) (tCall sp [] E0 t):=by
 obtain ⟨f,fd,F,hm,hk,hb⟩:=C.ex
 exact pe_call F hr hg hm hk hb .nil pass0 ha hdb he hpl
end
end L2
namespace L2
open PySem
theorem relV_abs {x:V} {u:Value} (h:absV u=some x):RelV x u:=by
 cases u <;> simp only [absV] at h <;> first | (cases h; first | rfl | exact ⟨_,rfl⟩) | cases h
noncomputable def absAll:List Value→Option (List V)
 | []=>some []
 | u :: r=>match absV u,absAll r with
  | some x,some xs=>some (x :: xs)
  | _,_=>none
theorem vals_abs:∀ {us:List Value} {xs:List V},absAll us=some xs→Vals xs us
 | [],xs,h=>by
  have h:some []=some xs:=h
  cases h
  exact .nil
 | u :: r,xs,h=>by
  unfold absAll at h
  split at h
  ·rename_i x ys h1 h2
   cases h
   exact .cons (relV_abs h1) (vals_abs h2)
  ·cases h
theorem top_tuple {K:PySem.W.Frag} {a:Addr} {od:Option Addr} {its:Array Value} {n:Nat} {sl:Array (Option Value)} {xs:List V} (l:K.lookup a=some ⟨.type "tuple",od,.seq its n,sl⟩) (h:absAll its.toList=some xs) (hz:xs.length≤1000):∀ H,SqT K H a xs:=fun H=>by
 have v:=vals_abs h
 refine .inr ⟨_,its,n,l,rfl,rfl,?_,v⟩
 have e:=v.length
 have b:1000≤sizeLine:=by decide
 have e2:its.toList.length=its.size:=Array.length_toList
 omega
theorem callee_of {P:Program} {w:World} {K:PySem.W.Frag} {mg:Str→Option Value} {base:Heap} {k:Nat} {x:Str} {ps:List Str} {sp:Sp} {f:Addr} {fd:FuncData} (F:FnOk P w K mg base CX0 k f fd ps sp) (m:mg x=some (.ref f)) (kp:PySem.W.keepIn K (.ref f)=true) (b:Binds K fd ps []):Callee P w K mg base k x ps sp:=⟨f,fd,F,m,kp,b⟩
section
variable {P:Program} {w:World} {K:PySem.W.Frag} {mg:Str→Option Value} {base:Heap}
end
end L2
set_option autoImplicit true
namespace L2
open PySem PySem.Spec PyProof.Rows
structure QE (X:Cx) (e:Expr) (t:TE):Prop where
 run:PE X e t
structure QT (X:Cx) (e:Expr) (t:TT):Prop where
 run:PT X e t
structure QW (X:Cx) (e:Expr) (t:TT):Prop where
 run:PW X e t
structure QA (X:Cx) (es:List Expr) (t:TA):Prop where
 run:PA X es t
structure QS (X:Cx) (st:Stmt) (t:TS):Prop where
 run:PS X st t
structure QSs (X:Cx) (sts:List Stmt) (t:TS):Prop where
 run:PSs X sts t
structure QG (X:Cx) (e:Expr) (g:TG):Prop where
 run:PG X e g
structure QGs (X:Cx) (es:List Expr) (g:TGs):Prop where
 run:PGs X es g
structure QI (X:Cx) (tg iter:Expr) (wi:TI):Prop where
 run:PI X tg iter wi
structure QC (X:Cx) (op:CmpOp) (a b:Expr) (t:TE):Prop where
 run:PC X op a b t
structure QO (X:Cx) (e:Option Expr) (t:TO):Prop where
 run:PO X e t
structure QTs (X:Cx) (ifs:List Expr) (t:TT):Prop where
 run:PTs X ifs t
theorem qe_int {i j pos}:QE X (.Constant (.int i) j pos) (tC (.int i)):=⟨pe_int⟩
theorem qe_bl {b j pos}:QE X (.Constant (.bool b) j pos) (tC (.bl b)):=⟨pe_bl⟩
theorem qe_non {j pos}:QE X (.Constant .none j pos) (tC .non):=⟨pe_non⟩
theorem qe_str {x j pos}:QE X (.Constant (.str x) j pos) (tC (.str x)):=⟨pe_str⟩
theorem qe_glob {x:Str} {v:V} {u:Value} {pos:Pos} (hg:Gl X x) (hm:X.mg x=some u) (r:RelV v u) (hd:(x == ("__debug__" : Str))=false:=by decide):QE X (.Name x pos) (tC v):=⟨pe_glob hg hm r hd⟩
theorem qe_bltn {x:Str} {v:V} {u:Value} {pos:Pos} (hg:Gl X x) (hm:X.mg x=none) (hv:bootBuiltins x=some u) (r:RelV v u) (hn:x ≠ "__name__" := by decide) (hd:(x == ("__debug__" : Str))=false:=by decide):QE X (.Name x pos) (tC v):=⟨pe_bltn hg hm hv r hn hd⟩
theorem qe_op {op:Operator} {r:R2} (ho:OpR X (binaryOp op) r) (ha:QE X a ta) (hb:QE X b tb):QE X (.BinOp a op b pos) (tOp r ta tb):=⟨pe_op ho ha.run hb.run⟩
theorem qe_un {op:UnaryOp} {r:V→Hp→VK→Prop} (ho:UnR X (unaryOp op) r) (ha:QE X a ta):QE X (.UnaryOp op a pos) (tUn r ta):=⟨pe_un ho ha.run⟩
theorem qe_cmp {op:CmpOp} {t:TE} (h:QC X op a b t) (h1:behindInMarks op b=false:=by first | exact nobehind _ (by decide) (by decide) | rfl):QE X (.Compare a [op] [b] pos) t:=⟨pe_cmp h.run h1⟩
theorem qt_cmp {op:CmpOp} {t:TE} (h:QC X op a b t) (h1:behindInMarks op b=false:=by first | exact nobehind _ (by decide) (by decide) | rfl):QT X (.Compare a [op] [b] pos) (tB t):=⟨pt_cmp h.run h1⟩
theorem qe_cmpR {op:CmpOp} {r:R2} (ho:OpR X (compareOp op) r) (ha:QE X a ta) (hb:QE X b tb) (hm:behindInMarks op b=false):QE X (.Compare a [op] [b] pos) (tOp r ta tb):=⟨pe_cmpR ho ha.run hb.run hm⟩
theorem qt_cmpR {op:CmpOp} {r:R2} (ho:OpR X (compareOp op) r) (ha:QE X a ta) (hb:QE X b tb) (hm:behindInMarks op b=false):QT X (.Compare a [op] [b] pos) (tTest (tOp r ta tb)):=⟨pt_cmpR ho ha.run hb.run hm⟩
theorem qt_val {e:Expr} {t:TE} (h:QE X e t) (he:∀ whole,isTrue e X.env whole=(do let v ← whole; standAt e.pos; holding [v] (truthy v)):=by intro _; rfl):QT X e (tB t):=⟨pt_val h.run he⟩
theorem qw_and1 (ha:QT X a tA):QW X (.BoolOp .And [a] pos) tA:=⟨pw_and1 ha.run⟩
theorem qw_or1 (ha:QT X a tA):QW X (.BoolOp .Or [a] pos) tA:=⟨pw_or1 ha.run⟩
theorem qw_and {rest:List Expr} (ha:QT X a tA) (hb:QW X (.BoolOp .And (b :: rest) pos) tB'):QW X (.BoolOp .And (a :: b :: rest) pos) (tAnd tA tB'):=⟨pw_and ha.run hb.run⟩
theorem qw_or {rest:List Expr} (ha:QT X a tA) (hb:QW X (.BoolOp .Or (b :: rest) pos) tB'):QW X (.BoolOp .Or (a :: b :: rest) pos) (tOr tA tB'):=⟨pw_or ha.run hb.run⟩
theorem qt_not (ha:QT X a tA):QT X (.UnaryOp .Not a pos) (tNot tA):=⟨pt_not ha.run⟩
theorem qe_one {op} {t:TE} (h:QE X a t):QE X (.BoolOp op [a] pos) t:=⟨pe_one h.run⟩
theorem qe_and {rest:List Expr} (ha:QE X a ta) (hb:QE X (.BoolOp .And (b :: rest) pos) tb):QE X (.BoolOp .And (a :: b :: rest) pos) (tAndV ta tb):=⟨pe_and ha.run hb.run⟩
theorem qe_or {rest:List Expr} (ha:QE X a ta) (hb:QE X (.BoolOp .Or (b :: rest) pos) tb):QE X (.BoolOp .Or (a :: b :: rest) pos) (tOrV ta tb):=⟨pe_or ha.run hb.run⟩
theorem qe_not (ha:QE X a ta):QE X (.UnaryOp .Not a pos) (tNotV ta):=⟨pe_not ha.run⟩
theorem qe_ifExp {c:Expr} (hc:QT X c tA) (ha:QE X a ta) (hb:QE X b tb):QE X (.IfExp c a b pos) (tIf tA ta tb):=⟨pe_ifExp hc.run ha.run hb.run⟩
theorem qss_nil  : QSs X [] tNext:=⟨pss_nil⟩
theorem qss_cons {st:Stmt} {rest:List Stmt} {t u:TS} (h1:QS X st t) (h2:QSs X rest u):QSs X (st :: rest) (tSeq t u):=⟨pss_cons h1.run h2.run⟩
theorem qss_one {st:Stmt} {t:TS} (h1:QS X st t):QSs X [st] t:=⟨pss_one h1.run⟩
theorem qs_expr {e:Expr} {te:TE} (he:QE X e te) (hs:swapsWith e none pos.line X.env=pure false:=by rfl):QS X (.Expr e pos) (tDrop te):=⟨ps_expr he.run hs⟩
theorem qs_ret {e:Expr} {te:TE} (he:QE X e te):QS X (.Return (some e) pos) (tRet te):=⟨ps_ret he.run⟩
theorem qs_if {t u:TS} {c:Expr} {a b:List Stmt} {tc:TT} (hc:QT X c tc) (ha:QSs X a t) (hb:QSs X b u):QS X (.If c a b pos) (tIfS tc t u):=⟨ps_if hc.run ha.run hb.run⟩
theorem qgs_nil  : QGs X [] gNil:=⟨pgs_nil⟩
theorem qgs_cons {e:Expr} {es:List Expr} {t:TG} {u:TGs} (h1:QG X e t) (h2:QGs X es u) (hs:(assignEach (e :: es) X.env).map (·.2)=assign e X.env :: (assignEach es X.env).map (·.2):=by rfl):QGs X (e :: es) (gCons t u):=⟨pgs_cons h1.run h2.run hs⟩
theorem qg_name {i:Nat} {x:Str} (hN:X.N.Nodup) (hi:X.N[i]?=some x) (hx:Loc X.env.scope x) (hf:X.fn x=true∨X.env.scope.names.lookup x=some .local:=by first | exact .inl rfl | exact .inr rfl | assumption):QG X (.Name x pos) (gName i):=⟨pg_name hN hi hx hf⟩
theorem qg_tup {es:List Expr} {k:Nat} {t:TGs} {n:Nat} (hc:X.calm=true) (h:QGs X es t) (hn:(assignEach es X.env).length=n:=by rfl) (hst:(assignEach es X.env).findIdx? (·.1)=none:=by rfl):QG X (.Tuple es k pos) (gTup X.K n t):=⟨pg_tup hc h.run hn hst⟩
theorem qs_asg {tg e:Expr} {te:TE} {g:TG} (he:QE X e te) (hg:QG X tg g) (hs:swapsWithSole [tg] e pos.line X.env=pure false:=by rfl) (hw:swappedStores [tg] e X.env=pure none:=by rfl) (h1:(assignEach [tg] X.env).map (·.2)=[assign tg X.env]:=by rfl):QS X (.Assign [tg] e pos) (tAsg te g):=⟨ps_asg he.run hg.run hs hw h1⟩
theorem qs_set {i:Nat} {x:Str} {e:Expr} {te:TE} {pos':Pos} (hN:X.N.Nodup) (hi:X.N[i]?=some x) (hx:Loc X.env.scope x) (he:QE X e te) (hs:swapsWith e (some (.Name x pos')) pos.line X.env=pure false:=by rfl) (hf:X.fn x=true∨X.env.scope.names.lookup x=some .local:=by first | exact .inl rfl | exact .inr rfl | assumption):QS X (.Assign [.Name x pos'] e pos) (tAsg te (gName i)):=⟨ps_set hN hi hx he.run hs hf⟩
theorem qs_while {c:Expr} {body:List Stmt} {tc:TT} {tb:TS} (hp:PassesOwn (model X.prog X.w) X.A X.env X.xe) (hc:QT X c tc) (hb:QSs X body tb):QS X (.While c body [] pos) (tWhile tc tb):=⟨ps_while hp hc.run hb.run⟩
theorem qi_range1 {a:Expr} {ta:TA} {p pos:Pos} (hg:Gl X "range") (hm:X.mg "range" = none) (ha:QA X [a] ta) (hs:starEach [a] X.env=[(false,eval a X.env)]:=by rfl):QI X tg (.Call (.Name "range" p) [a] [] pos) (iRng1 ta):=⟨pi_range1 hg hm ha.run hs⟩
theorem qs_for {iter:Expr} {body:List Stmt} {wi:TI} {g:TG} {tb:TS} {pos:Pos} (hp:PassesOwn (model X.prog X.w) X.A X.env X.xe) (hc:X.calm=true) (hi:QI X tg iter wi) (hg:QG X tg g) (hb:QSs X body tb) (hs:∀ x,foldedSetIterable iter X.env x=pure x:=by intro _; rfl):QS X (.For tg iter body [] pos) (tFor wi g tb):=⟨ps_for hp hc hi.run hg.run hb.run hs⟩
theorem qe_fld (he:QE X e ta) (hb:attributeBase e f X.env (eval e X.env)=eval e X.env):QE X (.Attribute e f pos) (tFld X.K ta f):=⟨pe_fld he.run hb⟩
theorem qs_fld (ha:QE X o ta) (hv:QE X value tv) (hs:swapsWith value (some (.Attribute o f pos')) pos.line X.env=pure false):QS X (.Assign [.Attribute o f pos'] value pos) (sFld X.K ta tv f):=⟨ps_fld ha.run hv.run hs⟩
theorem qa_nil  : QA X [] tNil:=⟨pa_nil⟩
theorem qa_cons (ha:QE X e te) (hr:QA X es t) (hs:starEach (e :: es) X.env=(false,eval e X.env) :: starEach es X.env:=by rfl):QA X (e :: es) (tCons te t):=⟨pa_cons ha.run hr.run hs⟩
theorem qe_tup {x1} (h:QA X es t):QE X (.Tuple es x1 pos) (tTup t):=⟨pe_tup h.run⟩
theorem qe_lst (h:QA X es t):QE X (.List es pos) (tLst t):=⟨pe_lst h.run⟩
theorem qe_fn (C:Callee X.prog X.w X.K X.mg X.base k x ps sp) (hr:Room k X.A) (ha:QA X (e :: es) t) (hg:Gl X x:=by rfl) (hdb:(x == ("__debug__" : Str))=false:=by decide) (he:starEach (e :: es) X.env=(false,eval e X.env) :: starEach es X.env:=by rfl) (hpl:(backTo pos (starEach es X.env)).any (·.1)=false:=by rfl):QE X (.Call (.Name x p) (e :: es) [] pos) (tCall sp [] E0 t):=⟨pe_fn C hr ha.run hg hdb he hpl⟩
theorem qe_callB {id:String} (hc:CallR X (.builtin id) r) (hg:Gl X x) (hm:X.mg x=none) (hv:bootBuiltins x=some (.builtin id)) (ha:QA X (e :: es) t) (hn:x ≠ "__name__" := by decide) (hdb:(x == ("__debug__" : Str))=false:=by decide) (he:starEach (e :: es) X.env=(false,eval e X.env) :: starEach es X.env:=by rfl) (hpl:(backTo pos (starEach es X.env)).any (·.1)=false:=by rfl):QE X (.Call (.Name x p) (e :: es) [] pos) (tCB r t):=⟨pe_callB hc hg hm hv ha.run hn hdb he hpl⟩
theorem qe_callTy {T:String} (hc:CallR X (.type T) r) (hg:Gl X x) (hm:X.mg x=none) (hv:bootBuiltins x=some (.type T)) (ha:QA X (e :: es) t) (hn:x ≠ "__name__" := by decide) (hdb:(x == ("__debug__" : Str))=false:=by decide) (he:starEach (e :: es) X.env=(false,eval e X.env) :: starEach es X.env:=by rfl) (hpl:(backTo pos (starEach es X.env)).any (·.1)=false:=by rfl):QE X (.Call (.Name x p) (e :: es) [] pos) (tCB r t):=⟨pe_callTy hc hg hm hv ha.run hn hdb he hpl⟩
theorem qo_none  : QO X none tNoPart:=⟨po_none⟩
theorem qo_some (h:QE X e te):QO X (some e) (tPart te):=⟨po_some h.run⟩
theorem qe_slice {lo hi:Option Expr} {r:V→Option Int→Option Int→Hp→VK→Prop} (hr:SlR X r) (he:QE X e te) (hl:QO X lo tl) (hu:QO X hi th):QE X (.Subscript e (.Slice lo hi none p2) pos) (tSl r te tl th):=⟨pe_slice hr he.run hl.run hu.run⟩
theorem qe_ix {r:R2} (hr:IxR X r) (ha:QE X a ta) (hb:QE X b tb) (hs:PlainIx b):QE X (.Subscript a b pos) (tOp r ta tb):=⟨pe_ix hr ha.run hb.run hs⟩
theorem qe_bm {T id:String} (pa:PlainAttrs T) (slot:Slot T name id) (hty:typeOf (.builtin id)=pure (.type "method_descriptor")) (hm:MtR X id r) (ho:QE X o to) (ha:QA X (e :: es) t) (hbase:attributeBase o name X.env (eval o X.env)=eval o X.env:=by rfl) (hfew:((backTo cpos (starEach (e :: es) X.env)).all (fun x=>!x.1) && (backToKw cpos (keywordEach [] X.env)).all (fun x=>x.1.isSome)
   && decide ((e :: es).length + ([]:List Keyword).length + (if ([]:List Keyword).isEmpty then 0 else 1) < 30))=true:=by rfl) (hline:(apos.endLine == cpos.line)=true:=by rfl) (hs:starEach (e :: es) X.env=(false,eval e X.env) :: starEach es X.env:=by rfl) (hplain:(backTo cpos (starEach es X.env)).any (·.1)=false:=by rfl):QE X (.Call (.Attribute o name apos) (e :: es) [] cpos) (tBM X.K T r to t):=⟨pe_bm pa slot hty hm ho.run ha.run hbase hfew hline hs hplain⟩
theorem qe_bm0 {T id:String} (pa:PlainAttrs T) (slot:Slot T name id) (hty:typeOf (.builtin id)=pure (.type "method_descriptor")) (hm:MtR X id r) (ho:QE X o to) (hbase:attributeBase o name X.env (eval o X.env)=eval o X.env:=by rfl) (hline:(apos.endLine == cpos.line)=true:=by rfl):QE X (.Call (.Attribute o name apos) [] [] cpos) (tBM0 X.K T r to):=⟨pe_bm0 pa slot hty hm ho.run hbase hline⟩
theorem qe_comp (hc:X.calm=true) (S:CScope scope X.env) (hi:QI X target iter wi) (T:∀ σ,σ.length=X.N.length→Takes X scope N σ (σ0 σ)) (hg:∀ C s H fp,QG (cmpCx X scope C N s H fp) target g) (ht:∀ C s H fp,QTs (cmpCx X scope C N s H fp) ifs tt) (he:∀ C s H fp,QE (cmpCx X scope C N s H fp) elt te) (hs:∀ x,foldedSetIterable iter X.env x=pure x:=by intro _; rfl):QE X (.ListComp elt [⟨target,iter,ifs,0⟩] scope pos) (tComp wi σ0 g tt te):=⟨pe_comp hc S hi.run T (fun C s H fp=>(hg C s H fp).run) (fun C s H fp=>(ht C s H fp).run) (fun C s H fp=>(he C s H fp).run) hs⟩
theorem qts_nil {X:Cx}:QTs X [] tYes:=⟨pts_nil⟩
theorem qc_isN {j pos'} (ha:QE X a ta):QC X .Is a (.Constant .none j pos') (tIsN ta):=⟨pc_isN ha.run⟩
end L2
namespace L2
open PySem PySem.Spec PyProof.Rows
theorem qa_consts {X:Cx} {es:List Expr} {xs:List V} (h:constsV es=some xs):QA X es (tVals xs):=⟨pa_consts h⟩
theorem qv {X:Cx} (i:Nat) {x:Str} {pos:Pos} (hN:X.N[i]?=some x:=by rfl) (hv:Vis X.env.scope x:=by first | exact Or.inl rfl | exact Or.inr (Or.inl rfl) | exact Or.inr (Or.inr rfl)) (hd:(x == ("__debug__" : Str))=false:=by decide)
  (hcd:(x == ("__classdict__" : Str))=false:=by decide):QE X (.Name x pos) (tVar i):=⟨pe_var hN hv hd hcd⟩
theorem QW.qt {X:Cx} {e:Expr} {t:TT} (h:QW X e t):QT X e t:=⟨h.run.pt⟩
section
variable {P:Program} {w:World} {K:PySem.W.Frag} {mg:Str→Option Value} {base:Heap}
theorem Fun.okq {x qual:Str} {st:Stmt} {f:Addr} {fd:FuncData} {N ps:List Str} {k:Nat} {sp:Sp} (F:Fun K x qual st f fd) (S:FnScope N ps (defScope st)) (len:∀ vs H Q E,sp vs H Q E→vs.length=ps.length)
  (hbody:∀ (cdv:Value) (A:Around) (outer:List Env) (s:Shared) (H:Hp) (vs:List V) (Q:VK) (E:XK),Room k (A.deeper (envOfC qual (defScope st) s.heap.objs.size f cdv))→sp vs H Q E →
   ∃ t,QSs (cxOf CX0 P w K mg base N qual (defScope st) f cdv A outer s H E).nox (defBody st) t∧t { nx:=fun _ H'=>Q .non H',rt:=Q } (start N vs) H):FnOk P w K mg base CX0 (k + 1) f fd ps sp :=
 F.ok S len fun cdv A outer s H vs Q E hr h=>by
  obtain ⟨t,q,r⟩:=hbody cdv A outer s H vs Q E hr h
  exact ⟨t,q.run,r⟩
end
end L2
namespace L2
open PySem PySem.Spec PyProof.Rows
section
variable {X:Cx}
noncomputable def rAddS:R2:=fun x y H Q=>∃ i j,x=.str i∧y=.str j∧i.length + j.length≤sizeLine∧Q (.str (i++j)) H
noncomputable def rCatA (K:PySem.W.Frag):R2:=fun x y H Q=>∃ a b xs ys,x=.ref a∧y=.ref b∧SqT K H a xs∧SqT K H b ys∧xs.length + ys.length≤sizeLine ∧
 ∀ r H',Same H H'→SqT K H' r (xs++ys)→Q (.ref r) H'
theorem op_catA:OpR X (binaryOp .Add) (rCatA X.K):=by
 intro pins s σ H x y v u Q I rx ry h
 obtain ⟨a,b,xs,ys,rfl,rfl,ha,hb,hz,q⟩:=h
 by_cases hx:xs=[]
 ·subst hx
  cases rx
  cases ry
  obtain ⟨its,r1,p1,_⟩:=I.tuple ha
  obtain ⟨its2,r2,p2,_⟩:=I.tuple hb
  cases r1
  obtain ⟨⟨cls,dd,data,sl⟩,ho,hc,n,hd⟩:=id p1
  obtain ⟨⟨cls2,dd2,data2,sl2⟩,ho2,hc2,n2,hd2⟩:=id p2
  simp only at hc hd hc2 hd2
  subst hc hd hc2 hd2
  exact concat_meets ⟨_,ho,rfl⟩ ⟨_,ho2,rfl⟩ noFill_tuple_add seq_tuple_add PySem.F.slot_tuple_add PySem.F.entry_tuple_add (PySem.F.args_tuple_add_2 _ _)
   (tuple_addW0 a b _ _ n n2 dd dd2 sl sl2 (by simp)) ⟨ho,ho2,⟨.ref b,H,I,rfl,q b H (Same.refl H) hb⟩⟩
 ·refine op_catT pins s σ H _ _ v u Q I rx ry ⟨a,b,xs,ys,rfl,rfl,ha,hb,hx,hz,fun e=>?_,fun _ p hp=>q p _ (fun c o e=>by rw [upd_ne (ne_of_none e hp)]; exact e) (.inl (.inl upd_same))⟩
  subst e
  exact q a H (Same.refl H) (by rw [List.append_nil]; exact ha)
noncomputable def rAddA (K:PySem.W.Frag):R2:=fun x y H Q=>rI0 (fun i j=>.int (i + j)) x y H Q∨rAddS x y H Q∨rCat x y H Q∨rCatA K x y H Q
theorem op_addA:OpR X (binaryOp .Add) (rAddA X.K):=op_add.or (op_add_str.or (op_cat.or op_catA))
theorem s_add_int {K:PySem.W.Frag} {i j:Int} {H:Hp} {Q:VK} (h:Q (.int (i + j)) H):rAddA K (.int i) (.int j) H Q:=.inl ⟨i,j,rfl,rfl,h⟩
theorem s_add_str {K:PySem.W.Frag} {i j:Str} {H:Hp} {Q:VK} (hl:i.length + j.length≤sizeLine) (h:Q (.str (i++j)) H):rAddA K (.str i) (.str j) H Q:=.inr (.inl ⟨i,j,rfl,rfl,hl,h⟩)
theorem s_add_lst {K:PySem.W.Frag} {a b:Addr} {xs ys:List V} {H:Hp} {Q:VK} (ha:H a=some (.lst xs)) (hb:H b=some (.lst ys)) (hz:xs.length + ys.length≤sizeLine) (h:∀ p,H p=none→Q (.ref p) (upd H p (.lst (xs++ys)))):rAddA K (.ref a) (.ref b) H Q:=.inr (.inr (.inl ⟨a,b,xs,ys,rfl,rfl,ha,hb,hz,h⟩))
noncomputable def rMulA:R2:=fun x y H Q=>rI CMul (fun i j=>.int (i * j)) x y H Q∨rRep x y H Q
theorem op_mulA:OpR X (binaryOp .Mult) rMulA:=op_mul.or op_rep
theorem s_mul_l {i j:Int} {H:Hp} {Q:VK} (h1:-(2 ^ 64) < i) (h2:i < 2 ^ 64) (h:Q (.int (i * j)) H):rMulA (.int i) (.int j) H Q:=.inl ⟨i,j,rfl,rfl,.inl ⟨h1,h2⟩,h⟩
theorem s_mul_r {i j:Int} {H:Hp} {Q:VK} (h1:-(2 ^ 64) < j) (h2:j < 2 ^ 64) (h:Q (.int (i * j)) H):rMulA (.int i) (.int j) H Q:=.inl ⟨i,j,rfl,rfl,.inr ⟨h1,h2⟩,h⟩
theorem s_rI {C:Int→Int→Prop} {g:Int→Int→V} {i j:Int} {H:Hp} {Q:VK} (hc:C i j) (h:Q (g i j) H):rI C g (.int i) (.int j) H Q:=⟨i,j,rfl,rfl,hc,h⟩
theorem s_rI0 {g:Int→Int→V} {i j:Int} {H:Hp} {Q:VK} (h:Q (g i j) H):rI0 g (.int i) (.int j) H Q:=⟨i,j,rfl,rfl,h⟩
theorem s_rU {g:Int→V} {i:Int} {H:Hp} {Q:VK} (h:Q (g i) H):rU g (.int i) H Q:=⟨i,rfl,h⟩
noncomputable def rLtA:R2:=fun x y H Q=>rI0 (fun i j=>.bl (decide (i < j))) x y H Q∨∃ i j,x=.str i∧y=.str j∧Q (.bl (decide (i.cps.toList < j.cps.toList))) H
theorem op_ltA:OpR X (compareOp .Lt) rLtA:=op_lt.or op_lt_str
theorem s_lt {i j:Int} {H:Hp} {Q:VK} (h:Q (.bl (decide (i < j))) H):rLtA (.int i) (.int j) H Q:=.inl ⟨i,j,rfl,rfl,h⟩
noncomputable def rInS (neg:Bool):R2:=fun x y H Q=>∃ (c:Nat) (j:Str),x=.str ⟨#[c]⟩∧y=.str j∧Q (.bl (if neg then !decide (c∈j.cps.toList) else decide (c∈j.cps.toList))) H
theorem op_inS:OpR X (compareOp .In) (rInS false):=op_in_sign
noncomputable def rInA (K:PySem.W.Frag) (neg:Bool):R2:=fun x y H Q=>rIn K neg x y H Q∨rInS neg x y H Q
theorem op_inA:OpR X (compareOp .In) (rInA X.K false):=op_in_seq.or op_inS
theorem s_in_seq {K:PySem.W.Frag} {neg:Bool} {x:V} {p:Addr} {xs:List V} {H:Hp} {Q:VK} (hq:SqL K H p xs∨SqT K H p xs) (hx:flatV x=true) (hxs:xs.all flatV=true) (h:Q (.bl (if neg then !inV x xs else inV x xs)) H):rInA K neg x (.ref p) H Q:=.inl ⟨p,xs,rfl,hq,hx,hxs,h⟩
noncomputable def rSlA (K:PySem.W.Frag):V→Option Int→Option Int→Hp→VK→Prop:=fun x lo hi H Q=>rSlL K x lo hi H Q∨rSlS x lo hi H Q∨rSlT K x lo hi H Q
theorem sl_any:SlR X (rSlA X.K):=sl_list.or (sl_str.or sl_tup)
theorem s_sl_lst {K:PySem.W.Frag} {a:Addr} {xs:List V} {lo hi:Option Int} {H:Hp} {Q:VK} (ha:SqL K H a xs) (h:∀ p,H p=none→Q (.ref p) (upd H p (.lst (cutV xs lo hi)))):rSlA K (.ref a) lo hi H Q:=.inl ⟨a,xs,rfl,ha,h⟩
theorem s_ix_lst {K:PySem.W.Frag} {a:Addr} {xs:List V} {i:Int} {v:V} {H:Hp} {Q:VK} (ha:SqL K H a xs) (hv:atI xs i=some v) (h:Q v H):rIx K (.ref a) (.int i) H Q:=.inl ⟨a,xs,i,v,rfl,rfl,ha,hv,h⟩
theorem s_ix_tup {K:PySem.W.Frag} {a:Addr} {xs:List V} {i:Int} {v:V} {H:Hp} {Q:VK} (ha:SqT K H a xs) (hv:atI xs i=some v) (h:Q v H):rIx K (.ref a) (.int i) H Q:=.inr (.inl ⟨a,xs,i,v,rfl,rfl,ha,hv,h⟩)
theorem s_ix_str {K:PySem.W.Frag} {z:Str} {i:Int} {c:Nat} {H:Hp} {Q:VK} (hl:z.length≤sizeLine) (hv:atI z.cps.toList i=some c) (h:Q (.str ⟨#[c]⟩) H):rIx K (.str z) (.int i) H Q:=.inr (.inr ⟨z,i,c,rfl,rfl,hl,hv,h⟩)
noncomputable def rLen (K:PySem.W.Frag):List V→Hp→VK→Prop:=fun xs H Q=>∃ x n,xs=[x]∧LenV K x H n∧Q (.int n) H
theorem call_lenA:CallR X (.builtin "len") (rLen X.K):=call_len
theorem s_len_lst {K:PySem.W.Frag} {a:Addr} {xs:List V} {H:Hp} {Q:VK} (ha:SqL K H a xs) (h:Q (.int xs.length) H):rLen K [.ref a] H Q:=⟨_,_,rfl,.inl ⟨xs,ha,rfl⟩,h⟩
theorem s_len_tup {K:PySem.W.Frag} {a:Addr} {xs:List V} {H:Hp} {Q:VK} (ha:SqT K H a xs) (h:Q (.int xs.length) H):rLen K [.ref a] H Q:=⟨_,_,rfl,.inr ⟨xs,ha,rfl⟩,h⟩
structure Glob (mg:Str→Option Value) (x:Str) (v:V):Prop where
 ex:∃ u,mg x=some u∧RelV v u
theorem qe_gl {x:Str} {v:V} {pos:Pos} (G:Glob X.mg x v) (hg:Gl X x:=by rfl) (hd:(x == ("__debug__" : Str))=false:=by decide):QE X (.Name x pos) (tC v):=by
 obtain ⟨u,h,r⟩:=G.ex
 exact ⟨pe_glob hg h r hd⟩
noncomputable def iAny (K:PySem.W.Frag) (tl:TE):TI:=fun σ H R=>tl σ H fun x H1=>(∃ a,x=.ref a∧(∃ xs,SqL K H1 a xs)∧R (Itl K a) H1)∨(∃ a,x=.ref a∧(∃ xs,SqT K H1 a xs)∧R (Itt K a) H1)∨∃ z,x=.str z∧R (Its z) H1
theorem qi_any {tg l:Expr} {tl:TE} (hl:QE X l tl):QI X tg l (iAny X.K tl):=by
 refine ⟨fun pins s σ H R I h=>?_⟩
 refine thn (hl.run pins s σ H _ I h) fun v s1 ⟨x,H1,I1,r1,q1⟩=>?_
 have one:∀ (l:Expr) (t:TE),PE X l t→True:=fun _ _ _=>trivial
 rcases q1 with ⟨a,e,⟨xs,hq⟩,q⟩ | ⟨a,e,⟨xs,hq⟩,q⟩ | ⟨z,e,q⟩
 ·subst e
  cases r1
  obtain ⟨its,rv,p,hz⟩:=I1.list hq
  refine wpAny_pyIter_list p.isList ?_
  refine ⟨s1.heap.objs.size,[s1.heap.objs.size],_,_,H1,rfl,I1.kept (t':=s1.toks) fun b o e=>Heap.get?_push_of_some _ e,turn_list a _,⟨_,Heap.get?_push_size _ rfl,rfl,rfl⟩,fun b hb=>?_,q⟩
  have e:b=s1.heap.objs.size:=by simpa using hb
  subst e
  exact I1.fpOk (Nat.le_refl _) (I1.hok.fresh (Nat.le_refl _))
 ·subst e
  cases r1
  obtain ⟨its,rv,p,hz⟩:=I1.tuple hq
  refine wpAny_pyIter_tuple (show s1.heap.IsTuple a its.toArray from p) ?_
  refine ⟨s1.heap.objs.size,[s1.heap.objs.size],_,_,H1,rfl,I1.kept (t':=s1.toks) fun b o e=>Heap.get?_push_of_some _ e,turn_tuple a _,⟨_,Heap.get?_push_size _ rfl,rfl,rfl⟩,fun b hb=>?_,q⟩
  have e:b=s1.heap.objs.size:=by simpa using hb
  subst e
  exact I1.fpOk (Nat.le_refl _) (I1.hok.fresh (Nat.le_refl _))
 ·subst e
  obtain ⟨t,rfl⟩:=r1
  refine wpAny_pyIter_strU ?_
  refine ⟨s1.heap.objs.size,[s1.heap.objs.size],_,_,H1,rfl,I1.kept (t':=s1.toks) fun b o e=>Heap.get?_push_of_some _ e,turn_str _ z t,⟨_,Heap.get?_push_size _ rfl,rfl,rfl⟩,fun b hb=>?_,q⟩
  have e:b=s1.heap.objs.size:=by simpa using hb
  subst e
  exact I1.fpOk (Nat.le_refl _) (I1.hok.fresh (Nat.le_refl _))
end
end L2
namespace L2
open PySem PySem.Spec PyProof.Rows
noncomputable def Itd (hi:Int) (n:Nat):It:=⟨fun i _=>i < n,fun i H x H'=>H'=H∧x=.int (hi - i),fun i _=>n≤i⟩
theorem rangeSize_down (a b:Int):Builtin.Range.rangeSize a b (-1)=if b < a then a - b else 0:=by
 unfold Builtin.Range.rangeSize
 simp only [show ¬ ((-1:Int) > 0) by decide,if_false,Int.neg_neg,Int.ediv_one]
 split <;> omega
theorem small_down {a b:Int} (ha:-(2 ^ 62)≤a) (ha':a < 2 ^ 62) (hb:-(2 ^ 62)≤b) (hb':b < 2 ^ 62):Builtin.Range.small a b (-1)=true:=by
 unfold Builtin.Range.small
 rw [rangeSize_down]
 simp only [Builtin.Range.rangeFitsLong,Bool.and_eq_true,Bool.or_eq_true,decide_eq_true_eq,beq_iff_eq,show ¬ ((-1:Int) > 0) by decide,if_false]
 split <;> omega
theorem turn_down {P:Program} {w:World} {K:PySem.W.Frag} {tg:Expr} (it:Addr) (hi:Int) (n:Nat):Turn P w K tg (Itd hi n) [it] it (fun i h=>IsRangeIter h it (hi + (i:Nat) * (-1)) ((n:Int) - (i:Nat)) (-1)) where
 mem:=by simp
 obj:=fun i h st b hb=>by
  have e:b=it:=by simpa using hb
  subst e
  exact ⟨_,st,fun v z=>by
   have z':Data.fields _=Data.cell v:=z
   cases z'⟩
 keep:=fun i h h' st k=>k it (by simp) _ st
 item:=by
  intro X hP hw hK hc i pins s σ H E I hf st hg
  subst hP hw hK
  obtain ⟨f0,f1,f2,f3,f4,f5⟩:=hf it (by simp)
  have W:=Walks.range (prog:=X.prog) (w:=X.w) (I.ok.hd hc) it hi (-1) n
  refine W.item i s _ _ hg st fun v h' tk hv st' kk=>?_
  obtain ⟨t,rfl⟩:=hv
  have I1:Inv X pins σ H { s with heap:=h',toks:=tk }:=I.turned (fun b o hb e=>kk b o (by simpa using hb) e) f0 f1 f3 f4 f5
  refine ⟨_,rfl,go_of (s:={ s with heap:=h',toks:=tk }) (n := "range_iterator") st' rfl rfl (by decide) ⟨.int (hi - i),H,I1,⟨t,?_⟩,⟨rfl,rfl⟩,st',fun b hb=>(hf b hb).1⟩⟩
  rw [Int.mul_neg_one,Int.sub_eq_add_neg]
 done:=by
  intro X hP hw hK hc i pins s σ H E I hf st hg
  subst hP hw hK
  obtain ⟨f0,f1,f2,f3,f4,f5⟩:=hf it (by simp)
  exact wpAny_pyNext_range_end (I.ok.hd hc) st (by have:n≤i:=hg; omega) fun h' eb=>⟨rfl,I.turned (t':=s.toks) (fun b o hb e=>eb b o hb e) f0 f1 f3 f4 f5⟩
 self:=fun _ _ _ _ _ st h=>wpAny_pyIter_rangeiter st h
section
variable {X:Cx} {tg:Expr}
noncomputable def iRng3 (ta:TA):TI:=fun σ H R=>ta σ H fun vs H1=>∃ i j:Int,vs=[.int i,.int j,.int (-1)]∧(-(2 ^ 62)≤i∧i < 2 ^ 62∧-(2 ^ 62)≤j∧j < 2 ^ 62)∧R (Itd i (i - j).toNat) H1
theorem qi_range3 {a b c:Expr} {ta:TA} {p pos:Pos} (hg:Gl X "range") (hm:X.mg "range" = none) (ha:QA X [a,b,c] ta) (hs:starEach [a,b,c] X.env=[(false,eval a X.env),(false,eval b X.env),(false,eval c X.env)]:=by rfl) (hs2:starEach [b,c] X.env=[(false,eval b X.env),(false,eval c X.env)]:=by rfl) :
  QI X tg (.Call (.Name "range" p) [a,b,c] [] pos) (iRng3 ta):=by
 refine ⟨fun pins s σ H R I h=>?_⟩
 refine Call_ (ld_blt I hg hm boot_range (PyProof.Rows.callWith_type1 (thn (ha.run pos pins s σ H _ I h) fun us s1 ⟨vs,H1,I1,r1,q1⟩=>?_) (by rw [hs,hs2]) (by rw [hs2]; rfl)))
 obtain ⟨i,j,e,⟨q1,q2,q3,q4⟩,q⟩:=q1
 subst e
 cases r1 with
 | cons r rr =>
  cases rr with
  | cons r' rr =>
   cases rr with
   | cons r'' rr =>
    cases rr
    obtain ⟨t,rfl⟩:=r
    obtain ⟨t',rfl⟩:=r'
    obtain ⟨t'',rfl⟩:=r''
    refine call_range_3 (by decide) ?_ (.inl (PyProof.noPylong_small (by omega)))
    refine wpAny_pyIter_range (IsRange.new ..) (small_down q1 q2 q3 q4) ?_
    have I2:Inv X pins σ H1 { s1 with heap:=s1.heap.push { cls:=.type "range",data:=.fields #[.int i t,.int j t',.int (-1) t''] },toks:=s1.toks }:=I1.kept fun b o e=>Heap.get?_push_of_some _ e
    refine ⟨(s1.heap.push { cls:=.type "range",data:=.fields #[.int i t,.int j t',.int (-1) t''] }).objs.size,[(s1.heap.push { cls:=.type "range",data:=.fields #[.int i t,.int j t',.int (-1) t''] }).objs.size],_,_,H1,rfl,
     I2.kept (t':=s1.toks) fun b o e=>Heap.get?_push_of_some _ e,turn_down _ i (i - j).toNat,?_,fun b hb=>?_,q⟩
    ·have e1:i + ((0:Nat):Int) * (-1)=i:=by simp
     have e2:(((i - j).toNat:Nat):Int) - ((0:Nat):Int)=Builtin.Range.rangeSize i j (-1):=by rw [rangeSize_down]; split <;> omega
     show IsRangeIter _ _ (i + ((0:Nat):Int) * (-1)) ((((i - j).toNat:Nat):Int) - ((0:Nat):Int)) (-1)
     rw [e1,e2]
     exact Heap.get?_push_size _ rfl
    ·have e:b=(s1.heap.push { cls:=.type "range",data:=.fields #[.int i t,.int j t',.int (-1) t''] }).objs.size:=by simpa using hb
     subst e
     exact I2.fpOk (Nat.le_refl _) (I2.hok.fresh (Nat.le_refl _))
theorem for_down {hi:Int} {n:Nat} {g:TG} {tb:TS} {D:Ends} {σ:St} {H:Hp} (Pv:Nat→St→Hp→Prop) (h0:Pv 0 σ H)
  (hs:∀ i σ H,i < n→Pv i σ H→g (.int (hi - i)) σ H fun σ2 H2=>tb { D with nx:=Pv (i + 1),ct:=Pv (i + 1),bk:=D.nx } σ2 H2) (hd:∀ σ H,Pv n σ H→D.nx σ H) :
  ∃ W:Nat→Nat→St→Hp→Prop,(∃ m,W 0 m σ H)∧∀ i m σ H,W i m σ H →
   ((Itd hi n).stop i H∧D.nx σ H)∨((Itd hi n).go i H∧∃ N:St→Hp→Prop,(∀ σ' H',N σ' H'→∃ m',m' < m∧W (i + 1) m' σ' H')∧∀ x H',(Itd hi n).yld i H x H'→g x σ H' fun σ2 H2=>tb { D with nx:=N,ct:=N,bk:=D.nx } σ2 H2):=by
 refine ⟨fun i m σ H=>m=n - i∧i≤n∧Pv i σ H,⟨n,by simp,Nat.zero_le _,h0⟩,?_⟩
 rintro i m σ H ⟨rfl,hi',p⟩
 by_cases hlt:i < n
 ·refine .inr ⟨hlt,Pv (i + 1),fun σ' H' p'=>⟨n - (i + 1),by omega,rfl,hlt,p'⟩,fun x H' y=>?_⟩
  obtain ⟨e,y⟩:=y
  subst e y
  exact hs i σ _ hlt p
 ·have e:i=n:=by omega
  subst e
  exact .inl ⟨Nat.le_refl _,hd σ H p⟩
end
noncomputable def Itv (K:PySem.W.Frag) (a:Addr) (n:Nat):It :=
 ⟨fun i H=>∃ xs,SqL K H a xs∧xs.length=n∧i < n,fun i H x H'=>H'=H∧∀ xs,SqL K H a xs→xs[n - 1 - i]?=some x,fun i _=>i=n⟩
theorem turn_rev {P:Program} {w:World} {K:PySem.W.Frag} {tg:Expr} (a it:Addr) (n:Nat):Turn P w K tg (Itv K a n) [it] it (fun i h=>i≤n∧h.IsRevIter it a ((n:Int) - 1 - (i:Int))) where
 mem:=by simp
 obj:=fun i h st b hb=>by
  have e:b=it:=by simpa using hb
  subst e
  obtain ⟨o,e,c,d⟩:=st.2
  exact ⟨o,e,fun v z=>by rw [d] at z; cases z⟩
 keep:=fun i h h' st k=>⟨st.1,st.2.at fun o e=>k it (by simp) o e⟩
 item:=by
  intro X hP hw hK hc i pins s σ H E I hf st hg
  subst hP hw hK
  obtain ⟨xs,hq,hl,hi⟩:=hg
  obtain ⟨its,rv,p,hz⟩:=I.list hq
  have hx:xs[n - 1 - i]?=some (xs[n - 1 - i]'(by omega)):=List.getElem?_eq_getElem (by omega)
  obtain ⟨u,hu,ru⟩:=rv.get hx
  obtain ⟨f0,f1,f2,f3,f4,f5⟩:=hf it (by simp)
  have e:(n:Int) - 1 - (i:Int)=((n - 1 - i:Nat):Int):=by omega
  have hit:=st.2
  rw [e] at hit
  refine wpAny_pyNext_rev_item hit p.isList (x:=u) (by simpa using hu) fun h' st' sb=>?_
  have I1:Inv X pins σ H { s with heap:=h' }:=I.turned (t':=s.toks) (fun b o hb e=>(sb.2 b hb).trans e) f0 f1 f3 f4 f5
  have e2:((n - 1 - i:Nat):Int) - 1=(n:Int) - 1 - ((i + 1:Nat):Int):=by omega
  rw [e2] at st'
  obtain ⟨o,eo,c,d⟩:=id st'
  exact ⟨u,rfl,go_of (s:={ s with heap:=h' }) eo c d (by decide) ⟨_,H,I1,ru,⟨rfl,fun ys hy=>by rw [I.list_inj hy hq]; exact hx⟩,⟨hi,st'⟩,fun b hb=>(hf b hb).1⟩⟩
 done:=by
  intro X hP hw hK hc i pins s σ H E I hf st hg
  subst hP hw hK
  have hg:i=n:=hg
  subst hg
  obtain ⟨f0,f1,f2,f3,f4,f5⟩:=hf it (by simp)
  have e:(i:Int) - 1 - (i:Int)=-1:=by omega
  have hit:=st.2
  rw [e] at hit
  exact wpAny_pyNext_rev_end (I.ok.hd hc) hit fun h' eb=>⟨rfl,I.turned (t':=s.toks) (fun b o hb e=>eb b o hb e) f0 f1 f3 f4 f5⟩
 self:=fun _ _ _ _ _ st h=>wpAny_pyIter_revIter st.2 h
theorem boot_rev:bootBuiltins "reversed" = some (.type "reversed"):=by decide +kernel
section
variable {X:Cx} {tg:Expr}
noncomputable def iRev (K:PySem.W.Frag) (ta:TA):TI:=fun σ H R=>ta σ H fun vs H1=>∃ a xs,vs=[.ref a]∧SqL K H1 a xs∧R (Itv K a xs.length) H1
theorem qi_rev {a:Expr} {ta:TA} {p pos:Pos} (hg:Gl X "reversed") (hm:X.mg "reversed" = none) (ha:QA X [a] ta) (hs:starEach [a] X.env=[(false,eval a X.env)]:=by rfl):QI X tg (.Call (.Name "reversed" p) [a] [] pos) (iRev X.K ta):=by
 refine ⟨fun pins s σ H R I h=>?_⟩
 refine Call_ (ld_blt I hg hm boot_rev (PyProof.Rows.callWith_type1 (thn (ha.run pos pins s σ H _ I h) fun us s1 ⟨vs,H1,I1,r1,q1⟩=>?_) hs rfl))
 obtain ⟨l,xs,e,hq,q⟩:=q1
 subst e
 cases r1 with
 | cons r rr =>
  cases rr
  cases r
  obtain ⟨its,rv,pl,hz⟩:=I1.list hq
  refine call_reversed_list pl.isList ?_
  have hl:=rv.length
  have st0:(s1.heap.push (PySem.revObj l (((its.toArray).size:Int) - 1))).IsRevIter s1.heap.objs.size l ((xs.length:Int) - 1 - ((0:Nat):Int)):=by
   refine ⟨_,Heap.get?_push_size _ rfl,rfl,?_⟩
   have e:((its.toArray).size:Int) - 1=(xs.length:Int) - 1 - ((0:Nat):Int):=by simp [hl]
   rw [← e]
   rfl
  refine wpAny_pyIter_revIter (it:=s1.heap.objs.size) (l:=l) (i:=(xs.length:Int) - 1 - ((0:Nat):Int)) st0 ?_
  refine ⟨s1.heap.objs.size,[s1.heap.objs.size],_,_,H1,rfl,I1.kept (t':=s1.toks) fun b o e=>Heap.get?_push_of_some _ e,turn_rev l _ xs.length,⟨Nat.zero_le _,st0⟩,fun b hb=>?_,q⟩
  have e:b=s1.heap.objs.size:=by simpa using hb
  subst e
  exact I1.fpOk (Nat.le_refl _) (I1.hok.fresh (Nat.le_refl _))
theorem for_rev {K:PySem.W.Frag} {a:Addr} {xs:List V} {g:TG} {tb:TS} {D:Ends} {σ:St} {H:Hp} (Pv:Nat→St→Hp→Prop) (h0:Pv 0 σ H) (hl:∀ i σ H,i≤xs.length→Pv i σ H→SqL K H a xs)
  (hs:∀ i x σ H,i < xs.length→xs[xs.length - 1 - i]?=some x→Pv i σ H→g x σ H fun σ2 H2=>tb { D with nx:=Pv (i + 1),ct:=Pv (i + 1),bk:=D.nx } σ2 H2) (hd:∀ σ H,Pv xs.length σ H→D.nx σ H) :
  ∃ W:Nat→Nat→St→Hp→Prop,(∃ m,W 0 m σ H)∧∀ i m σ H,W i m σ H →
   ((Itv K a xs.length).stop i H∧D.nx σ H)∨((Itv K a xs.length).go i H∧∃ N:St→Hp→Prop,(∀ σ' H',N σ' H'→∃ m',m' < m∧W (i + 1) m' σ' H')∧∀ x H',(Itv K a xs.length).yld i H x H'→g x σ H' fun σ2 H2=>tb { D with nx:=N,ct:=N,bk:=D.nx } σ2 H2):=by
 refine ⟨fun i m σ H=>m=xs.length - i∧i≤xs.length∧Pv i σ H,⟨xs.length,by simp,Nat.zero_le _,h0⟩,?_⟩
 rintro i m σ H ⟨rfl,hi,p⟩
 have q:=hl i σ H hi p
 by_cases hlt:i < xs.length
 ·refine .inr ⟨⟨xs,q,rfl,hlt⟩,Pv (i + 1),fun σ' H' p'=>⟨xs.length - (i + 1),by omega,rfl,hlt,p'⟩,fun x H' y=>?_⟩
  obtain ⟨e,y⟩:=y
  subst e
  exact hs i x σ _ hlt (y xs q) p
 ·have e:i=xs.length:=by omega
  subst e
  exact .inl ⟨rfl,hd σ H p⟩
end
end L2
namespace L2
open PySem PySem.Spec PyProof.Rows
section
variable {prog:Program} {w:World} {A:Around} {E:Value→Shared→Prop} {s:Shared}
theorem nextOf_tup_item {it t:Addr} {i:Nat} {items:Array Value} {x:Value} {Q:Value→Shared→Prop} (hit:s.heap.IsTupleIter it t i) (ht:s.heap.IsTuple t items) (hx:items[i]?=some x)
  (hQ:∀ h',h'.IsTupleIter it t (i + 1)→Heap.SameBut it s.heap h'→Q x { s with heap:=h' }):wpAny (model prog w) A (Builtin.SmallTypes.nextOf (.ref it)) Q E s:=by
 obtain ⟨o,ho,hc,hd⟩:=id hit
 obtain ⟨ol,hol,_,nl,hdl⟩:=ht
 unfold Builtin.SmallTypes.nextOf
 refine wpAny_bind (wpAny_callSpecial?_slot (name:=Str.ofString "__next__") hit.typeIs PySem.F.slot_tuple_iterator_next
  (wpAny_call_entry PySem.F.slot_tuple_iterator_next hit.typeIs PySem.F.entry_tuple_iterator_next ?_ (PySem.F.args_tuple_iterator_next_1 _)))
 show wpAny _ _ (field (.ref it) 0 >>= _) _ _ s
 refine wpAny_bind (wpAny_field ho hd (x:=.ref t) rfl ?_)
 show wpAny _ _ (if (Value.ref t == Value.none)=true then _ else _) _ _ s
 rw [if_neg (show ¬ ((Value.ref t == Value.none)=true) from Bool.false_ne_true)]
 show wpAny _ _ (field (.ref it) 1 >>= _) _ _ s
 refine wpAny_bind (wpAny_field ho hd (x:=.int i 0) rfl ?_)
 show wpAny _ _ (seqItems? (.ref t) >>= _) _ _ s
 refine wpAny_bind (wpAny_seqItems hol hdl ?_)
 simp only [Int.toNat_natCast,hx]
 refine wpAny_bind (wpAny_setField ho hd (by simp) (wpAny_pure ⟨x,rfl,wpAny_pure (hQ _ ?_ (Heap.SameBut.update ..))⟩))
 exact ⟨_,Heap.get?_update_self _ ho (Obj.isFreed_of_fields (Obj.data_mapFields hd _)),(Obj.cls_mapFields ..).trans hc,by
  rw [Obj.data_mapFields hd]; simp [rawInt]⟩
theorem nextOf_tup_end {it t:Addr} {i:Nat} {items:Array Value} {Q:Value→Shared→Prop} (hh:A.handled=none) (hit:s.heap.IsTupleIter it t i) (ht:s.heap.IsTuple t items) (hx:items[i]?=none)
  (hE:∀ h' e,Heap.ExtBut it s.heap h'→(∃ o,h'.get? e=some o∧o.cls=.type "StopIteration")→E (.ref e) { s with heap:=h' }):wpAny (model prog w) A (Builtin.SmallTypes.nextOf (.ref it)) Q E s:=by
 obtain ⟨o,ho,hc,hd⟩:=id hit
 obtain ⟨ol,hol,_,nl,hdl⟩:=ht
 unfold Builtin.SmallTypes.nextOf
 refine wpAny_bind (wpAny_callSpecial?_slot (name:=Str.ofString "__next__") hit.typeIs PySem.F.slot_tuple_iterator_next
  (wpAny_call_entry PySem.F.slot_tuple_iterator_next hit.typeIs PySem.F.entry_tuple_iterator_next ?_ (PySem.F.args_tuple_iterator_next_1 _)))
 show wpAny _ _ (field (.ref it) 0 >>= _) _ _ s
 refine wpAny_bind (wpAny_field ho hd (x:=.ref t) rfl ?_)
 show wpAny _ _ (if (Value.ref t == Value.none)=true then _ else _) _ _ s
 rw [if_neg (show ¬ ((Value.ref t == Value.none)=true) from Bool.false_ne_true)]
 show wpAny _ _ (field (.ref it) 1 >>= _) _ _ s
 refine wpAny_bind (wpAny_field ho hd (x:=.int i 0) rfl ?_)
 show wpAny _ _ (seqItems? (.ref t) >>= _) _ _ s
 refine wpAny_bind (wpAny_seqItems hol hdl ?_)
 simp only [Int.toNat_natCast,hx]
 refine wpAny_bind (wpAny_rule (wpAny_bind (wpAny_setField ho hd (by simp) ?_)))
 show wpAny _ _ (newExc (.type "StopIteration") [] >>= _) _ _ _
 refine wpAny_bind ?_
 simp only [newExc,newTuple]
 refine wpAny_bind (wpAny_newObj_type ?_ (by size_fits))
 refine wpAny_bind (m:=firstArgMember _ _) (wpAny_of_eq (a:=Value.none) (by first | rfl | (simp only [firstArgMember]; rfl)) ?_)
 refine wpAny_newObj_type ?_ (by size_fits)
 simp only [raiseNew]
 refine wpAny_bind (wpAny_handled ?_)
 first | rw [show A.in1.handled=none from hh] | rw [hh]
 refine wpAny_bind (wpAny_pure (wpAny_throw ?_))
 exact hE _ _ (((Heap.SameBut.update ..).extBut.push _).push _) ⟨_,Heap.get?_push_size _ rfl,rfl⟩
end
theorem draws_tup {prog:Program} {w:World} {A:Around} (hh:A.handled=none) (it l:Addr) (hne:l≠it) (items:Array Value) :
  Draws prog w A it [it,l] items.size (fun i v=>items[i]?=some v) (fun i h=>h.IsTupleIter it l i∧h.IsTuple l items) where
 live:=fun _ _ st=>let ⟨o,ho,_⟩:=st.1; ⟨o,ho⟩
 frame:=fun _ _ _ st hk=>⟨st.1.at fun o e=>hk it (by simp) o e,let ⟨o,e,r⟩:=st.2; ⟨o,hk l (by simp) o e,r⟩⟩
 item:=fun i s Q E hi st hQ=>by
  refine nextOf_tup_item st.1 st.2 (x:=items[i]) (by simp [hi]) fun h' hit' hs'=>?_
  exact hQ _ h' s.toks (by simp [hi]) ⟨hit',st.2.extBut hs'.extBut hne⟩ hs'
 done:=fun s Q E st hE=>nextOf_tup_end hh st.1 st.2 (by simp) hE
theorem meets_enum_newT (l:Addr) (items:Array Value) (n:Nat) (dct:Option Addr) (sl:Array (Option Value)) :
  Meets (Builtin.«enumerate.__new__» ⟨[.type "enumerate",.ref l],[]⟩) (fun _ R s=>s.heap.get? l=some { cls:=.type "tuple",dict:=dct,data:=.seq items n,slots:=sl } ∧
   R (.ok (.ret (.ref (s.heap.push { cls:=.type "tuple_iterator",data:=.fields #[.ref l,.int 0 0] }).objs.size)))
    { s with heap:=(s.heap.push { cls:=.type "tuple_iterator",data:=.fields #[.ref l,.int 0 0] }).push { cls:=.type "enumerate",data:=.fields #[.none,.bool false,.ref s.heap.objs.size,rawInt 0,.none,.none] } }) :=
 .of_wp fun prog w A R s h=>by
  obtain ⟨hp,g,d,tk,os⟩:=s; obtain ⟨hl,h⟩:=h
  have hsub:=sub_enumerate
  have hL:Heap.IsTuple (Shared.heap ⟨hp,g,d,tk,os⟩) l items:=⟨_,hl,rfl,n,rfl⟩
  wp_walk using PySem.AutoSeq1.wpAny_loadPart' hl
  refine wpAny_stack_any fun st=>wpAny_pure ?_
  split
  ·rename_i c _ _ _ _ _
   cases (c == Value.type "enumerate")
   ·wp_walk using PySem.AutoSeq1.wpAny_loadPart' hl,wpAny_pyIter_tuple hL
    exact ⟨_,rfl,h⟩
   ·wp_walk using PySem.AutoSeq1.wpAny_loadPart' hl,wpAny_pyIter_tuple hL
    exact ⟨_,rfl,h⟩
  ·wp_walk using PySem.AutoSeq1.wpAny_loadPart' hl,wpAny_pyIter_tuple hL
   exact ⟨_,rfl,h⟩
section
variable {prog:Program} {w:World} {A:Around} {E:Value→Shared→Prop} {s:Shared}
theorem call_enum_tup {l:Addr} {items:Array Value} {Q:Value→Shared→Prop} (hL:s.heap.IsTuple l items)
  (h:∀ h',IsEnum h' (s.heap.objs.size + 1) s.heap.objs.size 0 .none→h'.IsTupleIter s.heap.objs.size l 0→h'.objs.size=s.heap.objs.size + 2 →
   (∀ b o,s.heap.get? b=some o→h'.get? b=some o)→Q (.ref (s.heap.objs.size + 1)) { s with heap:=h' }) :
  wpAny (model prog w) A (call (.type "enumerate") [.ref l]) Q E s:=by
 obtain ⟨⟨c,dct,dt,sl⟩,hl,hc,n,hd⟩:=hL
 replace hc:c=.type "tuple" := hc
 replace hd:dt=.seq items n:=hd
 subst hc hd
 refine callType_new PySem.F.called_enumerate (by decide) (PySem.F.typeCall_enumerate_1 _) (PySem.F.newCall_enumerate_1 _) (fun obj=>PySem.F.args_object_init_2 obj _) PySem.F.entry_enumerate_new
  (meets_enum_newT l items n dct sl) ⟨hl,?_⟩
 have hz:(s.heap.push { cls:=.type "tuple_iterator",data:=.fields #[.ref l,.int 0 0] }).objs.size=s.heap.objs.size + 1:=Heap.size_push ..
 show _∧_
 rw [hz]
 have he:IsEnum ((s.heap.push { cls:=.type "tuple_iterator",data:=.fields #[.ref l,.int 0 0] }).push
   { cls:=.type "enumerate",data:=.fields #[.none,.bool false,.ref s.heap.objs.size,rawInt 0,.none,.none] }) (s.heap.objs.size + 1) s.heap.objs.size 0 .none:=by
  unfold IsEnum
  rw [← hz]
  exact Heap.get?_push_size _ rfl
 refine ⟨⟨_,he,rfl⟩,h _ he ⟨_,Heap.get?_push_of_some _ (Heap.get?_push_size _ rfl),rfl,rfl⟩ (by rw [Heap.size_push,hz]) fun b o e=>Heap.get?_push_of_some _ (Heap.get?_push_of_some _ e)⟩
noncomputable def EnLate (h:Heap) (e it:Addr) (i:Int):Prop:=∃ (a:Addr) (oa:Obj) (f1 old:Value),h.get? e=some { cls:=.type "enumerate",dict:=none,data:=.fields #[rawInt a,f1,.ref it,rawInt i,.none,old],slots:=#[] }∧h.get? a=some oa∧a≠e∧a≠it
theorem wpAny_loadAlive {a:Addr} {Q:Option Obj→Shared→Prop} (h:Q (s.heap.get? a) s):wpAny (model prog w) A (loadIfAlive a) Q E s:=by
 intro Γ p hΓ
 show Sem.wp _ Γ (.loadIfAlive a .pure) _ _ p s
 rw [Sem.wp_loadIfAlive]
 exact h
end
end L2
namespace L2
open PySem PySem.Spec PyProof.Rows
section
variable {prog:Program} {w:World} {A:Around} {E:Value→Shared→Prop} {s:Shared}
theorem en_late_next {e it:Addr} {fp:List Addr} {n i:Nat} {P:Nat→Value→Prop} {St:Nat→Heap→Prop} {Q:Value→Shared→Prop}
  (D:Draws prog w A it fp n P St) (he0:EnLate s.heap e it i) (hst:St i s.heap) (hlt:i < n) (hne:e≠it) (hef:e ∉ fp)
  (hQ:∀ x h' tk,P i x→EnLate h' e it ((i:Int) + 1)→St (i + 1) h' →
   h'.get? s.heap.objs.size=some { cls:=.type "tuple",data:=.seq #[.int i tk,x] }→h'.objs.size=s.heap.objs.size + 1 →
   (∀ b o,b≠e→b≠it→s.heap.get? b=some o→h'.get? b=some o)→Q (.ref s.heap.objs.size) { s with heap:=h',toks:=tk + 1 }) :
  wpAny (model prog w) A (Builtin.«enumerate.__next__» ⟨[.ref e],[]⟩) (fun fin s'=>∃ v,fin=.done (.ret v)∧Q v s') E s:=by
 obtain ⟨a,oa,f1,old,he,hoa,hae,hai⟩:=he0
 obtain ⟨hp,g,d,tk₀,os⟩:=s
 show wpAny _ _ (field (.ref e) 2 >>= _) _ _ _
 refine wpAny_bind (wpAny_field he rfl (x:=.ref it) rfl ?_)
 refine wpAny_bind (D.item i _ _ _ hlt hst fun x h₁ tk hPx hit₁ hs₁=>?_)
 replace hs₁:Heap.SameBut it hp h₁:=hs₁
 have he₁:=(hs₁.2 e hne).trans he
 have ha₁:=hs₁.extBut a oa hai hoa
 show wpAny _ _ (field (.ref e) 3 >>= _) _ _ ⟨h₁,g,d,tk,os⟩
 refine wpAny_bind (wpAny_field he₁ rfl (x:=rawInt i) rfl ?_)
 show wpAny _ _ (field (.ref e) 4 >>= _) _ _ ⟨h₁,g,d,tk,os⟩
 refine wpAny_bind (wpAny_field he₁ rfl (x:=.none) rfl ?_)
 show wpAny _ _ (mkInt i >>= _) _ _ ⟨h₁,g,d,tk,os⟩
 refine wpAny_bind (wpAny_mkInt ?_)
 show wpAny _ _ (setField (.ref e) 3 (rawInt ((i:Int) + 1)) >>= _) _ _ ⟨h₁,g,d,tk + 1,os⟩
 refine wpAny_bind (wpAny_setField_rec he₁ (by simp) fun h₂ he₂ hs₂=>?_)
 replace hs₂:Heap.SameBut e h₁ h₂:=hs₂
 have ha₂:=hs₂.extBut a oa hae ha₁
 replace he₂:h₂.get? e=some { cls:=.type "enumerate",dict:=none,data:=.fields #[rawInt a,f1,.ref it,rawInt ((i:Int) + 1),.none,old],slots:=#[] }:=he₂
 show wpAny _ _ (setField (.ref e) 4 .none >>= _) _ _ ⟨h₂,g,d,tk + 1,os⟩
 refine wpAny_bind (wpAny_setField_rec he₂ (by simp) fun h₃ he₃ hs₃=>?_)
 replace hs₃:Heap.SameBut e h₂ h₃:=hs₃
 have ha₃:=hs₃.extBut a oa hae ha₂
 replace he₃:h₃.get? e=some { cls:=.type "enumerate",dict:=none,data:=.fields #[rawInt a,f1,.ref it,rawInt ((i:Int) + 1),.none,old],slots:=#[] }:=he₃
 show wpAny _ _ (newTuple [.int i tk,x] >>= _) _ _ ⟨h₃,g,d,tk + 1,os⟩
 refine wpAny_bind (wpAny_newTuple ?_)
 have he₄:(h₃.push { cls:=.type "tuple",data:=.seq #[.int i tk,x] }).get? e=some { cls:=.type "enumerate",dict:=none,data:=.fields #[rawInt a,f1,.ref it,rawInt ((i:Int) + 1),.none,old],slots:=#[] }:=Heap.get?_push_of_some _ he₃
 have ha₄:(h₃.push { cls:=.type "tuple",data:=.seq #[.int i tk,x] }).get? a=some oa:=Heap.get?_push_of_some _ ha₃
 generalize hh₄:h₃.push { cls:=.type "tuple",data:=.seq #[.int i tk,x] }=h₄ at he₄ ha₄
 have hsz:h₃.objs.size=hp.objs.size:=by rw [hs₃.1,hs₂.1,hs₁.1]
 have hel:e < hp.objs.size:=Heap.lt_size he
 have ht₄:h₄.get? hp.objs.size=some { cls:=.type "tuple",data:=.seq #[.int i tk,x] }:=by rw [← hh₄,← hsz]; exact Heap.get?_push_size _ rfl
 have hz₄:h₄.objs.size=hp.objs.size + 1:=by rw [← hh₄,Heap.size_push,hsz]
 have hk₄:∀ b o,b≠e→b≠it→hp.get? b=some o→h₄.get? b=some o:=fun b o hbe hbi hb=>by
  rw [← hh₄]; exact Heap.get?_push_of_some _ (hs₃.extBut b o hbe (hs₂.extBut b o hbe (hs₁.extBut b o hbi hb)))
 have hit₄:St (i + 1) h₄:=D.frame _ _ _ hit₁ fun b hb o y=>by
  have hbe:b≠e:=fun q=>hef (q ▸ hb)
  rw [← hh₄]; exact Heap.get?_push_of_some _ (hs₃.extBut b o hbe (hs₂.extBut b o hbe y))
 show wpAny _ _ (Builtin.SmallTypes.ownedTupleIsFree (.ref e) >>= _) _ _ ⟨h₄,g,d,tk + 1,os⟩
 rw [hsz]
 clear hh₄ ha₃ ha₂ ha₁ he₃ hs₃ he₂ hs₂ he₁ hs₁ hit₁ hsz h₃ h₂ h₁
 refine wpAny_bind ?_
 unfold Builtin.SmallTypes.ownedTupleIsFree
 refine wpAny_bind (wpAny_field he₄ rfl (x:=rawInt a) rfl ?_)
 show wpAny _ _ (loadIfAlive ((a:Int).toNat) >>= _) _ _ ⟨h₄,g,d,tk + 1,os⟩
 refine wpAny_bind (wpAny_loadAlive ?_)
 rw [Int.toNat_natCast]
 show wpAny _ _ (if (h₄.get? a).isNone=true then _ else _) _ _ ⟨h₄,g,d,tk + 1,os⟩
 rw [ha₄]
 rw [if_neg (by simp)]
 refine wpAny_bind (wpAny_field he₄ rfl (x:=f1) rfl ?_)
 have fin:∀ h₅,EnLate h₅ e it ((i:Int) + 1)→Heap.SameBut e h₄ h₅→Q (.ref hp.objs.size) ⟨h₅,g,d,tk + 1,os⟩:=fun h₅ hl hs₅ =>
  hQ x h₅ tk hPx hl (D.frame _ _ _ hit₄ fun b hb o y=>hs₅.extBut b o (fun q=>hef (q ▸ hb)) y) (hs₅.extBut _ _ (Nat.ne_of_gt hel) ht₄) (by rw [hs₅.1,hz₄]) fun b o hbe hbi hb=>hs₅.extBut b o hbe (hk₄ b o hbe hbi hb)
 by_cases hf:(f1 != Value.bool true)=true
 ·simp only [hf,if_true]
  refine wpAny_bind (wpAny_setField_rec he₄ (by simp) fun h₅ he₅ hs₅=>?_)
  replace hs₅:Heap.SameBut e h₄ h₅:=hs₅
  refine wpAny_pure ?_
  simp only [Bool.false_eq_true,if_false]
  refine wpAny_pure ⟨_,rfl,fin h₅ ⟨a,oa,.bool true,old,he₅,hs₅.extBut a oa hae ha₄,hae,hai⟩ hs₅⟩
 ·simp only [hf]
  refine wpAny_pure ?_
  simp only [Bool.false_eq_true,if_false]
  exact wpAny_pure ⟨_,rfl,fin h₄ ⟨a,oa,f1,old,he₄,ha₄,hae,hai⟩ (Heap.SameBut.refl ..)⟩
noncomputable def EnSt (h:Heap) (e it:Addr) (i:Nat):Prop:=(i=0∧∃ old,IsEnum h e it 0 old)∨(0 < i∧EnLate h e it i)
theorem EnSt.obj {h:Heap} {e it:Addr} {i:Nat} (x:EnSt h e it i):∃ vs,h.get? e=some { cls:=.type "enumerate",dict:=none,data:=.fields vs,slots:=#[] }:=by
 rcases x with ⟨_,old,x⟩ | ⟨_,_,_,_,_,x,_⟩
 ·exact ⟨_,x⟩
 ·exact ⟨_,x⟩
theorem en_next {e it:Addr} {fp:List Addr} {n i:Nat} {P:Nat→Value→Prop} {St:Nat→Heap→Prop} {Q:Option Value→Shared→Prop}
  (D:Draws prog w A.in1 it fp n P St) (he:EnSt s.heap e it i) (hst:St i s.heap) (hlt:i < n) (hne:e≠it) (hef:e ∉ fp)
  (hQ:∀ x h' tk,P i x→EnSt h' e it (i + 1)→St (i + 1) h' →
   h'.get? s.heap.objs.size=some { cls:=.type "tuple",data:=.seq #[.int i tk,x] }→h'.objs.size=s.heap.objs.size + 1 →
   (∀ b o,b≠e→b≠it→s.heap.get? b=some o→h'.get? b=some o)→Q (some (.ref s.heap.objs.size)) { s with heap:=h',toks:=tk + 1 }) :
  wpAny (model prog w) A (pyNext (.ref e)) Q E s:=by
 obtain ⟨vs,ho⟩:=he.obj
 have hT:s.TypeIs (.ref e) "enumerate" := ⟨_,ho,rfl⟩
 have hel:e < s.heap.objs.size:=Heap.lt_size ho
 have hil:it < s.heap.objs.size:=by obtain ⟨_,y⟩:=D.live _ _ hst; exact Heap.lt_size y
 rcases he with ⟨rfl,old,he⟩ | ⟨_,he⟩
 ·refine wpAny_pyNext_enum_itemD D he hst hlt hne hef fun x h' tk a b c z k q=>?_
  exact hQ x h' tk a (.inr ⟨Nat.succ_pos _,_,_,_,_,b,z,Nat.ne_of_gt hel,Nat.ne_of_gt hil⟩) c z k q
 ·unfold pyNext
  exact wpAny_bind (wpAny_attempt (wpAny_callSpecial?_slot (name:=Str.ofString "__next__") hT PySem.F.slot_enumerate_next
   (wpAny_call_entry PySem.F.slot_enumerate_next hT PySem.F.entry_enumerate_next
    (en_late_next D he hst hlt hne hef fun x h' tk a b c z k q=>wpAny_pure (hQ x h' tk a (.inr ⟨Nat.succ_pos _,b⟩) c z k q)) (PySem.F.args_enumerate_next_1 _))))
theorem en_end {e it:Addr} {fp:List Addr} {n:Nat} {P:Nat→Value→Prop} {St:Nat→Heap→Prop} {Q:Option Value→Shared→Prop}
  (D:Draws prog w A.in1 it fp n P St) (he:EnSt s.heap e it n) (hst:St n s.heap)
  (hQ:∀ h',Heap.ExtBut it s.heap h'→Q none { s with heap:=h' }):wpAny (model prog w) A (pyNext (.ref e)) Q E s:=by
 obtain ⟨vs,ho⟩:=he.obj
 have hT:s.TypeIs (.ref e) "enumerate" := ⟨_,ho,rfl⟩
 have h2:vs[2]?=some (.ref it):=by
  rcases he with ⟨rfl,old,he⟩ | ⟨_,a,oa,f1,old,he,_⟩
  ·unfold IsEnum at he
   rw [ho] at he
   injection he with he
   injection he with _ _ he _
   injection he with he
   rw [he]; rfl
  ·rw [ho] at he
   injection he with he
   injection he with _ _ he _
   injection he with he
   rw [he]; rfl
 unfold pyNext
 refine wpAny_bind (wpAny_attempt (wpAny_callSpecial?_slot (name:=Str.ofString "__next__") hT PySem.F.slot_enumerate_next
  (wpAny_call_entry PySem.F.slot_enumerate_next hT PySem.F.entry_enumerate_next ?_ (PySem.F.args_enumerate_next_1 _))))
 show wpAny _ _ (field (.ref e) 2 >>= _) _ _ _
 refine wpAny_bind (wpAny_field ho rfl (x:=.ref it) h2 ?_)
 refine wpAny_bind (D.done _ _ _ hst fun h' x he' hx'=>?_)
 obtain ⟨o,ho',hc⟩:=hx'
 refine wpAny_bind (wpAny_isInstance (T := "StopIteration") (b:=true) ⟨o,ho',hc⟩ isSubtype_stop ?_)
 exact wpAny_pure (hQ _ he')
end
end L2
namespace L2
open PySem PySem.Spec PyProof.Rows
structure Src (X:Cx) (pins:List (Addr×Obj)) (σ:St) (it:Addr) (T:String) (n:Nat) (H0:Hp) (J:Nat→List V→Hp→Heap→Prop):Prop where
 ty:∀ i ys H h,J i ys H h→∃ o,h.get? it=some o∧o.cls=.type T
 nl:(Value.type T == Value.type "list")=false∧(Value.type T == Value.type "tuple")=false
 nolen:typeLookup (.type T) "__len__" = pure none
 nohint:typeLookup (.type T) "__length_hint__" = pure none
 self:∀ (A:Around) (s:Shared) (ys:List V) (H:Hp) (Q:Value→Shared→Prop) (E:Value→Shared→Prop),J 0 ys H s.heap→Q (.ref it) s→wpAny (model X.prog X.w) A (pyIter (.ref it)) Q E s
 keep:∀ i ys H h h' S zs zs',H0 S=none→H S=some (.lst zs)→J i ys H h→(∀ b o,b≠S→h.get? b=some o→h'.get? b=some o)→(∃ o,h'.get? S=some o)→J i ys (upd H S (.lst zs')) h'
 fresh:∀ i ys H h,J i ys H h→H it=none
 item:∀ (A:Around) (i:Nat) (s:Shared) (H:Hp) (ys:List V) (E:Value→Shared→Prop),A.handled=none→i < n→Inv X pins σ H s→J i ys H s.heap →
  wpAny (model X.prog X.w) A (pyNext (.ref it)) (fun r s'=>∃ u x H',r=some u∧RelV x u∧Inv X pins σ H' s'∧J (i + 1) (ys++[x]) H' s'.heap∧∀ S zs,H S=some (.lst zs)→H' S=some (.lst zs)) E s
 done:∀ (A:Around) (s:Shared) (H:Hp) (ys:List V) (E:Value→Shared→Prop),A.handled=none→Inv X pins σ H s→J n ys H s.heap →
  wpAny (model X.prog X.w) A (pyNext (.ref it)) (fun r s'=>r=none∧Inv X pins σ H s') E s
section
variable {X:Cx} {pins:List (Addr×Obj)} {σ:St} {it:Addr} {T:String} {n:Nat} {H0:Hp} {J:Nat→List V→Hp→Heap→Prop}
theorem src_loop (C:Src X pins σ it T n H0 J) (hn:n≤sizeLine) {A:Around} (hh:A.handled=none) {R:Result→Shared→Prop} (S:Addr) (hS0:H0 S=none) (res:Value)
  (fin:∀ s' H' ys',Inv X pins σ H' s'→H' S=some (.lst ys')→ys'.length=n→(∃ h,J n ys' H' h)→R (.ok (.ret res)) s') :
  ∀ (k i:Nat) (s:Shared) (H:Hp) (ys:List V),n - i=k→i≤n→Inv X pins σ H s→J i ys H s.heap→H S=some (.lst ys)→ys.length=i →
  codeAny (model X.prog X.w) A (.builtin "list.extend.loop" ⟨[.ref S,.ref it,res],[]⟩) R s:=by
 intro k
 induction k with
 | zero =>
  intro i s H ys hk hi I j hS hl
  have hin:i=n:=by omega
  subst hin
  refine codeAny_builtin PySem.F.entry_extend_loop ?_
  rw [Around.under_plainId PySem.F.plain_extend_loop _]
  show wpAny _ A.in1 (pyNext (.ref it) >>= _) _ _ s
  refine wpAny_bind (thn (C.done A.in1 s H ys _ hh I j) fun r s' ⟨hr,I'⟩=>?_)
  subst hr
  exact wpAny_pure (fin s' H ys I' hS hl ⟨_,j⟩)
 | succ k ih =>
  intro i s H ys hk hi I j hS hl
  have hlt:i < n:=by omega
  refine codeAny_builtin PySem.F.entry_extend_loop ?_
  rw [Around.under_plainId PySem.F.plain_extend_loop _]
  show wpAny _ A.in1 (pyNext (.ref it) >>= _) _ _ s
  refine wpAny_bind (thn (C.item A.in1 i s H ys _ hh hlt I j) fun r s' ⟨u,x,H',hr,rx,I',j',kS⟩=>?_)
  subst hr
  have hS':=kS S ys hS
  obtain ⟨z,its,m,rv,hl',e⟩:=I'.lstM hS'
  show wpAny _ A.in1 (updateSeq S (·.push u) >>= _) _ _ _
  refine wpAny_bind ?_
  have hu:(its.toArray.push u)=(its++[u]).toArray:=by simp
  have I2:=I'.lset (f:=(·.push u)) (its':=its++[u]) (ys:=ys++[x]) (t':=s'.toks) hS' e hu (rv.append (.cons rx .nil)) (by rw [List.length_append,List.length_singleton]; omega)
  refine wpAny_updateSeq e rfl (wpAny_pure ⟨plainId_quiet PySem.F.plain_extend_loop _,ih (i + 1) _ _ (ys++[x]) (by omega) hlt I2 ?_ upd_same (by simp [hl])⟩)
   (by rw [List.size_toArray]; omega) (by show (its.toArray.push u).size≤sizeLine + 1; rw [Array.size_push,List.size_toArray]; omega)
  exact C.keep _ _ _ _ _ S ys (ys++[x]) hS0 hS' j' (fun b o hb eb=>(Heap.get?_update_other _ _ (Ne.symm hb)).trans eb) ⟨_,Heap.get?_update_self _ e rfl⟩
theorem call_list_src {H:Hp} (C:Src X pins σ it T n H J) (hn:n≤sizeLine) {A:Around} (hh:A.handled=none) {s:Shared} {Q:VK} {E:Value→Shared→Prop} (I:Inv X pins σ H s) (j:J 0 [] H s.heap)
  (jn:∀ S,s.heap.objs.size≤S→H S=none→∀ h',(∀ b o,s.heap.get? b=some o→h'.get? b=some o)→J 0 [] (upd H S (.lst [])) h')
  (q:∀ S H' ys,H S=none→H' S=some (.lst ys)→ys.length=n→(∃ h,J n ys H' h)→Q (.ref S) H') :
  wpAny (model X.prog X.w) A (call (.type "list") [.ref it]) (EP X pins σ Q) E s:=by
 have hf:H s.heap.objs.size=none:=I.hok.fresh (Nat.le_refl _)
 have hne:s.heap.objs.size≠it:=by
  obtain ⟨o,e,_⟩:=C.ty _ _ _ _ j
  exact Nat.ne_of_gt (Heap.lt_size e)
 refine callType_codes (Q₁:=fun obj s₁=>obj=.ref s.heap.objs.size∧s₁={ s with heap:=s.heap.push { cls:=.type "list",data:=.seq #[] } }) PySem.F.called_list (PySem.F.typeCall_list_1 _) PySem.F.entry_list_init
  (code_list_new _ ⟨rfl,rfl⟩) fun obj s₁ h₁=>?_
 obtain ⟨rfl,rfl⟩:=h₁
 have hS:(s.heap.push { cls:=.type "list",data:=.seq #[] }).get? s.heap.objs.size=some { cls:=.type "list",data:=.seq #[] }:=Heap.get?_push_size _ rfl
 have I1:Inv X pins σ (upd H s.heap.objs.size (.lst [])) { s with heap:=s.heap.push { cls:=.type "list",data:=.seq ([]:List Value).toArray } }:=I.lnew (ys:=[]) (its:=[]) (t':=s.toks) .nil (by simp)
 have j1:J 0 [] (upd H s.heap.objs.size (.lst [])) (s.heap.push { cls:=.type "list",data:=.seq ([]:List Value).toArray })   := jn _ (Nat.le_refl _) hf _ fun b o e=>Heap.get?_push_of_some _ e
 refine ⟨⟨_,hS,rfl⟩,PySem.F.args_list_init_2 _ _,?_⟩
 generalize hs1:({ s with heap:=s.heap.push { cls:=.type "list",data:=.seq ([]:List Value).toArray } }:Shared)=s1 at I1
 have hS1:s1.heap.get? s.heap.objs.size=some { cls:=.type "list",data:=.seq ([]:List Value).toArray }:=by rw [← hs1]; exact hS
 replace j1:J 0 [] (upd H s.heap.objs.size (.lst [])) s1.heap:=by rw [← hs1]; exact j1
 have hs1':({ s with heap:=s.heap.push { cls:=.type "list",data:=.seq #[] } }:Shared)=s1:=hs1
 first | rw [hs1'] | skip
 show wpAny _ A.in1.in1 (do let old ← Builtin.List.listItems (.ref s.heap.objs.size); Builtin.List.listUpdate (.ref s.heap.objs.size) (fun _=>#[]); letGo old.toList.reverse; Builtin.List.listExtendWith (.ref s.heap.objs.size) (.ref it) .none) _ _ s1
 generalize s.heap.objs.size=S at *
 refine wpAny_bind ?_
 unfold Builtin.List.listItems
 refine wpAny_bind (wpAny_seqItems hS1 rfl (wpAny_pure ?_))
 show wpAny _ A.in1.in1 (updateSeq S (fun _=>#[]) >>= fun _=>letGo (#[]:Array Value).toList.reverse >>= fun _=>Builtin.List.listExtendWith (.ref S) (.ref it) .none) _ _ s1
 refine wpAny_bind (wpAny_updateSeq hS1 rfl ?_)
 have I2:=I1.lset (f:=fun _=>#[]) (its':=[]) (ys:=[]) (t':=s1.toks) upd_same hS1 rfl .nil (by simp)
 have hS2:=Heap.get?_update_self (Obj.mapSeq (fun _=>(#[]:Array Value))) hS1 rfl
 have j2:=C.keep _ _ _ _ (s1.heap.update S (Obj.mapSeq fun _=>#[])) S [] [] hf upd_same j1 (fun b o hb eb=>(Heap.get?_update_other _ _ (Ne.symm hb)).trans eb) ⟨_,hS2⟩
 rw [upd_upd] at I2 j2
 generalize hs2:({ s1 with heap:=s1.heap.update S (Obj.mapSeq fun _=>#[]),toks:=s1.toks }:Shared)=s2 at I2
 replace j2:J 0 [] (upd H S (.lst [])) s2.heap:=by rw [← hs2]; exact j2
 have hs2':({ s1 with heap:=s1.heap.update S (Obj.mapSeq fun _=>#[]) }:Shared)=s2:=hs2
 first | rw [hs2'] | skip
 refine wpAny_bind (wpAny_letGo ?_)
 obtain ⟨oi,ei,ci⟩:=C.ty _ _ _ _ j2
 have hT:s2.TypeIs (.ref it) T:=⟨oi,ei,ci⟩
 unfold Builtin.List.listExtendWith
 refine wpAny_bind (wpAny_typeOf hT ?_)
 have h1:Builtin.List.listSameRef (.ref S) (.ref it)=false:=by simp [Builtin.List.listSameRef,hne]
 have h2:=C.nl.1
 have h3:=C.nl.2
 simp only [h1,h2,h3,Bool.or_false,Bool.false_eq_true,if_false]
 refine wpAny_bind (C.self _ s2 _ _ _ _ j2 ?_)
 refine wpAny_bind (wpAny_holding ?_)
 unfold Builtin.List.listLengthHint
 refine wpAny_bind (wpAny_specialOf hT C.nolen ?_)
 show wpAny _ A.in1.in1 (specialOf (Value.ref it) (Str.ofString "__length_hint__") >>= _) _ _ _
 refine wpAny_bind (wpAny_specialOf hT C.nohint ?_)
 refine wpAny_pure ?_
 show wpAny _ A.in1.in1 (rule "list.extend.makes-room" >>= fun _=>Builtin.List.listTouch (.ref S) >>= fun _ =>
  again (.builtin "list.extend.loop" ⟨[.ref S,.ref it,.none],[]⟩)) _ _ _
 refine wpAny_bind (wpAny_rule ?_)
 refine wpAny_bind ?_
 show wpAny _ A.in1.in1 (updateSeq S (·.push .none) >>= fun _=>updateSeq S (·.pop)) _ _ _
 obtain ⟨_,its2,m2,rv2,_,e2⟩:=I2.lstM upd_same
 cases rv2
 refine wpAny_bind (wpAny_updateSeq e2 rfl ?_)
 have I3:=I2.lset (f:=(·.push Value.none)) (its':=[.none]) (ys:=[.non]) (t':=s2.toks) upd_same e2 (by simp) (.cons rfl .nil) (by show 1≤sizeLine; decide)
 have hS3:=Heap.get?_update_self (Obj.mapSeq (·.push Value.none)) e2 rfl
 have j3:=C.keep _ _ _ _ (s2.heap.update S (Obj.mapSeq (·.push Value.none))) S [] [.non] hf upd_same j2 (fun b o hb eb=>(Heap.get?_update_other _ _ (Ne.symm hb)).trans eb) ⟨_,hS3⟩
 rw [upd_upd] at I3 j3
 generalize hs3:({ s2 with heap:=s2.heap.update S (Obj.mapSeq (·.push Value.none)),toks:=s2.toks }:Shared)=s3 at I3
 replace j3:J 0 [] (upd H S (.lst [.non])) s3.heap:=by rw [← hs3]; exact j3
 have hs3':({ s2 with heap:=s2.heap.update S (Obj.mapSeq (·.push Value.none)) }:Shared)=s3:=hs3
 first | rw [hs3'] | skip
 obtain ⟨_,its3,m3,rv3,hl3,e3⟩:=I3.lstM upd_same
 have hl3':its3.length=1:=hl3.symm
 refine wpAny_updateSeq e3 rfl ?_ (by rw [List.size_toArray,hl3']; decide) (by show its3.toArray.pop.size≤sizeLine + 1; rw [Array.size_pop,List.size_toArray,hl3']; decide)
 have I4:=I3.lset (f:=(·.pop)) (its':=[]) (ys:=[]) (t':=s3.toks) upd_same e3 (by
  cases its3 with
  | nil=>simp at hl3'
  | cons a r=>cases r with
   | nil=>simp
   | cons b r'=>simp at hl3') .nil (by simp)
 have hS4:=Heap.get?_update_self (Obj.mapSeq (·.pop)) e3 rfl
 have j4:=C.keep _ _ _ _ (s3.heap.update S (Obj.mapSeq (·.pop))) S [.non] [] hf upd_same j3 (fun b o hb eb=>(Heap.get?_update_other _ _ (Ne.symm hb)).trans eb) ⟨_,hS4⟩
 rw [upd_upd] at I4 j4
 refine wpAny_pure ⟨plainId_quiet PySem.F.plain_extend_loop _,src_loop C hn (A:=A.in1) hh S hf .none ?_ n 0 _ _ [] rfl (Nat.zero_le _) I4 j4 upd_same rfl⟩
 intro s' H' ys' I' hS' hl' hj'
 exact ⟨rfl,.ref S,H',I',rfl,q S H' ys' hf hS' hl' hj'⟩
end
end L2
namespace L2
open PySem PySem.Spec PyProof.Rows
section
variable {X:Cx} {pins:List (Addr×Obj)} {σ:St} {H:Hp} {s:Shared} {h':Heap}
theorem Inv.turned2 {t':Nat} {i1 i2:Addr} (I:Inv X pins σ H s) (k:∀ b o,b≠i1→b≠i2→s.heap.get? b=some o→h'.get? b=some o) (f1:FpOk X pins H i1) (f2:FpOk X pins H i2):Inv X pins σ H { s with heap:=h',toks:=t' }:=by
 obtain ⟨n1,l1,_,e1,c1,p1⟩:=f1
 obtain ⟨n2,l2,_,e2,c2,p2⟩:=f2
 have nit:∀ b u,H b=some u→b≠i1∧b≠i2:=fun b u e=>⟨(fun z=>by rw [z,n1] at e; exact nomatch e),(fun z=>by rw [z,n2] at e; exact nomatch e)⟩
 refine I.step (g':=s.gens) (d':=s.drawn) (ch:=[i1,i2]) (fun b hb=>?_) (fun b o _ _ hc e _=>k b o (fun z=>hc (by simp [z])) (fun z=>hc (by simp [z])) e) (fun b o _ _ hc e _=>⟨o.slots,k b o (fun z=>hc (by simp [z])) (fun z=>hc (by simp [z])) e⟩) (fun _ _ _ _ n=>n)
  (fun b o hc e=>⟨o,k b o (fun z=>hc (by simp [z])) (fun z=>hc (by simp [z])) e⟩) (fun _ _ e=>e) (fun _ _ _ e=>e) (fun b ps e=>⟨#[],by rw [e]; simp⟩) (fun m hm=>?_) (fun b u e=>?_) I.bare
 ·rcases List.mem_cons.mp hb with rfl | hb
  ·exact ⟨e1,l1,c1,p1⟩
  ·rw [List.mem_singleton.mp hb]
   exact ⟨e2,l2,c2,p2⟩
 ·obtain ⟨o,es,ep,ho,r⟩:=hm
  exact ⟨o,es,ep,k _ o (Ne.symm l1) (Ne.symm l2) ho,r⟩
 ·refine (I.hok b u e).stay (fun c v hc q=>k c v ?_ ?_ q) (fun _ q=>q) fun _ _ q=>q
  ·rcases hc with z | z
   ·rw [z]; exact (nit b u e).1
   ·exact (nit c _ z).1
  ·rcases hc with z | z
   ·rw [z]; exact (nit b u e).2
   ·exact (nit c _ z).2
end
theorem FpOk.of {X:Cx} {pins:List (Addr×Obj)} {H H':Hp} {b:Addr} (f:FpOk X pins H b) (h:H' b=none):FpOk X pins H' b:=⟨h,f.2⟩
theorem SqT.kept {K:PySem.W.Frag} {H:Hp} {S a:Addr} {zs zs' xs:List V} (hS:H S=some (.lst zs)) (h:SqT K H a xs):SqT K (upd H S (.lst zs')) a xs:=by
 rcases h with (h | ⟨o,h⟩) | h
 ·exact .inl (.inl (by rw [upd_ne (ne_of h hS (by intro z; cases z))]; exact h))
 ·exact .inl (.inr ⟨o,by rw [upd_ne (ne_of h hS (by intro z; cases z))]; exact h⟩)
 ·exact .inr h
theorem SqT.same {K:PySem.W.Frag} {H H':Hp} {a:Addr} {xs:List V} (h:SqT K H a xs) (e:Same H H'):SqT K H' a xs:=e.tup h
noncomputable def Pairs (H:Hp) (xs:List V) (ys:List V):Prop:=∀ (j:Nat) (y:V),ys[j]?=some y→∃ (t:Addr) (x:V),y=V.ref t∧xs[j]?=some x∧H t=some (.tup [.int j,x])
noncomputable def JEn (K:PySem.W.Frag) (H0:Hp) (en it a:Addr) (xs:List V):Nat→List V→Hp→Heap→Prop:=fun i ys H h =>
 EnSt h en it i∧h.IsTupleIter it a i∧(H en=none∧H it=none)∧SqT K H a xs∧ys.length=i∧Pairs H xs ys∧Same H0 H
theorem en_nolen:typeLookup (.type "enumerate") "__len__" = pure none:=by rw [typeLookup_type,builtinLookup_eq_fast]; kernel_rfl
theorem en_nohint:typeLookup (.type "enumerate") "__length_hint__" = pure none:=by rw [typeLookup_type,builtinLookup_eq_fast]; kernel_rfl
theorem src_enum {X:Cx} {pins:List (Addr×Obj)} {σ:St} {H0:Hp} {en it a:Addr} {xs:List V} (fe:FpOk X pins H0 en) (fi:FpOk X pins H0 it) (hne:en≠it) (hae:a≠en) (hai:a≠it):Src X pins σ en "enumerate" xs.length H0 (JEn X.K H0 en it a xs) where
 ty:=fun i ys H h j=>by
  obtain ⟨vs,e⟩:=j.1.obj
  exact ⟨_,e,rfl⟩
 nl:=by decide
 nolen:=en_nolen
 nohint:=en_nohint
 self:=fun A s ys H Q E j q=>by
  rcases j.1 with ⟨_,old,e⟩ | ⟨z,_⟩
  ·exact wpAny_pyIter_enum e q
  ·exact absurd z (Nat.lt_irrefl _)
 keep:=fun i ys H h h' S zs zs' h0 hS j k al=>by
  obtain ⟨j1,j2,⟨j3,j4⟩,j5,j6,j7,j8⟩:=j
  have ne1:en≠S:=fun z=>by rw [z,hS] at j3; cases j3
  have ne2:it≠S:=fun z=>by rw [z,hS] at j4; cases j4
  refine ⟨?_,?_,⟨by rw [upd_ne ne1]; exact j3,by rw [upd_ne ne2]; exact j4⟩,j5.kept hS,j6,fun m y hy=>?_,fun b o e=>?_⟩
  ·rcases j1 with ⟨z,old,e⟩ | ⟨z,a0,oa,f1,old,e,ea,x1,x2⟩
   ·exact .inl ⟨z,old,k _ _ ne1 e⟩
   ·by_cases hs:a0=S
    ·subst hs
     obtain ⟨o,eo⟩:=al
     exact .inr ⟨z,a0,o,f1,old,k _ _ ne1 e,eo,x1,x2⟩
    ·exact .inr ⟨z,a0,oa,f1,old,k _ _ ne1 e,k _ _ hs ea,x1,x2⟩
  ·exact j2.at fun o e=>k _ _ ne2 e
  ·obtain ⟨t,x,e1,e2,e3⟩:=j7 m y hy
   exact ⟨t,x,e1,e2,by rw [upd_ne (ne_of e3 hS (by intro z; cases z))]; exact e3⟩
  ·have:b≠S:=fun z=>by rw [z,h0] at e; cases e
   rw [upd_ne this]
   exact j8 b o e
 fresh:=fun i ys H h j=>j.2.2.1.1
 item:=fun A i s H ys E hh hi I j=>by
  obtain ⟨j1,j2,⟨j3,j4⟩,j5,j6,j7,j8⟩:=j
  obtain ⟨its,rv,p,hz⟩:=I.tuple j5
  have hl:=rv.length
  have D:=draws_tup (prog:=X.prog) (w:=X.w) (A:=A.in1) hh it a hai its.toArray
  refine en_next D j1 ⟨j2,p⟩ (by rw [List.size_toArray]; omega) hne (by simp [hne,Ne.symm hae]) fun x h' tk hx st' it' ht hsz kk=>?_
  have I1:Inv X pins σ H { s with heap:=h',toks:=tk + 1 }:=I.turned2 (fun b o h1 h2 e=>kk b o h1 h2 e) (fe.of j3) (fi.of j4)
  have hx':its[i]?=some x:=by simpa using hx
  have hxs:i < xs.length:=hi
  obtain ⟨u,hu,ru⟩:=rv.get (List.getElem?_eq_getElem hxs)
  rw [hx'] at hu
  cases hu
  have hf:H s.heap.objs.size=none:=I.hok.fresh (Nat.le_refl _)
  have I2:Inv X pins σ (upd H s.heap.objs.size (.tup [.int i,xs[i]])) { s with heap:=h',toks:=tk + 1 }:=by
   have hokN:HOk X.prog X.w (upd H s.heap.objs.size (.tup [.int i,xs[i]])) h':=fun b o e=>by
    by_cases hb:b=s.heap.objs.size
    ·subst hb
     rw [upd_same] at e
     cases e
     exact ⟨by show 2≤sizeLine; decide,[.int i tk,x],.cons ⟨tk,rfl⟩ (.cons ru .nil),⟨_,ht,rfl,_,rfl⟩⟩
    ·rw [upd_ne hb] at e
     refine (I1.hok b o e).stay (fun c v _ q=>q) (fun c q=>?_) fun c zs q=>?_
     ·rw [upd_ne (ne_of_none q hf)]; exact q
     ·rw [upd_ne (ne_of_none q hf)]; exact q
   have u:Un (frs X.stack) [en,it] H (upd H s.heap.objs.size (.tup [.int i,xs[i]])) s.heap h':={
    keep:=fun b o e n _ hx=>kk b o (fun z=>hx (by simp [z])) (fun z=>hx (by simp [z])) e
    slot:=fun b o e n _ hx=>⟨o.slots,kk b o (fun z=>hx (by simp [z])) (fun z=>hx (by simp [z])) e⟩
    free:=fun b o e n _=>by rw [upd_ne (Nat.ne_of_lt (Heap.lt_size e))]; exact n
    there:=fun b o e hx=>⟨o,kk b o (fun z=>hx (by simp [z])) (fun z=>hx (by simp [z])) e⟩
    tups:=fun b zs e=>by rw [upd_ne (ne_of_none e hf)]; exact e
    frzs:=fun b o u e=>by rw [upd_ne (ne_of_none e hf)]; exact e
    tbls:=fun b ps e=>⟨#[],by rw [upd_ne (ne_of_none e hf),e]; simp⟩ }
   refine I.call (g':=s.gens) (d':=s.drawn) (t':=tk + 1) u hokN I.bare fun b hb=>?_
   rcases List.mem_cons.mp hb with rfl | hb
   ·exact ⟨fe.2.2.2.1,fe.2.1,fe.2.2.2.2.1,fe.2.2.2.2.2⟩
   ·rw [List.mem_singleton.mp hb]
    exact ⟨fi.2.2.2.1,fi.2.1,fi.2.2.2.2.1,fi.2.2.2.2.2⟩
  have sm:Same H (upd H s.heap.objs.size (.tup [.int i,xs[i]])):=Same.upd hf
  have ne1:en≠s.heap.objs.size:=by obtain ⟨_,e⟩:=j1.obj; exact Nat.ne_of_lt (Heap.lt_size e)
  have ne2:it≠s.heap.objs.size:=by obtain ⟨_,e,_⟩:=j2; exact Nat.ne_of_lt (Heap.lt_size e)
  refine ⟨_,.ref s.heap.objs.size,_,rfl,rfl,I2,⟨st',it'.1,⟨by rw [upd_ne ne1]; exact j3,by rw [upd_ne ne2]; exact j4⟩,j5.same sm,by simp [j6],fun m y hy=>?_,j8.trans sm⟩,fun S zs e=>sm S _ e⟩
  by_cases hm:m < i
  ·rw [List.getElem?_append_left (by omega)] at hy
   obtain ⟨t,z,e1,e2,e3⟩:=j7 m y hy
   exact ⟨t,z,e1,e2,sm _ _ e3⟩
  ·have hlen:=(List.getElem?_eq_some_iff.mp hy).1
   rw [List.length_append,List.length_singleton] at hlen
   have:m=i:=by omega
   subst this
   rw [List.getElem?_append_right (by omega),j6,Nat.sub_self] at hy
   have hy:V.ref s.heap.objs.size=y:=by simpa using hy
   exact ⟨_,xs[m],hy.symm,List.getElem?_eq_getElem hxs,upd_same⟩
 done:=fun A s H ys E hh I j=>by
  obtain ⟨j1,j2,⟨j3,j4⟩,j5,j6,j7,j8⟩:=j
  obtain ⟨its,rv,p,hz⟩:=I.tuple j5
  have hl:=rv.length
  have D:=draws_tup (prog:=X.prog) (w:=X.w) (A:=A.in1) hh it a hai its.toArray
  have e:xs.length=its.toArray.size:=by rw [List.size_toArray]; omega
  rw [e] at j1 j2
  refine en_end D j1 ⟨j2,p⟩ fun h' eb=>⟨rfl,?_⟩
  obtain ⟨g0,g1,g2,g3,g4,g5⟩:=fi.of j4
  exact I.turned (t':=s.toks) (fun b o hb e=>eb b o hb e) g0 g1 g3 g4 g5
section
variable {X:Cx}
theorem boot_list':bootBuiltins "list" = some (.type "list"):=by decide +kernel
noncomputable def tListEn (K:PySem.W.Frag) (ta:TA):TE:=fun σ H Q=>ta σ H fun vs H1=>∃ a xs,vs=[.ref a]∧SqT K H1 a xs ∧
 ∀ (S:Addr) (ys:List V) (H2:Hp),H1 S=none→Same H1 H2→ys.length=xs.length→Pairs H2 xs ys→H2 S=some (.lst ys)→Q (.ref S) H2
theorem qe_list_enumerate {e:Expr} {ta:TA} {p p2 pos pos2:Pos} (hg:Gl X "list") (hm:X.mg "list" = none) (hg2:Gl X "enumerate") (hm2:X.mg "enumerate" = none) (ha:QA X [e] ta) (hc:X.calm=true:=by rfl)
  (hs:starEach [.Call (.Name "enumerate" p2) [e] [] pos2] X.env=[(false,eval (.Call (.Name "enumerate" p2) [e] [] pos2) X.env)]:=by rfl) (hs2:starEach [e] X.env=[(false,eval e X.env)]:=by rfl) :
  QE X (.Call (.Name "list" p) [.Call (.Name "enumerate" p2) [e] [] pos2] [] pos) (tListEn X.K ta):=by
 refine ⟨fun pins s σ H Q I h=>?_⟩
 refine Call_ (ld_blt I hg hm boot_list' (PyProof.Rows.callWith_type1 ?_ hs rfl))
 rw [hs]
 show wpAny _ _ (spliced ((false,eval (.Call (.Name "enumerate" p2) [e] [] pos2) X.env) :: [])) _ _ s
 refine Calls.spliced_cons ?_
 refine Call_ (ld_blt I hg2 hm2 PyProof.Rows.boot_enumerate (PyProof.Rows.callWith_type1 (thn (ha.run pos2 pins s σ H _ I h) fun us s1 ⟨vs,H1,I1,r1,q1⟩=>?_) hs2 rfl))
 obtain ⟨a,xs,e1,hq,q⟩:=q1
 subst e1
 cases r1 with
 | cons r rr =>
  cases rr
  cases r
  obtain ⟨its,rv,pt,hz⟩:=I1.tuple hq
  have hlt:a < s1.heap.objs.size:=by obtain ⟨o,e,_⟩:=id pt; exact Heap.lt_size e
  refine call_enum_tup (show s1.heap.IsTuple a its.toArray from pt) fun h' hen hit hsz hk=>?_
  refine Calls.spliced_nil ?_
  have I2:Inv X pins σ H1 { s1 with heap:=h' }:=I1.kept (t':=s1.toks) hk
  have fe:=I1.fpOk (b:=s1.heap.objs.size + 1) (Nat.le_succ _) (I1.hok.fresh (Nat.le_succ _))
  have fi:=I1.fpOk (b:=s1.heap.objs.size) (Nat.le_refl _) (I1.hok.fresh (Nat.le_refl _))
  have C:=src_enum (X:=X) (pins:=pins) (σ:=σ) (H0:=H1) (en:=s1.heap.objs.size + 1) (it:=s1.heap.objs.size) (a:=a) (xs:=xs) fe fi (Nat.succ_ne_self _) (Nat.ne_of_lt (Nat.lt_succ_of_lt hlt)) (Nat.ne_of_lt hlt)
  refine call_list_src C (by omega) (I1.ok.hd hc) I2 ⟨.inl ⟨rfl,_,hen⟩,hit,⟨fe.1,fi.1⟩,hq,rfl,fun j y hy=>by simp at hy,Same.refl _⟩ (fun S hge hS h2 k2=>?_) fun S H' ys hS hS' hl' hj=>?_
  ·have sm:Same H1 (upd H1 S (.lst [])):=Same.upd hS
   refine ⟨.inl ⟨rfl,_,k2 _ _ hen⟩,hit.at fun o e=>k2 _ _ e,⟨?_,?_⟩,hq.same sm,rfl,fun j y hy=>by simp at hy,sm⟩
   ·rw [upd_ne (show s1.heap.objs.size + 1≠S from fun z=>?_)]
    ·exact fe.1
    ·have hge:h'.objs.size≤S:=hge
     omega
   ·rw [upd_ne (show s1.heap.objs.size≠S from fun z=>?_)]
    ·exact fi.1
    ·have hge:h'.objs.size≤S:=hge
     omega
  ·obtain ⟨h,j⟩:=hj
   exact q S ys H' hS j.2.2.2.2.2.2 hl' j.2.2.2.2.2.1 hS'
end
end L2
namespace L2
open PySem PySem.Spec PyProof.Rows
section
variable {X:Cx}
end
end L2
namespace L2
open PySem PySem.SeqAt
open PySem.AutoSeq1 (wpAny_loadPart')
open PySem.MeetsSeq PySem.MeetsSeq2 PySem.MeetsSeq3 PySem.SeqRoads2
theorem ne_loopAt (l b:Addr) (items items2:Array Value) (n n2:Nat) (dd dd2:Option Addr) (sl sl2:Array (Option Value)) (hsz:items.size=items2.size) (e:Nat→Bool) (k:Nat) :
  ∀ i:Nat,items.size - i=k→Meets (Builtin.«list.__eq__.loop» ⟨[.ref l,.ref b,rawInt i,rawInt 3],[]⟩)
   (fun A R s=>s.heap.get? l=some { cls:=.type "list",dict:=dd,data:=.seq items n,slots:=sl }∧s.heap.get? b=some { cls:=.type "list",dict:=dd2,data:=.seq items2 n2,slots:=sl2 } ∧
    (∀ j (h1:j < items.size) (h2:j < items2.size),EqAt A.in1 s items[j] items2[j] (e j)) ∧
    R (.ok (.ret (.bool (!((List.range items.size).drop i).all e)))) s):=by
 induction k with
 | zero =>
  intro i hk prog w A R s h
  obtain ⟨hp,g,d,tk,os⟩:=s; obtain ⟨hl,hb,he,h⟩:=h
  wp_walk using wpAny_loadPart' hl,wpAny_loadPart' hb
  have hi1:items[((i:Nat):Int).toNat]?=none:=by simp; omega
  have hi2:items2[((i:Nat):Int).toNat]?=none:=by simp; omega
  have hd:(List.range items.size).drop i=[]:=by simp; omega
  rw [hd] at h
  rw [hi1,hi2]
  wp_walk using wpAny_loadPart' hl,wpAny_loadPart' hb
  show R (.ok (.ret (.bool (items.size != items2.size)))) _
  rw [hsz]
  simpa using h
 | succ k ih =>
  intro i hk prog w A R s h
  obtain ⟨hp,g,d,tk,os⟩:=s; obtain ⟨hl,hb,he,h⟩:=h
  wp_walk using wpAny_loadPart' hl,wpAny_loadPart' hb
  have hlt:i < items.size:=by omega
  have hlt2:i < items2.size:=by omega
  have hi1:items[((i:Nat):Int).toNat]?=some items[i]:=by simp [hlt]
  have hi2:items2[((i:Nat):Int).toNat]?=some items2[i]:=by simp [hlt2]
  have hd:(List.range items.size).drop i=i :: (List.range items.size).drop (i + 1):=by simp [List.drop_eq_getElem_cons,hlt]
  have hc:((i:Int) + 1)=((i + 1:Nat):Int):=by push_cast; rfl
  rw [hd,List.all_cons] at h
  rw [hi1,hi2]
  refine wpAny_bind (he i hlt hlt2 prog w _ _ ?_)
  cases hb':e i with
  | true =>
   rw [hb'] at h
   wp_walk
   rw [hc]
   exact ⟨plainId_quiet plain_eq_loop _,codeAny_builtin entry_eq_loop (by
    rw [Around.under_plainId plain_eq_loop _]
    exact ih (i + 1) (by omega) prog w A R _ ⟨hl,hb,he,by simpa using h⟩)⟩
  | false =>
   rw [hb'] at h
   wp_walk using wpAny_loadPart' hl,wpAny_loadPart' hb
   rw [hi1,hi2]
   wp_walk
   simpa using h
theorem list_neAt (l b:Addr) (items items2:Array Value) (n n2:Nat) (dd dd2:Option Addr) (sl sl2:Array (Option Value)) (hsz:items.size=items2.size) (e:Nat→Bool) :
  Meets (Builtin.«list.__ne__» ⟨[.ref l,.ref b],[]⟩)
   (fun A R s=>s.heap.get? l=some { cls:=.type "list",dict:=dd,data:=.seq items n,slots:=sl }∧s.heap.get? b=some { cls:=.type "list",dict:=dd2,data:=.seq items2 n2,slots:=sl2 } ∧
    (∀ j (h1:j < items.size) (h2:j < items2.size),EqAt A.in1 s items[j] items2[j] (e j)) ∧
    R (.ok (.ret (.bool (!(List.range items.size).all e)))) s):=by
 intro prog w A R s h
 obtain ⟨hp,g,d,tk,os⟩:=s; obtain ⟨hl,hb,he,h⟩:=h
 have f3:=PySem.AutoSeq1.sub_list_list
 have hne:¬ (items.size != items2.size)=true:=by simp [hsz]
 wp_walk using wpAny_loadPart' hl,wpAny_loadPart' hb
 exact ⟨plainId_quiet plain_eq_loop _,codeAny_builtin entry_eq_loop (by
  rw [Around.under_plainId plain_eq_loop _]
  exact ne_loopAt l b items items2 n n2 dd dd2 sl sl2 hsz e _ 0 rfl prog w A R _ ⟨hl,hb,he,by simpa using h⟩)⟩
theorem tuple_neAt (l b:Addr) (items items2:Array Value) (n n2:Nat) (dd dd2:Option Addr) (sl sl2:Array (Option Value)) (e:Nat→Bool) :
  Meets (Builtin.«tuple.__ne__» ⟨[.ref l,.ref b],[]⟩)
   (fun A R s=>s.heap.get? l=some { cls:=.type "tuple",dict:=dd,data:=.seq items n,slots:=sl }∧s.heap.get? b=some { cls:=.type "tuple",dict:=dd2,data:=.seq items2 n2,slots:=sl2 } ∧
    (∀ j (h1:j < items.size) (h2:j < items2.size),EqAt A.in1 s items[j] items2[j] (e j)) ∧
    R (.ok (.ret (.bool (!((List.range (min items.size items2.size)).all e && items.size == items2.size))))) s) :=
 .of_wp fun prog w A R s h=>by
  obtain ⟨hp,g,d,tk,os⟩:=s; obtain ⟨hl,hb,he,h⟩:=h
  have f2:=PySem.AutoSeq1.sub_tuple_tuple
  have hZ:(items.toList.zip items2.toList).length=min items.size items2.size:=by simp
  wp_walk using wpAny_loadPart' hl,wpAny_loadPart' hb,wpAny_forIn_list _ (fun rest b s'=>b.1=none∧s'=⟨hp,g,d,tk,os⟩∧∃ i,rest=(items.toList.zip items2.toList).drop i ∧
   R (.ok (.ret (.bool (!(((List.range (min items.size items2.size)).drop i).all e && items.size == items2.size))))) ⟨hp,g,d,tk,os⟩) _
  case turn =>
   rintro ⟨y,x⟩ rest b s' ⟨hb',rfl,i,hz,hR⟩
   have hlt:i < (items.toList.zip items2.toList).length:=by
    rcases Nat.lt_or_ge i (items.toList.zip items2.toList).length with h' | h'
    ·exact h'
    ·rw [List.drop_of_length_le h'] at hz; cases hz
   have hm:i < min items.size items2.size:=hZ ▸ hlt
   have h1:i < items.size:=Nat.lt_of_lt_of_le hm (Nat.min_le_left _ _)
   have h2:i < items2.size:=Nat.lt_of_lt_of_le hm (Nat.min_le_right _ _)
   rw [List.drop_eq_getElem_cons hlt] at hz
   injection hz with hyx hrest
   have hy:y=items[i]:=by have:=congrArg Prod.fst hyx; simpa using this
   have hx:x=items2[i]:=by have:=congrArg Prod.snd hyx; simpa using this
   subst hy hx
   have hd:(List.range (min items.size items2.size)).drop i=i :: (List.range (min items.size items2.size)).drop (i + 1):=by simp [List.drop_eq_getElem_cons,hm]
   rw [hd,List.all_cons] at hR
   refine wpAny_bind (he i h1 h2 prog w _ _ ?_)
   cases hy:e i with
   | true =>
    rw [hy] at hR
    wp_walk
    exact ⟨rfl,rfl,i + 1,hrest,by simpa using hR⟩
   | false =>
    rw [hy] at hR
    wp_walk
    exact ⟨_,rfl,by simpa using hR⟩
  case fin =>
   rintro ⟨b1,b2⟩ s' ⟨hb',rfl,i,hz,hR⟩
   simp only at hb'
   subst hb'
   have hge:min items.size items2.size≤i:=by
    rcases Nat.lt_or_ge i (items.toList.zip items2.toList).length with h' | h'
    ·rw [List.drop_eq_getElem_cons h'] at hz; cases hz
    ·exact hZ ▸ h'
   rw [List.drop_of_length_le (by simpa using hge)] at hR
   wp_walk
   exact ⟨_,rfl,by simpa [Builtin.Tuple.tupleCompareSizes,bne] using hR⟩
  case h =>
   exact ⟨rfl,rfl,0,rfl,by simpa using h⟩
section
variable {prog:Program} {w:World} {A:Around} {E:Value→Shared→Prop} {s:Shared}
theorem ne_listsAt {l b:Addr} {items items2:Array Value} {e:Nat→Bool} {Q:Value→Shared→Prop} (hl:s.heap.IsList l items) (hb:s.heap.IsList b items2) (hsz:items.size=items2.size) (hu:A.units < cLine)
  (he:∀ j (h1:j < items.size) (h2:j < items2.size),EqAt A.in1 s items[j] items2[j] (e j)) (h:Q (.bool (!(List.range items.size).all e)) s):wpAny (model prog w) A (compareOp .NotEq (.ref l) (.ref b)) Q E s:=by
 obtain ⟨⟨cls,dd,data,sl⟩,ho,hc,n,hd⟩:=id hl
 obtain ⟨⟨cls2,dd2,data2,sl2⟩,ho2,hc2,n2,hd2⟩:=id hb
 simp only at hc hd hc2 hd2
 subst hc hd hc2 hd2
 exact richCompare_meets_room (op:=.NotEq) ⟨_,ho,rfl⟩ ⟨_,ho2,rfl⟩ F.slot_list_ne F.entry_list_ne (F.args_list_ne_2 _ _) (list_neAt l b items items2 n n2 dd dd2 sl sl2 hsz e)
  ⟨ho,ho2,he,show Value.bool (!(List.range items.size).all e)≠Value.notImplemented∧Q (.bool (!(List.range items.size).all e)) s from ⟨(fun x=>nomatch x),h⟩⟩ hu
theorem ne_tuplesAt {l b:Addr} {items items2:Array Value} {e:Nat→Bool} {Q:Value→Shared→Prop} (hl:s.heap.IsTuple l items) (hb:s.heap.IsTuple b items2) (hu:A.units < cLine)
  (he:∀ j (h1:j < items.size) (h2:j < items2.size),EqAt A.in1 s items[j] items2[j] (e j)) (h:Q (.bool (!((List.range (min items.size items2.size)).all e && items.size == items2.size))) s):wpAny (model prog w) A (compareOp .NotEq (.ref l) (.ref b)) Q E s:=by
 obtain ⟨⟨cls,dd,data,sl⟩,ho,hc,n,hd⟩:=id hl
 obtain ⟨⟨cls2,dd2,data2,sl2⟩,ho2,hc2,n2,hd2⟩:=id hb
 simp only at hc hd hc2 hd2
 subst hc hd hc2 hd2
 exact richCompare_meets_room (op:=.NotEq) ⟨_,ho,rfl⟩ ⟨_,ho2,rfl⟩ F.slot_tuple_ne F.entry_tuple_ne (F.args_tuple_ne_2 _ _) (tuple_neAt l b items items2 n n2 dd dd2 sl sl2 e)
  ⟨ho,ho2,he,show Value.bool (!((List.range (min items.size items2.size)).all e && items.size == items2.size))≠Value.notImplemented∧Q (.bool (!((List.range (min items.size items2.size)).all e && items.size == items2.size))) s from ⟨(fun x=>nomatch x),h⟩⟩ hu
end
end L2
namespace L2
open PySem PySem.Spec PyProof.Rows
inductive Dt where
 | flat (v:V)
 | tup (ds:List Dt)
 | lst (ds:List Dt)
inductive IsD (K:PySem.W.Frag) (H:Hp):Nat→V→Dt→Prop where
 | flat {n:Nat} {v:V} (h:flatV v=true):IsD K H n v (.flat v)
 | tup {n:Nat} {a:Addr} {vs:List V} {ds:List Dt} (q:SqT K H a vs) (l:vs.length=ds.length) (h:∀ (j:Nat) (v:V) (d:Dt),vs[j]?=some v→ds[j]?=some d→IsD K H n v d):IsD K H (n + 1) (.ref a) (.tup ds)
 | lst {n:Nat} {a:Addr} {vs:List V} {ds:List Dt} (q:SqL K H a vs) (l:vs.length=ds.length) (h:∀ (j:Nat) (v:V) (d:Dt),vs[j]?=some v→ds[j]?=some d→IsD K H n v d):IsD K H (n + 1) (.ref a) (.lst ds)
theorem IsD.same {K:PySem.W.Frag} {H H':Hp} {n:Nat} {v:V} {d:Dt} (h:IsD K H n v d) (e:Same H H'):IsD K H' n v d:=by
 induction h with
 | flat h=>exact .flat h
 | tup q l _ ih=>exact .tup (e.tup q) l ih
 | lst q l _ ih=>exact .lst (e.seq q) l ih
theorem IsD.up {K:PySem.W.Frag} {H:Hp} {n m:Nat} {v:V} {d:Dt} (h:IsD K H n v d) (hm:n≤m):IsD K H m v d:=by
 induction h generalizing m with
 | flat h=>exact .flat h
 | tup q l _ ih =>
  obtain ⟨k,rfl⟩:∃ k,m=k + 1:=⟨m - 1,by omega⟩
  exact .tup q l fun j v d e1 e2=>ih j v d e1 e2 (by omega)
 | lst q l _ ih =>
  obtain ⟨k,rfl⟩:∃ k,m=k + 1:=⟨m - 1,by omega⟩
  exact .lst q l fun j v d e1 e2=>ih j v d e1 e2 (by omega)
theorem eqV_self {v:V} (h:flatV v=true):eqV v v=true:=by
 cases v with
 | non=>rfl
 | bl b=>simp [eqV]
 | int i=>simp [eqV]
 | str x=>simp [eqV]
 | byt _=>cases h
 | flt _=>cases h
 | ref _=>cases h
 | ty _=>cases h
section
variable {X:Cx} {pins:List (Addr×Obj)} {σ:St} {H:Hp} {s:Shared}
theorem eqAt_same (I:Inv X pins σ H s):∀ {n:Nat} {x y:V} {d:Dt},IsD X.K H n x d→IsD X.K H n y d→∀ {A:Around} {u v:Value},RelV x u→RelV y v→A.units + n < cLine→SeqAt.EqAt A s u v true:=by
 intro n
 induction n with
 | zero =>
  intro x y d hx hy A u v rx ry hu
  cases hx with
  | flat fx =>
   cases hy with
   | flat fy =>
    have:=eqAt_V (A:=A) (s:=s) rx ry fx fy
    rw [eqV_self fx] at this
    exact this
 | succ n ih =>
  intro x y d hx hy A u v rx ry hu
  cases hx with
  | flat fx =>
   cases hy with
   | flat fy =>
    have:=eqAt_V (A:=A) (s:=s) rx ry fx fy
    rw [eqV_self fx] at this
    exact this
  | @tup _ a vs ds q l h =>
   cases hy with
   | @tup _ b ws _ q' l' h' =>
    cases rx
    cases ry
    by_cases hab:a=b
    ·subst hab
     exact SeqAt.EqAt.same _
    obtain ⟨its,r1,p1,_⟩:=I.tuple q
    obtain ⟨its2,r2,p2,_⟩:=I.tuple q'
    have l1:=r1.length
    have l2:=r2.length
    have:=SeqAt.RcAt.tuples (A:=A) (e:=fun _=>true) (show s.heap.IsTuple a its.toArray from p1) (show s.heap.IsTuple b its2.toArray from p2) (by omega) fun j h1 h2=>by
     have h1':j < vs.length:=by simp only [List.size_toArray] at h1; omega
     have h2':j < ws.length:=by simp only [List.size_toArray] at h2; omega
     obtain ⟨u1,g1,k1⟩:=r1.get (List.getElem?_eq_getElem h1')
     obtain ⟨u2,g2,k2⟩:=r2.get (List.getElem?_eq_getElem h2')
     have e1:its.toArray[j]=u1:=by
      have:its[j]?=some its[j]:=by simp
      rw [this] at g1
      simpa using g1
     have e2:its2.toArray[j]=u2:=by
      have:its2[j]?=some its2[j]:=by simp
      rw [this] at g2
      simpa using g2
     rw [e1,e2]
     have hd:j < ds.length:=by omega
     exact ih (h j _ _ (List.getElem?_eq_getElem h1') (List.getElem?_eq_getElem hd)) (h' j _ _ (List.getElem?_eq_getElem h2') (List.getElem?_eq_getElem hd)) k1 k2 (by show A.units + 1 + n < cLine; omega)
    have e:((List.range (min its.toArray.size its2.toArray.size)).all (fun _=>true) && its.toArray.size == its2.toArray.size)=true:=by
     have:its.toArray.size=its2.toArray.size:=by simp only [List.size_toArray]; omega
     rw [this]
     simp
    rw [e] at this
    exact SeqAt.EqAt.of_refs hab this
  | @lst _ a vs ds q l h =>
   cases hy with
   | @lst _ b ws _ q' l' h' =>
    cases rx
    cases ry
    by_cases hab:a=b
    ·subst hab
     exact SeqAt.EqAt.same _
    obtain ⟨its,r1,p1,_⟩:=I.list q
    obtain ⟨its2,r2,p2,_⟩:=I.list q'
    have l1:=r1.length
    have l2:=r2.length
    have:=SeqAt.RcAt.lists (A:=A) (e:=fun _=>true) p1.isList p2.isList (by simp only [List.size_toArray]; omega) (by omega) fun j h1 h2=>by
     have h1':j < vs.length:=by simp only [List.size_toArray] at h1; omega
     have h2':j < ws.length:=by simp only [List.size_toArray] at h2; omega
     obtain ⟨u1,g1,k1⟩:=r1.get (List.getElem?_eq_getElem h1')
     obtain ⟨u2,g2,k2⟩:=r2.get (List.getElem?_eq_getElem h2')
     have e1:its.toArray[j]=u1:=by
      have:its[j]?=some its[j]:=by simp
      rw [this] at g1
      simpa using g1
     have e2:its2.toArray[j]=u2:=by
      have:its2[j]?=some its2[j]:=by simp
      rw [this] at g2
      simpa using g2
     rw [e1,e2]
     have hd:j < ds.length:=by omega
     exact ih (h j _ _ (List.getElem?_eq_getElem h1') (List.getElem?_eq_getElem hd)) (h' j _ _ (List.getElem?_eq_getElem h2') (List.getElem?_eq_getElem hd)) k1 k2 (by show A.units + 1 + n < cLine; omega)
    have e:(List.range its.toArray.size).all (fun _=>true)=true:=by simp
    rw [e] at this
    exact SeqAt.EqAt.of_refs hab this
theorem itemsAt (I:Inv X pins σ H s) {n:Nat} {A:Around} {vs ws:List V} {its its2:List Value} {ds:List Dt} (r1:Vals vs its) (r2:Vals ws its2) (l:vs.length=ds.length) (l':ws.length=ds.length)
  (h:∀ (j:Nat) (v:V) (d:Dt),vs[j]?=some v→ds[j]?=some d→IsD X.K H n v d) (h':∀ (j:Nat) (v:V) (d:Dt),ws[j]?=some v→ds[j]?=some d→IsD X.K H n v d) (hu:A.units + n < cLine) :
  ∀ j (h1:j < its.toArray.size) (h2:j < its2.toArray.size),SeqAt.EqAt A s its.toArray[j] its2.toArray[j] ((fun _=>true) j):=fun j h1 h2=>by
 have l1:=r1.length
 have l2:=r2.length
 have h1':j < vs.length:=by simp only [List.size_toArray] at h1; omega
 have h2':j < ws.length:=by simp only [List.size_toArray] at h2; omega
 obtain ⟨u1,g1,k1⟩:=r1.get (List.getElem?_eq_getElem h1')
 obtain ⟨u2,g2,k2⟩:=r2.get (List.getElem?_eq_getElem h2')
 have e1:its.toArray[j]=u1:=by
  have:its[j]?=some its[j]:=by simp
  rw [this] at g1
  simpa using g1
 have e2:its2.toArray[j]=u2:=by
  have:its2[j]?=some its2[j]:=by simp
  rw [this] at g2
  simpa using g2
 rw [e1,e2]
 have hd:j < ds.length:=by omega
 exact eqAt_same I (h j _ _ (List.getElem?_eq_getElem h1') (List.getElem?_eq_getElem hd)) (h' j _ _ (List.getElem?_eq_getElem h2') (List.getElem?_eq_getElem hd)) k1 k2 hu
end
section
variable {X:Cx}
noncomputable def rEqD (K:PySem.W.Frag) (b:Bool):R2:=fun x y H Q=>∃ (a c:Addr) (n:Nat) (d:Dt),x=.ref a∧y=.ref c∧n≤190∧IsD K H n x d∧IsD K H n y d∧Q (.bl b) H
theorem op_eqD (hu:X.A.units + 200 < cLine):OpR X (compareOp .Eq) (rEqD X.K true):=by
 intro pins s σ H x y v u Q I rx ry h
 obtain ⟨a,c,n,d,rfl,rfl,hn,hx,hy,q⟩:=h
 cases rx
 cases ry
 cases hx with
 | flat fx=>cases fx
 | @tup n _ vs ds qx l hd =>
  cases hy with
  | @tup _ _ ws _ qy l' hd' =>
   obtain ⟨its,r1,p1,_⟩:=I.tuple qx
   obtain ⟨its2,r2,p2,_⟩:=I.tuple qy
   have l1:=r1.length
   have l2:=r2.length
   refine SeqAt.eq_tupleAt (e:=fun _=>true) (show s.heap.IsTuple a its.toArray from p1) (show s.heap.IsTuple c its2.toArray from p2) (by omega) (itemsAt I r1 r2 l l' hd hd' (by show X.A.units + 1 + n < cLine; omega)) ?_
   have e:((List.range (min its.toArray.size its2.toArray.size)).all (fun _=>true) && its.toArray.size == its2.toArray.size)=true:=by
    have:its.toArray.size=its2.toArray.size:=by simp only [List.size_toArray]; omega
    rw [this]
    simp
   rw [e]
   exact ⟨.bl true,H,I,rfl,q⟩
 | @lst n _ vs ds qx l hd =>
  cases hy with
  | @lst _ _ ws _ qy l' hd' =>
   obtain ⟨its,r1,p1,_⟩:=I.list qx
   obtain ⟨its2,r2,p2,_⟩:=I.list qy
   have l1:=r1.length
   have l2:=r2.length
   refine SeqAt.eq_listAt (e:=fun _=>true) p1.isList p2.isList (by simp only [List.size_toArray]; omega) (by omega) (itemsAt I r1 r2 l l' hd hd' (by show X.A.units + 1 + n < cLine; omega)) ?_
   have e:(List.range its.toArray.size).all (fun _=>true)=true:=by simp
   rw [e]
   exact ⟨.bl true,H,I,rfl,q⟩
theorem op_neD (hu:X.A.units + 200 < cLine):OpR X (compareOp .NotEq) (rEqD X.K false):=by
 intro pins s σ H x y v u Q I rx ry h
 obtain ⟨a,c,n,d,rfl,rfl,hn,hx,hy,q⟩:=h
 cases rx
 cases ry
 cases hx with
 | flat fx=>cases fx
 | @tup n _ vs ds qx l hd =>
  cases hy with
  | @tup _ _ ws _ qy l' hd' =>
   obtain ⟨its,r1,p1,_⟩:=I.tuple qx
   obtain ⟨its2,r2,p2,_⟩:=I.tuple qy
   have l1:=r1.length
   have l2:=r2.length
   refine ne_tuplesAt (e:=fun _=>true) (show s.heap.IsTuple a its.toArray from p1) (show s.heap.IsTuple c its2.toArray from p2) (by omega) (itemsAt I r1 r2 l l' hd hd' (by show X.A.units + 1 + n < cLine; omega)) ?_
   have e:(!((List.range (min its.toArray.size its2.toArray.size)).all (fun _=>true) && its.toArray.size == its2.toArray.size))=false:=by
    have:its.toArray.size=its2.toArray.size:=by simp only [List.size_toArray]; omega
    rw [this]
    simp
   rw [e]
   exact ⟨.bl false,H,I,rfl,q⟩
 | @lst n _ vs ds qx l hd =>
  cases hy with
  | @lst _ _ ws _ qy l' hd' =>
   obtain ⟨its,r1,p1,_⟩:=I.list qx
   obtain ⟨its2,r2,p2,_⟩:=I.list qy
   have l1:=r1.length
   have l2:=r2.length
   refine ne_listsAt (e:=fun _=>true) p1.isList p2.isList (by simp only [List.size_toArray]; omega) (by omega) (itemsAt I r1 r2 l l' hd hd' (by show X.A.units + 1 + n < cLine; omega)) ?_
   have e:(!(List.range its.toArray.size).all (fun _=>true))=false:=by simp
   rw [e]
   exact ⟨.bl false,H,I,rfl,q⟩
noncomputable def rEqA (K:PySem.W.Frag):R2:=fun x y H Q=>rEq x y H Q∨rEqD K true x y H Q
noncomputable def rNeA (K:PySem.W.Frag):R2:=fun x y H Q=>rNe x y H Q∨rEqD K false x y H Q
theorem op_eqA (hu:X.A.units + 200 < cLine):OpR X (compareOp .Eq) (rEqA X.K):=op_eq.or (op_eqD hu)
theorem op_neA (hu:X.A.units + 200 < cLine):OpR X (compareOp .NotEq) (rNeA X.K):=op_ne.or (op_neD hu)
theorem s_eq {K:PySem.W.Frag} {x y:V} {H:Hp} {Q:VK} (hs:scal x y=true) (h:Q (.bl (decide (x=y))) H):rEqA K x y H Q:=.inl ⟨hs,h⟩
theorem s_ne {K:PySem.W.Frag} {x y:V} {H:Hp} {Q:VK} (hs:scal x y=true) (h:Q (.bl (!decide (x=y))) H):rNeA K x y H Q:=.inl ⟨hs,h⟩
theorem Room.u200 {k:Nat} {A:Around} (r:Room k A):A.units + 200 < cLine:=by have:=r.un; omega
end
end L2
namespace L2
open PySem PySem.Spec PyProof.Rows
section
variable {t u:TS} {c d:TT} {te ta tb tc:TE} {g:TG} {gs:TGs} {ts:TA} {D:Ends} {σ:St} {H:Hp} {Q:VK} {QB:Bool→Hp→Prop} {QA':List V→Hp→Prop}
theorem s_seq (h:t { D with nx:=u D } σ H):tSeq t u D σ H:=h
theorem s_asg (h:te σ H fun x H1=>g x σ H1 D.nx):tAsg te g D σ H:=h
theorem s_ret (h:te σ H D.rt):tRet te D σ H:=h
theorem s_drop (h:te σ H fun _ H1=>D.nx σ H1):tDrop te D σ H:=h
theorem s_next (h:D.nx σ H):tNext D σ H:=h
theorem s_ifS (h:c σ H fun b H1=>if b=true then t D σ H1 else u D σ H1):tIfS c t u D σ H:=h
theorem s_var {i:Nat} {v:V} (e:σ[i]?=some (some v)) (h:Q v H):tVar i σ H Q:=⟨v,e,h⟩
theorem s_c {v:V} (h:Q v H):tC v σ H Q:=h
theorem s_op {r:R2} (h:ta σ H fun x H1=>tb σ H1 fun y H2=>r x y H2 Q):tOp r ta tb σ H Q:=h
theorem s_un {r:V→Hp→VK→Prop} (h:ta σ H fun x H1=>r x H1 Q):tUn r ta σ H Q:=h
theorem s_test (h:te σ H fun x H'=>∃ k,x=.bl k∧QB k H'):tTest te σ H QB:=h
theorem s_tB (h:te σ H fun x H'=>∃ k,x=.bl k∧QB k H'):tB te σ H QB:=h
theorem s_ex {b:Bool} {P:Bool→Prop} (h:P b):∃ k,V.bl b=V.bl k∧P k:=⟨b,rfl,h⟩
theorem s_exi {i:Int} {P:Int→Prop} (h:P i):∃ k,V.int i=V.int k∧P k:=⟨i,rfl,h⟩
theorem s_not (h:c σ H fun b H1=>QB (!b) H1):tNot c σ H QB:=h
theorem s_and (h:c σ H fun b H1=>if b=true then d σ H1 QB else QB false H1):tAnd c d σ H QB:=h
theorem s_or (h:c σ H fun b H1=>if b=true then QB true H1 else d σ H1 QB):tOr c d σ H QB:=h
theorem s_andV (h:ta σ H fun x H1=>∃ k,x=.bl k∧if k=true then tb σ H1 Q else Q (.bl false) H1):tAndV ta tb σ H Q:=h
theorem s_orV (h:ta σ H fun x H1=>∃ k,x=.bl k∧if k=true then Q (.bl true) H1 else tb σ H1 Q):tOrV ta tb σ H Q:=h
theorem s_notV (h:ta σ H fun x H1=>∃ k,x=.bl k∧Q (.bl (!k)) H1):tNotV ta σ H Q:=h
theorem s_nil (h:QA' [] H):tNil σ H QA':=h
theorem s_cons (h:te σ H fun x H1=>ts σ H1 fun xs H2=>QA' (x :: xs) H2):tCons te ts σ H QA':=h
theorem s_vals {xs:List V} (h:QA' xs H):tVals xs σ H QA':=h
theorem s_tup (h:ts σ H fun xs H1=>xs.length≤sizeLine∧∀ p,H1 p=none→Q (.ref p) (upd H1 p (.tup xs))):tTup ts σ H Q:=h
theorem s_lst (h:ts σ H fun xs H1=>xs.length≤sizeLine∧∀ p,H1 p=none→Q (.ref p) (upd H1 p (.lst xs))):tLst ts σ H Q:=h
theorem s_call {sp:Sp} {dvs:List V} {E:XK} (h:ts σ H fun vs H1=>sp (vs++dvs) H1 Q E):tCall sp dvs E ts σ H Q:=h
theorem s_cb {r:List V→Hp→VK→Prop} (h:ts σ H fun vs H1=>r vs H1 Q):tCB r ts σ H Q:=h
theorem s_bm {K:PySem.W.Frag} {T:String} {r:V→List V→Hp→VK→Prop} (h:te σ H fun x H1=>tyV K T x H1∧ts σ H1 fun xs H2=>r x xs H2 Q):tBM K T r te ts σ H Q:=h
theorem s_bm0 {K:PySem.W.Frag} {T:String} {r:V→List V→Hp→VK→Prop} (h:te σ H fun x H1=>tyV K T x H1∧r x [] H1 Q):tBM0 K T r te σ H Q:=h
theorem s_sl {r:V→Option Int→Option Int→Hp→VK→Prop} {tl th:TO} (h:te σ H fun x H1=>tl σ H1 fun l H2=>th σ H2 fun u H3=>r x l u H3 Q):tSl r te tl th σ H Q:=h
theorem s_po {QO':Option Int→Hp→Prop} (h:te σ H fun x H1=>∃ i,x=.int i∧QO' (some i) H1):tPart te σ H QO':=h
theorem s_po0 {QO':Option Int→Hp→Prop} (h:QO' none H):tNoPart σ H QO':=h
theorem s_gname {i:Nat} {v:V} {QS':St→Hp→Prop} (h:QS' (σ.set i (some v)) H):gName i v σ H QS':=h
theorem s_gtup {K:PySem.W.Frag} {n:Nat} {a:Addr} {xs:List V} {QS':St→Hp→Prop} (q:SqT K H a xs) (l:xs.length=n) (h:gs xs σ H QS'):gTup K n gs (.ref a) σ H QS':=⟨a,xs,rfl,q,l,h⟩
theorem s_gcons {v:V} {r:List V} {QS':St→Hp→Prop} (h:g v σ H fun σ' H'=>gs r σ' H' QS'):gCons g gs (v :: r) σ H QS':=⟨v,r,rfl,h⟩
theorem s_gnil {QS':St→Hp→Prop} (h:QS' σ H):gNil [] σ H QS':=⟨rfl,h⟩
theorem s_isN (h:ta σ H fun x H1=>Q (.bl (decide (x=.non))) H1):tIsN ta σ H Q:=h
end
section
variable {wi:TI} {σ0:St→St} {g:TG} {tt:TT} {te:TE} {ta:TA} {tb:TS} {D:Ends} {σ:St} {H:Hp} {Q:VK} {R:It→Hp→Prop} {K:PySem.W.Frag}
theorem s_comp (h:wi σ H fun J H1=>∀ L,H1 L=none→CompW J g tt te (σ0 σ) H1 L Q):tComp wi σ0 g tt te σ H Q:=h
theorem s_for (h:wi σ H fun J H1=>∃ W:Nat→Nat→St→Hp→Prop,(∃ m,W 0 m σ H1)∧∀ i m σ H,W i m σ H →
 (J.stop i H∧D.nx σ H)∨(J.go i H∧∃ N:St→Hp→Prop,(∀ σ' H',N σ' H'→∃ m',m' < m∧W (i + 1) m' σ' H')∧∀ x H',J.yld i H x H'→g x σ H' fun σ2 H2=>tb { D with nx:=N,ct:=N,bk:=D.nx } σ2 H2)):tFor wi g tb D σ H:=h
theorem s_rng1 (h:ta σ H fun vs H1=>∃ j:Int,vs=[.int j]∧-(2 ^ 62)≤j∧j < 2 ^ 62∧R (Itr 0 j.toNat) H1):iRng1 ta σ H R:=h
theorem s_rng3 (h:ta σ H fun vs H1=>∃ i j:Int,vs=[.int i,.int j,.int (-1)]∧(-(2 ^ 62)≤i∧i < 2 ^ 62∧-(2 ^ 62)≤j∧j < 2 ^ 62)∧R (Itd i (i - j).toNat) H1):iRng3 ta σ H R:=h
theorem s_exr {i:Int} {P:Int→Prop} (h:P i):∃ j,([V.int i]:List V)=[.int j]∧P j:=⟨i,rfl,h⟩
theorem s_exr3 {i j k:Int} {P:Int→Int→Prop} (hk:k=-1) (h:P i j):∃ a b,([V.int i,V.int j,V.int k]:List V)=[.int a,.int b,.int (-1)]∧P a b:=⟨i,j,by rw [hk],h⟩
theorem s_iany (h:te σ H fun x H1=>(∃ a,x=.ref a∧(∃ xs,SqL K H1 a xs)∧R (Itl K a) H1)∨(∃ a,x=.ref a∧(∃ xs,SqT K H1 a xs)∧R (Itt K a) H1)∨∃ z,x=.str z∧R (Its z) H1):iAny K te σ H R:=h
theorem s_irev (h:ta σ H fun vs H1=>∃ a xs,vs=[.ref a]∧SqL K H1 a xs∧R (Itv K a xs.length) H1):iRev K ta σ H R:=h
theorem s_listen (h:ta σ H fun vs H1=>∃ a xs,vs=[.ref a]∧SqT K H1 a xs∧∀ (S:Addr) (ys:List V) (H2:Hp),H1 S=none→Same H1 H2→ys.length=xs.length→Pairs H2 xs ys→H2 S=some (.lst ys)→Q (.ref S) H2):tListEn K ta σ H Q:=h
theorem s_yes {QB:Bool→Hp→Prop} (h:QB true H):tYes σ H QB:=h
theorem s_turn {L:Addr} {Nx:List V→St→Hp→Prop} {x:V} (h:g x σ H fun σ2 H3=>tt σ2 H3 fun b H4=>if b=true then te σ2 H4 fun y H5=>∃ ys,H5 L=some (.lst ys)∧ys.length < sizeLine∧(∃ zs,upd H5 L (.lst (ys++[y])) L=some (.lst zs)∧Nx zs σ2 (upd H5 L (.lst (ys++[y])))) else ∃ zs,H4 L=some (.lst zs)∧Nx zs σ2 H4):CompT g tt te L Nx x σ H:=h
theorem s_app {l:Addr} {xs:List V} {y:V} (e:H l=some (.lst xs)) (z:xs.length < sizeLine) (h:Q .non (upd H l (.lst (xs++[y])))):rAppend (.ref l) [y] H Q:=⟨l,xs,y,rfl,rfl,e,z,h⟩
theorem s_pop {l:Addr} {xs:List V} {y:V} (e:H l=some (.lst (xs++[y]))) (h:Q y (upd H l (.lst xs))):rPop (.ref l) [] H Q:=⟨l,xs++[y],y,rfl,rfl,e,by simp,by simpa using h⟩
end
end L2
namespace L2
open PySem PySem.Spec PyProof.Rows
section
variable {X:Cx} (K:PySem.W.Frag)
theorem k_add (hK:X.K=K:=by rfl):OpR X (binaryOp .Add) (rAddA K):=by subst hK; exact op_addA
theorem k_eq (hu:X.A.units + 200 < cLine) (hK:X.K=K:=by rfl):OpR X (compareOp .Eq) (rEqA K):=by subst hK; exact op_eqA hu
theorem k_ne (hu:X.A.units + 200 < cLine) (hK:X.K=K:=by rfl):OpR X (compareOp .NotEq) (rNeA K):=by subst hK; exact op_neA hu
theorem k_in (hK:X.K=K:=by rfl):OpR X (compareOp .In) (rInA K false):=by subst hK; exact op_inA
theorem k_ix (hK:X.K=K:=by rfl):IxR X (rIx K):=by subst hK; exact ix_seq
theorem k_sl (hK:X.K=K:=by rfl):SlR X (rSlA K):=by subst hK; exact sl_any
theorem k_len (hK:X.K=K:=by rfl):CallR X (.builtin "len") (rLen K):=by subst hK; exact call_lenA
inductive TyQ (K:PySem.W.Frag) (H:Hp):V→Value→Prop where
 | ty {x:V} {t:Value} (h:TyOf K H x t):TyQ K H x t
 | tup {a:Addr} {xs:List V} (q:SqT K H a xs):TyQ K H (.ref a) (.type "tuple")
 | lst {a:Addr} {xs:List V} (q:SqL K H a xs):TyQ K H (.ref a) (.type "list")
noncomputable def rIsi (K:PySem.W.Frag) (T:String):List V→Hp→VK→Prop:=fun xs H Q=>∃ x t b,xs=[x,.ty T]∧TyQ K H x t∧PySem.W.kitOne K t (.type T)=some b∧Q (.bl b) H
theorem call_isiQ {T:String}:CallR X (.builtin "isinstance") (rIsi X.K T):=by
 intro pins s σ H xs us Q I r h
 obtain ⟨x,t,b,rfl,ty,e,q⟩:=h
 obtain ⟨u,v,rfl,ru,rv⟩:=r.two
 obtain rfl:v=Value.type T:=rv
 cases ty with
 | ty ty=>exact isinst_ok I ru ty e fun tk=>⟨.bl b,H,I.tok tk,rfl,q⟩
 | tup hq =>
  cases ru
  obtain ⟨its,_,p,_⟩:=I.tuple hq
  obtain ⟨o,h1,h2,_⟩:=p
  exact PySem.W.kia_one PySem.W.kitx_tuple I.kIn ⟨o,h1,h2⟩ e (fun z=>nomatch z) fun tk=>⟨.bl b,H,I.tok tk,rfl,q⟩
 | lst hq =>
  cases ru
  obtain ⟨its,_,p,_⟩:=I.list hq
  obtain ⟨o,n,h1,h2,_⟩:=p
  exact PySem.W.kia_one PySem.W.kitx_list I.kIn ⟨o,h1,h2⟩ e (fun z=>nomatch z) fun tk=>⟨.bl b,H,I.tok tk,rfl,q⟩
theorem k_isi (T:String) (hK:X.K=K:=by rfl):CallR X (.builtin "isinstance") (rIsi K T):=by subst hK; exact call_isiQ
noncomputable def rAll (K:PySem.W.Frag):List V→Hp→VK→Prop:=fun xs H Q=>∃ (p:Addr) (bs:List Bool),xs=[.ref p]∧SqL K H p (bs.map V.bl)∧Q (.bl (bs.all id)) H
theorem k_all (hc:X.calm=true) (hK:X.K=K:=by rfl):CallR X (.builtin "all") (rAll K):=by subst hK; exact call_all hc
noncomputable def rListOf (K:PySem.W.Frag):List V→Hp→VK→Prop:=fun xs H Q=>∃ p ys,xs=[.ref p]∧(SqL K H p ys∨SqT K H p ys)∧∀ l,H l=none→Q (.ref l) (upd H l (.lst ys))
theorem k_list (hK:X.K=K:=by rfl):CallR X (.type "list") (rListOf K):=by subst hK; exact call_list_of
noncomputable def rInt:List V→Hp→VK→Prop:=fun xs H Q=>(∃ i,xs=[.int i]∧Q (.int i) H)∨∃ k,xs=[.bl k]∧Q (.int (if k then 1 else 0)) H
theorem k_int:CallR X (.type "int") rInt:=call_int1
theorem s_intb {k:Bool} {H:Hp} {Q:VK} (h:Q (.int (if k=true then 1 else 0)) H):rInt [.bl k] H Q:=.inr ⟨k,rfl,h⟩
theorem qi_anyK {tg l:Expr} {tl:TE} (hl:QE X l tl) (hK:X.K=K:=by rfl):QI X tg l (iAny K tl):=by subst hK; exact qi_any hl
theorem qi_revK {tg a:Expr} {ta:TA} {p pos:Pos} (hg:Gl X "reversed") (hm:X.mg "reversed" = none) (ha:QA X [a] ta) (hK:X.K=K:=by rfl) (hs:starEach [a] X.env=[(false,eval a X.env)]:=by rfl):QI X tg (.Call (.Name "reversed" p) [a] [] pos) (iRev K ta):=by subst hK; exact qi_rev hg hm ha hs
theorem qe_list_enumerateK {e:Expr} {ta:TA} {p p2 pos pos2:Pos} (hg:Gl X "list") (hm:X.mg "list" = none) (hg2:Gl X "enumerate") (hm2:X.mg "enumerate" = none) (ha:QA X [e] ta) (hK:X.K=K:=by rfl) (hc:X.calm=true:=by rfl)
  (hs:starEach [.Call (.Name "enumerate" p2) [e] [] pos2] X.env=[(false,eval (.Call (.Name "enumerate" p2) [e] [] pos2) X.env)]:=by rfl) (hs2:starEach [e] X.env=[(false,eval e X.env)]:=by rfl) :
  QE X (.Call (.Name "list" p) [.Call (.Name "enumerate" p2) [e] [] pos2] [] pos) (tListEn K ta):=by subst hK; exact qe_list_enumerate hg hm hg2 hm2 ha hc hs hs2
theorem qg_tupK {es:List Expr} {k:Nat} {pos:Pos} {t:TGs} {n:Nat} (hc:X.calm=true) (h:QGs X es t) (hK:X.K=K:=by rfl) (hn:(assignEach es X.env).length=n:=by rfl) (hst:(assignEach es X.env).findIdx? (·.1)=none:=by rfl):QG X (.Tuple es k pos) (gTup K n t):=by subst hK; exact qg_tup hc h hn hst
noncomputable def tTruth (K:PySem.W.Frag) (ta:TE):TT:=fun σ H Q=>ta σ H fun x H'=>∃ k,TruV K x H' k∧Q k H'
theorem qt_truthK {a:Expr} {ta:TE} (ha:QE X a ta) (he:∀ whole,isTrue a X.env whole=(do let v ← whole; standAt a.pos; holding [v] (truthy v))) (hK:X.K=K:=by rfl):QT X a (tTruth K ta):=by subst hK; exact ⟨pt_truth ha.run he⟩
theorem qe_bmK {o e:Expr} {es:List Expr} {to:TE} {t:TA} {name:Str} {apos cpos:Pos} {T id:String} {r:V→List V→Hp→VK→Prop} (pa:PlainAttrs T) (slot:Slot T name id) (hty:typeOf (.builtin id)=pure (.type "method_descriptor")) (hm:MtR X id r) (ho:QE X o to) (ha:QA X (e :: es) t) (hK:X.K=K:=by rfl)
  (hbase:attributeBase o name X.env (eval o X.env)=eval o X.env:=by rfl) (hfew:((backTo cpos (starEach (e :: es) X.env)).all (fun x=>!x.1) && (backToKw cpos (keywordEach [] X.env)).all (fun x=>x.1.isSome)
   && decide ((e :: es).length + ([]:List Keyword).length + (if ([]:List Keyword).isEmpty then 0 else 1) < 30))=true:=by rfl) (hline:(apos.endLine == cpos.line)=true:=by rfl) (hs:starEach (e :: es) X.env=(false,eval e X.env) :: starEach es X.env:=by rfl) (hplain:(backTo cpos (starEach es X.env)).any (·.1)=false:=by rfl):QE X (.Call (.Attribute o name apos) (e :: es) [] cpos) (tBM K T r to t):=by subst hK; exact qe_bm pa slot hty hm ho ha hbase hfew hline hs hplain
theorem qe_bm0K {o:Expr} {to:TE} {name:Str} {apos cpos:Pos} {T id:String} {r:V→List V→Hp→VK→Prop} (pa:PlainAttrs T) (slot:Slot T name id) (hty:typeOf (.builtin id)=pure (.type "method_descriptor")) (hm:MtR X id r) (ho:QE X o to) (hK:X.K=K:=by rfl) (hbase:attributeBase o name X.env (eval o X.env)=eval o X.env:=by rfl) (hline:(apos.endLine == cpos.line)=true:=by rfl):QE X (.Call (.Attribute o name apos) [] [] cpos) (tBM0 K T r to):=by subst hK; exact qe_bm0 pa slot hty hm ho hbase hline
end
section
variable {K:PySem.W.Frag} {σ:St} {H:Hp} {Q:VK} {QB:Bool→Hp→Prop} {ta:TE}
theorem s_truth (h:ta σ H fun x H'=>∃ k,TruV K x H' k∧QB k H'):tTruth K ta σ H QB:=h
theorem s_tru_lst {a:Addr} {xs:List V} {P:Bool→Prop} (q:SqL K H a xs) (h:P (!xs.isEmpty)):∃ k,TruV K (.ref a) H k∧P k:=⟨_,.inl ⟨xs,q,rfl⟩,h⟩
theorem s_isi {T:String} {x:V} {t:Value} {b:Bool} (ty:TyOf K H x t) (e:PySem.W.kitOne K t (.type T)=some b) (h:Q (.bl b) H):rIsi K T [x,.ty T] H Q:=⟨x,t,b,rfl,.ty ty,e,h⟩
theorem s_isiT {T:String} {a:Addr} {xs:List V} {b:Bool} (q:SqT K H a xs) (e:PySem.W.kitOne K (.type "tuple") (.type T)=some b) (h:Q (.bl b) H):rIsi K T [.ref a,.ty T] H Q:=⟨_,_,b,rfl,.tup q,e,h⟩
theorem s_isiL {T:String} {a:Addr} {xs:List V} {b:Bool} (q:SqL K H a xs) (e:PySem.W.kitOne K (.type "list") (.type T)=some b) (h:Q (.bl b) H):rIsi K T [.ref a,.ty T] H Q:=⟨_,_,b,rfl,.lst q,e,h⟩
theorem s_tyL {a:Addr} {xs:List V} {P:Prop} (q:SqL K H a xs) (h:P):tyV K "list" (.ref a) H∧P:=⟨.inl ⟨rfl,_,q⟩,h⟩
end
theorem s_nt {A B:Prop} (h:B):if (!true)=true then A else B:=by simpa using h
theorem s_nf {A B:Prop} (h:A):if (!false)=true then A else B:=by simpa using h
end L2
namespace L2
open PySem
inductive Tr where
 | mk (wd:Str) (note:Dt) (ps:List Tr)
noncomputable def Tr.wd:Tr→Str
 | .mk w _ _=>w
noncomputable def Tr.ps:Tr→List Tr
 | .mk _ _ ps=>ps
mutual
noncomputable def Tr.size:Tr→Nat
 | .mk _ _ ps=>1 + sizes ps
noncomputable def sizes:List Tr→Nat
 | []=>0
 | t :: r=>t.size + sizes r
end
theorem Tr.size_eq (t:Tr):t.size=1 + sizes t.ps:=by
 cases t with
 | mk w n ps=>rw [Tr.size]; rfl
noncomputable def SameT (H H':Hp):Prop:=∀ b,(∀ xs,H b=some (.tup xs)→H' b=some (.tup xs))∧∀ o u,H b=some (.frz o u)→H' b=some (.frz o u)
theorem Same.t {H H':Hp} (e:Same H H'):SameT H H':=fun b=>⟨fun xs h=>e b _ h,fun o u h=>e b _ h⟩
theorem SameT.refl (H:Hp):SameT H H:=fun _=>⟨fun _ h=>h,fun _ _ h=>h⟩
theorem SameT.trans {H H1 H2:Hp} (a:SameT H H1) (b:SameT H1 H2):SameT H H2:=fun c=>⟨fun xs h=>(b c).1 xs ((a c).1 xs h),fun o u h=>(b c).2 o u ((a c).2 o u h)⟩
theorem SameT.set {H:Hp} {S:Addr} {zs:List V} {o:HO} (h:H S=some (.lst zs)):SameT H (upd H S o):=fun b =>
 ⟨fun xs e=>by rw [upd_ne (ne_of e h (by intro z; cases z))]; exact e,fun o' u e=>by rw [upd_ne (ne_of e h (by intro z; cases z))]; exact e⟩
theorem SameT.new {H:Hp} {S:Addr} {o:HO} (h:H S=none):SameT H (upd H S o):=(Same.upd h).t
theorem SameT.tup {K:PySem.W.Frag} {H H':Hp} {a:Addr} {xs:List V} (e:SameT H H') (h:SqT K H a xs):SqT K H' a xs:=by
 rcases h with (h | ⟨o,h⟩) | h
 ·exact .inl (.inl ((e a).1 _ h))
 ·exact .inl (.inr ⟨o,(e a).2 _ _ h⟩)
 ·exact .inr h
noncomputable def IsN (K:PySem.W.Frag) (H:Hp) (v:V) (n:Dt):Prop:=(flatV v=true∧n=.flat v)∨∃ (a:Addr) (vs:List V),v=.ref a∧SqT K H a vs∧vs.all flatV=true∧n=.tup (vs.map .flat)
theorem IsN.same {K:PySem.W.Frag} {H H':Hp} {v:V} {n:Dt} (h:IsN K H v n) (e:SameT H H'):IsN K H' v n:=by
 rcases h with h | ⟨a,vs,h1,h2,h3⟩
 ·exact .inl h
 ·exact .inr ⟨a,vs,h1,e.tup h2,h3⟩
inductive TrAt (K:PySem.W.Frag) (H:Hp):V→Tr→Prop where
 | mk {a p:Addr} {wd:Str} {nv:V} {n:Dt} {vs:List V} {ts:List Tr} (q:SqT K H a [.str wd,nv,.ref p]) (hn:IsN K H nv n) (qp:SqT K H p vs) (l:vs.length=ts.length)
   (h:∀ (j:Nat) (v:V) (t:Tr),vs[j]?=some v→ts[j]?=some t→TrAt K H v t):TrAt K H (.ref a) (.mk wd n ts)
theorem TrAt.sameT {K:PySem.W.Frag} {H H':Hp} {v:V} {t:Tr} (h:TrAt K H v t) (e:SameT H H'):TrAt K H' v t:=by
 induction h with
 | mk q hn qp l _ ih=>exact .mk (e.tup q) (hn.same e) (e.tup qp) l ih
theorem TrAt.same {K:PySem.W.Frag} {H H':Hp} {v:V} {t:Tr} (h:TrAt K H v t) (e:Same H H'):TrAt K H' v t:=h.sameT e.t
noncomputable def Al {α:Type} (R:V→α→Prop) (vs:List V) (xs:List α):Prop:=vs.length=xs.length∧∀ (j:Nat) (v:V) (x:α),vs[j]?=some v→xs[j]?=some x→R v x
section
variable {α:Type} {R R':V→α→Prop} {vs:List V} {xs:List α} {v:V} {x:α}
theorem Al.mono (h:Al R vs xs) (f:∀ v x,R v x→R' v x):Al R' vs xs:=⟨h.1,fun j v x a b=>f v x (h.2 j v x a b)⟩
theorem Al.nil:Al R [] []:=⟨rfl,fun j v x a _=>by simp at a⟩
theorem Al.snoc (h:Al R vs xs) (a:R v x):Al R (vs++[v]) (xs++[x]):=by
 refine ⟨by simp [h.1],fun j y z e1 e2=>?_⟩
 by_cases hj:j < vs.length
 ·rw [List.getElem?_append_left hj] at e1
  rw [List.getElem?_append_left (by have:=h.1; omega)] at e2
  exact h.2 j y z e1 e2
 ·have hl:=(List.getElem?_eq_some_iff.mp e1).1
  rw [List.length_append,List.length_singleton] at hl
  have hj':j=vs.length:=by omega
  subst hj'
  rw [List.getElem?_append_right (Nat.le_refl _),Nat.sub_self] at e1
  rw [h.1,List.getElem?_append_right (Nat.le_refl _),Nat.sub_self] at e2
  have e1:v=y:=by simpa using e1
  have e2:x=z:=by simpa using e2
  rw [← e1,← e2]
  exact a
theorem Al.split (h:Al R (vs++[v]) xs):∃ ys x,xs=ys++[x]∧Al R vs ys∧R v x:=by
 have hl:xs.length=vs.length + 1:=by have:=h.1; simp at this; omega
 have hne:xs≠[]:=fun z=>by rw [z] at hl; simp at hl
 refine ⟨xs.dropLast,xs.getLast hne,(List.dropLast_concat_getLast hne).symm,⟨by simp [hl],fun j y z e1 e2=>?_⟩,?_⟩
 ·have hj:=(List.getElem?_eq_some_iff.mp e1).1
  refine h.2 j y z (by rw [List.getElem?_append_left hj]; exact e1) ?_
  rw [List.getElem?_dropLast] at e2
  split at e2
  ·exact e2
  ·cases e2
 ·refine h.2 vs.length v _ (by simp) ?_
  rw [List.getLast_eq_getElem,List.getElem?_eq_getElem (by omega)]
  congr 1
  simp [hl]
theorem Al.last (h:Al R vs xs) (hn:vs≠[]):∃ vs' v xs' x,vs=vs'++[v]∧xs=xs'++[x]∧Al R vs' xs'∧R v x:=by
 have e:=(List.dropLast_concat_getLast hn).symm
 rw [e] at h
 obtain ⟨ys,x,e2,a,r⟩:=h.split
 exact ⟨_,_,ys,x,e,e2,a,r⟩
theorem Al.get {j:Nat} (h:Al R vs xs) (e:vs[j]?=some v):∃ x,xs[j]?=some x∧R v x:=by
 have hj:=(List.getElem?_eq_some_iff.mp e).1
 have hx:j < xs.length:=by have:=h.1; omega
 exact ⟨xs[j],List.getElem?_eq_getElem hx,h.2 j v _ e (List.getElem?_eq_getElem hx)⟩
end
mutual
noncomputable def walk:List Nat→Tr→List (List Nat×Tr)
 | pl,.mk w n ps=>(pl,.mk w n ps) :: walks pl 0 ps
noncomputable def walks:List Nat→Nat→List Tr→List (List Nat×Tr)
 | _,_,[]=>[]
 | pl,i,t :: r=>walk (pl++[i]) t++walks pl (i + 1) r
end
theorem walk_eq (pl:List Nat) (t:Tr):walk pl t=(pl,t) :: walks pl 0 t.ps:=by
 cases t with
 | mk w n ps=>rw [walk]; rfl
mutual
theorem walk_len:∀ (pl:List Nat) (t:Tr),(walk pl t).length=t.size
 | pl,.mk w n ps=>by rw [walk,Tr.size,List.length_cons,walks_len pl 0 ps]; omega
theorem walks_len:∀ (pl:List Nat) (i:Nat) (ts:List Tr),(walks pl i ts).length=sizes ts
 | _,_,[]=>by rw [walks,sizes]; rfl
 | pl,i,t :: r=>by rw [walks,sizes,List.length_append,walk_len,walks_len]
end
mutual
theorem walk_depth:∀ (pl:List Nat) (t:Tr) (x:List Nat×Tr),x∈walk pl t→x.1.length + 1≤pl.length + t.size
 | pl,.mk w n ps,x,h=>by
  rw [walk] at h
  rw [Tr.size]
  rcases List.mem_cons.mp h with h | h
  ·subst h; show pl.length + 1≤_; omega
  ·have:=walks_depth pl 0 ps x h; omega
theorem walks_depth:∀ (pl:List Nat) (i:Nat) (ts:List Tr) (x:List Nat×Tr),x∈walks pl i ts→x.1.length≤pl.length + sizes ts
 | _,_,[],x,h=>by rw [walks] at h; cases h
 | pl,i,t :: r,x,h=>by
  rw [walks] at h
  rw [sizes]
  rcases List.mem_append.mp h with h | h
  ·have:=walk_depth (pl++[i]) t x h
   rw [List.length_append,List.length_singleton] at this
   omega
  ·have:=walks_depth pl (i + 1) r x h; omega
end
noncomputable def plV (pl:List Nat):List V:=pl.map fun i=>V.int ((i:Nat):Int)
noncomputable def kids:List Nat→Nat→List Tr→List (List Nat×Tr)
 | _,_,[]=>[]
 | pl,i,t :: r=>(pl++[i],t) :: kids pl (i + 1) r
theorem kids_len (pl:List Nat):∀ (i:Nat) (ts:List Tr),(kids pl i ts).length=ts.length
 | _,[]=>rfl
 | i,t :: r=>by rw [kids,List.length_cons,List.length_cons,kids_len pl (i + 1) r]
theorem kids_get (pl:List Nat):∀ (i j:Nat) (ts:List Tr),(kids pl i ts)[j]?=(ts[j]?).map fun t=>(pl++[i + j],t)
 | _,_,[]=>by simp [kids]
 | i,0,t :: r=>by simp [kids]
 | i,j + 1,t :: r=>by
  rw [kids,List.getElem?_cons_succ,List.getElem?_cons_succ,kids_get pl (i + 1) j r]
  congr 1
  funext t
  rw [show i + 1 + j=i + (j + 1) by omega]
theorem kids_walks (pl:List Nat):∀ (i:Nat) (ts:List Tr),(kids pl i ts).flatMap (fun x=>walk x.1 x.2)=walks pl i ts
 | _,[]=>by simp [kids,walks]
 | i,t :: r=>by rw [kids,List.flatMap_cons,walks,kids_walks pl (i + 1) r]
noncomputable def todo (st:List (List Nat×Tr)):List (List Nat×Tr):=st.reverse.flatMap fun x=>walk x.1 x.2
theorem todo_nil:todo []=[]:=rfl
theorem todo_pop (st:List (List Nat×Tr)) (x:List Nat×Tr):todo (st++[x])=x :: todo (st++(kids x.1 0 x.2.ps).reverse):=by
 unfold todo
 rw [List.reverse_append,List.reverse_append,List.reverse_reverse,List.flatMap_append,List.flatMap_append,kids_walks]
 rw [List.reverse_singleton,List.flatMap_singleton,walk_eq]
 rfl
noncomputable def load (st:List (List Nat×Tr)):Nat:=(todo st).length
theorem load_pop (st:List (List Nat×Tr)) (x:List Nat×Tr):load (st++(kids x.1 0 x.2.ps).reverse) < load (st++[x]):=by
 unfold load
 rw [todo_pop]
 exact Nat.lt_succ_self _
theorem load_len (st:List (List Nat×Tr)):st.length≤load st:=by
 unfold load todo
 have:∀ l:List (List Nat×Tr),l.length≤(l.flatMap fun x=>walk x.1 x.2).length:=fun l=>by
  induction l with
  | nil=>simp
  | cons x r ih =>
   rw [List.flatMap_cons,List.length_append,walk_len,List.length_cons]
   have:=x.2.size_eq
   omega
 have:=this st.reverse
 rw [List.length_reverse] at this
 exact this
theorem drop_step {α:Type} {l:List α} {n i:Nat} {x:α} (hl:l.length=n) (hi:i < n) (hx:l[n - 1 - i]?=some x):(l.drop (n - (i + 1))).reverse=(l.drop (n - i)).reverse++[x]:=by
 have hk:n - 1 - i < l.length:=by omega
 have e:l.drop (n - (i + 1))=x :: l.drop (n - i):=by
  have h1:n - (i + 1)=n - 1 - i:=by omega
  rw [h1,List.drop_eq_getElem_cons hk,show n - 1 - i + 1=n - i by omega]
  rw [List.getElem?_eq_getElem hk] at hx
  rw [Option.some.inj hx]
 rw [e,List.reverse_cons]
theorem Al.append {α:Type} {R:V→α→Prop} {vs ws:List V} {xs ys:List α} (h:Al R vs xs) (h':Al R ws ys):Al R (vs++ws) (xs++ys):=by
 refine ⟨by simp [h.1,h'.1],fun j v x e1 e2=>?_⟩
 by_cases hj:j < vs.length
 ·rw [List.getElem?_append_left hj] at e1
  rw [List.getElem?_append_left (by have:=h.1; omega)] at e2
  exact h.2 j v x e1 e2
 ·rw [List.getElem?_append_right (by omega)] at e1
  rw [List.getElem?_append_right (by have:=h.1; omega),← h.1] at e2
  exact h'.2 _ v x e1 e2
end L2
namespace L2
open PySem PySem.Spec PyProof.Rows
section
open PySem.AutoSeq1
end
section
variable {X:Cx}
noncomputable def lookD (kvs:List (Str×V)) (k:Str):Option V:=(kvs.find? fun kv=>kv.1=k).map (·.2)
inductive VPs:List (Str×V)→List (Str×Value)→Prop
 | nil:VPs [] []
 | cons {k:Str} {x:V} {v:Value} {r:List (Str×V)} {q:List (Str×Value)}:RelV x v→VPs r q→VPs ((k,x) :: r) ((k,v) :: q)
theorem VPs.look {kvs:List (Str×V)} {vs:List (Str×Value)} (h:VPs kvs vs) (k:Str):(valueAt vs k).isSome=(lookD kvs k).isSome∧∀ x,lookD kvs k=some x→∃ v,valueAt vs k=some v∧RelV x v:=by
 induction h with
 | nil=>exact ⟨rfl,fun x e=>nomatch e⟩
 | @cons k' x v r q rx _ ih =>
  unfold valueAt lookD at ih ⊢
  by_cases z:k'=k
  ·simp only [List.find?_cons,z,decide_true,Option.map_some,Option.isSome_some]
   exact ⟨trivial,fun y e=>⟨v,rfl,by cases e; exact rx⟩⟩
  ·simp only [List.find?_cons,z,decide_false]
   exact ih
noncomputable def DkK (P:Program) (w:World) (K:PySem.W.Frag) (a:Addr) (kvs:List (Str×V)):Prop :=
 ∃ (o:Obj) (vs:List (Str×Value)),K.lookup a=some o∧o.IsDictOf (strKind P w) vs∧(a == sysModules)=false∧VPs kvs vs
noncomputable def rInD (P:Program) (w:World) (K:PySem.W.Frag):R2:=fun x y H Q=>∃ s a kvs,x=.str s∧y=.ref a∧DkK P w K a kvs∧Q (.bl (lookD kvs s).isSome) H
theorem op_inD:OpR X (compareOp .In) (rInD X.prog X.w X.K):=by
 intro pins s σ H x y v u Q I rx ry h
 obtain ⟨z,a,kvs,rfl,rfl,⟨o,vs,hk,hd,lo,vp⟩,q⟩:=h
 obtain ⟨t,rfl⟩:=rx
 cases ry
 have D:s.heap.DictOf (strKind X.prog X.w) a vs:=Heap.dictOf_iff.mpr ⟨o,I.kIn a o hk,hd⟩
 exact wpAny_in_of (knd:=strKind X.prog X.w) (k:=z) (strKind_is _ _ _ _) lo D.mapOf (fin_bl (I.tok _) q (vp.look z).1.symm)
noncomputable def rIxD (P:Program) (w:World) (K:PySem.W.Frag):R2:=fun x y H Q=>∃ a kvs s v,x=.ref a∧y=.str s∧DkK P w K a kvs∧lookD kvs s=some v∧Q v H
theorem ix_D:IxR X (rIxD X.prog X.w X.K):=by
 intro value slice pins s σ H x y v u Q I rx ry h hs
 obtain ⟨a,kvs,z,v',rfl,rfl,⟨o,vs,hk,hd,lo,vp⟩,hv,q⟩:=h
 cases rx
 obtain ⟨t,rfl⟩:=ry
 have D:s.heap.DictOf (strKind X.prog X.w) a vs:=Heap.dictOf_iff.mpr ⟨o,I.kIn a o hk,hd⟩
 obtain ⟨u',e,r⟩:=(vp.look z).2 _ hv
 exact tail_any D.typeIs slot_dict_getitem.lookup (wpAny_getItem_of (knd:=strKind X.prog X.w) (k:=z) (strKind_is _ _ _ _) D.mapOf e ⟨v',H,I.tok _,r,q⟩) hs
end
section
variable {X:Cx} (P:Program) (w:World) (K:PySem.W.Frag)
theorem k_inD (hP:X.prog=P:=by rfl) (hw:X.w=w:=by rfl) (hK:X.K=K:=by rfl):OpR X (compareOp .In) (rInD P w K):=by subst hP hw hK; exact op_inD
theorem k_ixD (hP:X.prog=P:=by rfl) (hw:X.w=w:=by rfl) (hK:X.K=K:=by rfl):IxR X (rIxD P w K):=by subst hP hw hK; exact ix_D
end
inductive Ents (p:Params):List DictEntry→List (Str×V)→Prop
 | nil:Ents p [] []
 | cons {k:Str} {t:Tok} {x:V} {v:Value} {r:List DictEntry} {q:List (Str×V)}:RelV x v→Ents p r q→Ents p (⟨PyData.keyHash p k,.str k t,v⟩ :: r) ((k,x) :: q)
theorem Ents.pairs {P:Program} {w:World} {es:List DictEntry} {kvs:List (Str×V)} (h:Ents w.params es kvs):∃ vs,VPs kvs vs∧PySem.Pairs (PySem.strKind P w) es vs∧vs.map (·.1)=kvs.map (·.1)∧∀ e∈es,∃ k,(PySem.strKind P w).is k e.key=true∧e.hash=(PySem.strKind P w).hash k:=by
 induction h with
 | nil=>exact ⟨[],.nil,.nil,rfl,fun e he=>nomatch he⟩
 | @cons k t x v r q rx _ ih =>
  obtain ⟨vs,a,b,c,d⟩:=ih
  refine ⟨(k,v) :: vs,.cons rx a,.cons (strKind_is _ _ _ _) rfl b,by simp [c],fun e he=>?_⟩
  rcases List.mem_cons.mp he with rfl | he
  ·exact ⟨k,strKind_is _ _ _ _,rfl⟩
  ·exact d e he
theorem dk_mk {P:Program} {w:World} {K:PySem.W.Frag} {a:Addr} {es:Array DictEntry} {n:Nat} {kvs:List (Str×V)} (l:K.lookup a=some ⟨.type "dict",none,.dict es n,#[]⟩) (hs:(a == sysModules)=false)
  (e:Ents w.params es.toList kvs) (nd:(kvs.map (·.1)).Nodup):DkK P w K a kvs:=by
 obtain ⟨vs,a1,a2,a3,a4⟩:=e.pairs (P:=P)
 exact ⟨_,vs,l,⟨es,n,⟨rfl,rfl,rfl⟩,rfl,fun e he=>a4 e (by simpa using he),a2,by rw [a3]; exact nd⟩,hs,a1⟩
end L2
namespace L2
open PySem PySem.Spec PyProof.Rows
end L2
namespace L2
open PySem PySem.Spec PyProof.Rows
section
variable {X:Cx} {pins:List (Addr×Obj)} {σ:St} {it:Addr} {n:Nat} {H0:Hp} {J:Nat→List V→Hp→Heap→Prop}
end
section
variable {X:Cx}
end
end L2
namespace L2
open PySem PySem.Spec PyProof.Rows
structure ZA (z TI TO i1 i2:Addr) (fp1 fp2:List Addr):Prop where
 TIz:TI≠z
 TOz:TO≠z
 TITO:TI≠TO
 z1:z ∉ fp1
 z2:z ∉ fp2
 TI1:TI≠i1
 TI2:TI≠i2
 TO1:TO ∉ fp1
 TO2:TO ∉ fp2
 m1:i1∈fp1
 m2:i2∈fp2
 n1:i1 ∉ fp2
 n2:i2 ∉ fp1
theorem ZA.i1z {z TI TO i1 i2:Addr} {fp1 fp2:List Addr} (D:ZA z TI TO i1 i2 fp1 fp2):i1≠z:=fun e=>D.z1 (e ▸ D.m1)
theorem ZA.i2z {z TI TO i1 i2:Addr} {fp1 fp2:List Addr} (D:ZA z TI TO i1 i2 fp1 fp2):i2≠z:=fun e=>D.z2 (e ▸ D.m2)
theorem ZA.TOi1 {z TI TO i1 i2:Addr} {fp1 fp2:List Addr} (D:ZA z TI TO i1 i2 fp1 fp2):TO≠i1:=fun e=>D.TO1 (e ▸ D.m1)
theorem ZA.TOi2 {z TI TO i1 i2:Addr} {fp1 fp2:List Addr} (D:ZA z TI TO i1 i2 fp1 fp2):TO≠i2:=fun e=>D.TO2 (e ▸ D.m2)
theorem frame_but {prog:Program} {w:World} {A:Around} {it c:Addr} {fp:List Addr} {n i:Nat} {P:Nat→Value→Prop} {St:Nat→Heap→Prop} (D:Draws prog w A it fp n P St) {h h':Heap} (st:St i h) (e:Heap.SameBut c h h') (hc:c ∉ fp):St i h' :=
 D.frame i h h' st fun b hb o eo=>e.extBut b o (fun z=>hc (z ▸ hb)) eo
section
variable {prog:Program} {w:World} {A:Around} {E:Value→Shared→Prop} {s:Shared} {z TI TO i1 i2:Addr} {fp1 fp2:List Addr} {n1 n2 i:Nat} {P1 P2:Nat→Value→Prop} {St1 St2:Nat→Heap→Prop} {a b:Value}
theorem zipD_item {Q:Value→Shared→Prop} (D1:Draws prog w A i1 fp1 n1 P1 St1) (D2:Draws prog w A i2 fp2 n2 P2 St2) (D:ZA z TI TO i1 i2 fp1 fp2) (hz:IsZip s.heap z TI TO .none) (hTI:IsPair s.heap TI (.ref i1) (.ref i2)) (hTO:IsPair s.heap TO a b)
  (st1:St1 i s.heap) (st2:St2 i s.heap) (l1:i < n1) (l2:i < n2)
  (hQ:∀ x y h' tk,P1 i x→P2 i y→IsZip h' z TI TO (rawInt s.heap.objs.size)→IsPair h' TO x y→St1 (i + 1) h'→St2 (i + 1) h'→IsPair h' s.heap.objs.size x y→h'.objs.size=s.heap.objs.size + 1 →
   (∀ c o,c≠z→c≠TO→c≠i1→c≠i2→s.heap.get? c=some o→h'.get? c=some o)→Q (.ref s.heap.objs.size) { s with heap:=h',toks:=tk }) :
  wpAny (model prog w) A (Builtin.«zip.__next__» ⟨[.ref z],[]⟩) (fun fin s'=>∃ v,fin=.done (.ret v)∧Q v s') E s:=by
 show wpAny _ _ (field (.ref z) 2 >>= _) _ _ s
 refine wpAny_bind (wpAny_field hz rfl (x:=Value.bool false) rfl ?_)
 show wpAny _ _ (field (.ref z) 3 >>= _) _ _ s
 refine wpAny_bind (wpAny_field hz rfl (x:=Value.ref TI) rfl (wpAny_bind (wpAny_seqItems hTI rfl ?_)))
 show wpAny _ _ (Builtin.SmallTypes.ownedTupleIsFree (.ref z) >>= _) _ _ s
 refine wpAny_bind ?_
 unfold Builtin.SmallTypes.ownedTupleIsFree
 refine wpAny_bind (wpAny_field hz rfl (x:=Value.none) rfl (wpAny_pure ?_))
 simp only [if_true]
 refine wpAny_bind (wpAny_rule (wpAny_bind (wpAny_field hz rfl (x:=Value.ref TO) rfl ?_)))
 refine wpAny_bind (wpAny_setField_rec hz (by simp) fun h₁ hz₁ e1=>?_)
 replace hz₁:IsZip h₁ z TI TO Value.ellipsis:=hz₁
 refine wpAny_bind ?_
 simp only [List.zipIdx_cons,List.zipIdx_nil,List.forIn_cons,List.forIn_nil]
 refine wpAny_bind (wpAny_bind (wpAny_onRaise ?_))
 show wpAny _ _ (Builtin.SmallTypes.nextOf (.ref i1) >>= _) _ _ _
 refine wpAny_bind (D1.item i _ _ _ l1 (frame_but D1 st1 e1 D.z1) fun x h₂ tk₂ px s12 e2=>wpAny_pure ?_)
 replace e2:Heap.SameBut i1 h₁ h₂:=e2
 have p2:IsPair h₂ TO a b:=e2.extBut _ _ D.TOi1 (e1.extBut _ _ D.TOz hTO)
 refine wpAny_bind (wpAny_seqItems p2 rfl (wpAny_bind (wpAny_updateSeq_pair p2 fun h₃ p3 e3=>?_)))
 replace p3:IsPair h₃ TO x b:=p3
 replace e3:Heap.SameBut TO h₂ h₃:=e3
 refine wpAny_bind (wpAny_letGo (wpAny_pure (wpAny_bind (wpAny_bind (wpAny_onRaise ?_)))))
 show wpAny _ _ (Builtin.SmallTypes.nextOf (.ref i2) >>= _) _ _ _
 have s22:St2 i h₃:=frame_but D2 (frame_but D2 (frame_but D2 st2 e1 D.z2) e2 D.n1) e3 D.TO2
 refine wpAny_bind (D2.item i _ _ _ l2 s22 fun y h₄ tk₄ py s24 e4=>wpAny_pure ?_)
 replace e4:Heap.SameBut i2 h₃ h₄:=e4
 have p4:IsPair h₄ TO x b:=e4.extBut _ _ D.TOi2 p3
 refine wpAny_bind (wpAny_seqItems p4 rfl (wpAny_bind (wpAny_updateSeq_pair p4 fun h₅ p5 e5=>?_)))
 replace p5:IsPair h₅ TO x y:=p5
 replace e5:Heap.SameBut TO h₄ h₅:=e5
 refine wpAny_bind (wpAny_letGo (wpAny_pure (wpAny_pure (wpAny_bind (wpAny_seqItems p5 rfl (wpAny_bind (wpAny_newTuple ?_)))))))
 have sz:h₅.objs.size=s.heap.objs.size:=by rw [e5.1,e4.1,e3.1,e2.1,e1.1]
 have z5:IsZip h₅ z TI TO Value.ellipsis:=e5.extBut _ _ D.TOz.symm (e4.extBut _ _ D.i2z.symm (e3.extBut _ _ D.TOz.symm (e2.extBut _ _ D.i1z.symm hz₁)))
 have k5:∀ c o,c≠z→c≠TO→c≠i1→c≠i2→s.heap.get? c=some o→h₅.get? c=some o:=fun c o c1 c2 c3 c4 e=>e5.extBut _ _ c2 (e4.extBut _ _ c4 (e3.extBut _ _ c2 (e2.extBut _ _ c3 (e1.extBut _ _ c1 e))))
 have t1:St1 (i + 1) h₅:=frame_but D1 (frame_but D1 (frame_but D1 s12 e3 D.TO1) e4 D.n2) e5 D.TO1
 have t2:St2 (i + 1) h₅:=frame_but D2 s24 e5 D.TO2
 have zlt:z < h₅.objs.size:=Heap.lt_size z5
 show wpAny _ _ (Builtin.SmallTypes.ownedTupleHandOut (.ref z) (.ref h₅.objs.size) >>= _) _ _ _
 refine wpAny_bind ?_
 unfold Builtin.SmallTypes.ownedTupleHandOut
 have z6:IsZip (h₅.push { cls:=.type "tuple",data:=.seq #[x,y] }) z TI TO Value.ellipsis:=Heap.get?_push_of_some _ z5
 refine wpAny_bind (wpAny_setField_rec z6 (by simp) fun h₇ z7 e7=>?_)
 replace z7:IsZip h₇ z TI TO (rawInt h₅.objs.size):=z7
 refine wpAny_setField_rec z7 (by simp) fun h₈ z8 e8=>?_
 replace z8:IsZip h₈ z TI TO (rawInt h₅.objs.size):=z8
 have up:∀ c o,c≠z→h₅.get? c=some o→h₈.get? c=some o:=fun c o c1 e=>e8.extBut _ _ c1 (e7.extBut _ _ c1 (Heap.get?_push_of_some _ e))
 have t8:IsPair h₈ h₅.objs.size x y:=e8.extBut _ _ (Nat.ne_of_gt zlt) (e7.extBut _ _ (Nat.ne_of_gt zlt) (Heap.get?_push_size _ rfl))
 have sz8:h₈.objs.size=h₅.objs.size + 1:=by rw [e8.1,e7.1,Heap.size_push]
 rw [sz] at z8 t8 sz8
 refine wpAny_pure ⟨_,rfl,?_⟩
 show Q (.ref h₅.objs.size) _
 rw [sz]
 exact hQ x y h₈ tk₄ px py z8 (up _ _ D.TOz p5) (D1.frame _ _ _ t1 fun c hc o e=>up c o (fun q=>D.z1 (q ▸ hc)) e) (D2.frame _ _ _ t2 fun c hc o e=>up c o (fun q=>D.z2 (q ▸ hc)) e) t8 sz8 fun c o c1 c2 c3 c4 e=>up c o c1 (k5 c o c1 c2 c3 c4 e)
theorem zipD_end {Q:Fin→Shared→Prop} (D1:Draws prog w A i1 fp1 n1 P1 St1) (D2:Draws prog w A i2 fp2 n2 P2 St2) (D:ZA z TI TO i1 i2 fp1 fp2) (hz:IsZip s.heap z TI TO .none) (hTI:IsPair s.heap TI (.ref i1) (.ref i2)) (hTO:IsPair s.heap TO a b)
  (st1:St1 i s.heap) (st2:St2 i s.heap) (hend:i=n1∨(i < n1∧i=n2))
  (hE:∀ h' e tk,(∀ c o,c≠z→c≠TO→c≠i1→c≠i2→s.heap.get? c=some o→h'.get? c=some o)→(∃ o,h'.get? e=some o∧o.cls=.type "StopIteration")→E (.ref e) { s with heap:=h',toks:=tk }) :
  wpAny (model prog w) A (Builtin.«zip.__next__» ⟨[.ref z],[]⟩) Q E s:=by
 show wpAny _ _ (field (.ref z) 2 >>= _) _ _ s
 refine wpAny_bind (wpAny_field hz rfl (x:=Value.bool false) rfl ?_)
 show wpAny _ _ (field (.ref z) 3 >>= _) _ _ s
 refine wpAny_bind (wpAny_field hz rfl (x:=Value.ref TI) rfl (wpAny_bind (wpAny_seqItems hTI rfl ?_)))
 show wpAny _ _ (Builtin.SmallTypes.ownedTupleIsFree (.ref z) >>= _) _ _ s
 refine wpAny_bind ?_
 unfold Builtin.SmallTypes.ownedTupleIsFree
 refine wpAny_bind (wpAny_field hz rfl (x:=Value.none) rfl (wpAny_pure ?_))
 simp only [if_true]
 refine wpAny_bind (wpAny_rule (wpAny_bind (wpAny_field hz rfl (x:=Value.ref TO) rfl ?_)))
 refine wpAny_bind (wpAny_setField_rec hz (by simp) fun h₁ hz₁ e1=>?_)
 replace hz₁:IsZip h₁ z TI TO Value.ellipsis:=hz₁
 refine wpAny_bind ?_
 simp only [List.zipIdx_cons,List.zipIdx_nil,List.forIn_cons,List.forIn_nil]
 refine wpAny_bind (wpAny_bind (wpAny_onRaise ?_))
 show wpAny _ _ (Builtin.SmallTypes.nextOf (.ref i1) >>= _) _ _ _
 rcases hend with rfl | ⟨l1,rfl⟩
 ·refine wpAny_bind (D1.done _ _ _ (frame_but D1 st1 e1 D.z1) fun h₂ e e2 he=>?_)
  obtain ⟨oe,hoe,hce⟩:=he
  replace e2:Heap.ExtBut i1 h₁ h₂:=e2
  have z2:IsZip h₂ z TI TO Value.ellipsis:=e2 _ _ D.i1z.symm hz₁
  have hez:e≠z:=fun x=>by subst x; rw [z2] at hoe; cases hoe; simp at hce
  refine wpAny_setField_rec z2 (by simp) fun h₃ _ e3=>hE h₃ e s.toks (fun c o c1 _ c3 _ x=>e3.extBut _ _ c1 (e2 _ _ c3 (e1.extBut _ _ c1 x))) ⟨oe,e3.extBut _ _ hez hoe,hce⟩
 ·refine wpAny_bind (D1.item i _ _ _ l1 (frame_but D1 st1 e1 D.z1) fun x h₂ tk₂ px s12 e2=>wpAny_pure ?_)
  replace e2:Heap.SameBut i1 h₁ h₂:=e2
  have p2:IsPair h₂ TO a b:=e2.extBut _ _ D.TOi1 (e1.extBut _ _ D.TOz hTO)
  refine wpAny_bind (wpAny_seqItems p2 rfl (wpAny_bind (wpAny_updateSeq_pair p2 fun h₃ p3 e3=>?_)))
  replace e3:Heap.SameBut TO h₂ h₃:=e3
  refine wpAny_bind (wpAny_letGo (wpAny_pure (wpAny_bind (wpAny_bind (wpAny_onRaise ?_)))))
  show wpAny _ _ (Builtin.SmallTypes.nextOf (.ref i2) >>= _) _ _ _
  have s22:St2 i h₃:=frame_but D2 (frame_but D2 (frame_but D2 st2 e1 D.z2) e2 D.n1) e3 D.TO2
  refine wpAny_bind (D2.done _ _ _ s22 fun h₄ e e4 he=>?_)
  obtain ⟨oe,hoe,hce⟩:=he
  replace e4:Heap.ExtBut i2 h₃ h₄:=e4
  have z4:IsZip h₄ z TI TO Value.ellipsis:=e4 _ _ D.i2z.symm (e3.extBut _ _ D.TOz.symm (e2.extBut _ _ D.i1z.symm hz₁))
  have hez:e≠z:=fun x=>by subst x; rw [z4] at hoe; cases hoe; simp at hce
  refine wpAny_setField_rec z4 (by simp) fun h₅ _ e5=>hE h₅ e tk₂ (fun c o c1 c2 c3 c4 x=>e5.extBut _ _ c1 (e4 _ _ c4 (e3.extBut _ _ c2 (e2.extBut _ _ c3 (e1.extBut _ _ c1 x))))) ⟨oe,e5.extBut _ _ hez hoe,hce⟩
theorem zipD_next {Q:Option Value→Shared→Prop} (D1:Draws prog w A.in1 i1 fp1 n1 P1 St1) (D2:Draws prog w A.in1 i2 fp2 n2 P2 St2) (D:ZA z TI TO i1 i2 fp1 fp2) (hz:IsZip s.heap z TI TO .none) (hTI:IsPair s.heap TI (.ref i1) (.ref i2)) (hTO:IsPair s.heap TO a b)
  (st1:St1 i s.heap) (st2:St2 i s.heap) (l1:i < n1) (l2:i < n2)
  (hQ:∀ x y h' tk,P1 i x→P2 i y→IsZip h' z TI TO (rawInt s.heap.objs.size)→IsPair h' TO x y→St1 (i + 1) h'→St2 (i + 1) h'→IsPair h' s.heap.objs.size x y→h'.objs.size=s.heap.objs.size + 1 →
   (∀ c o,c≠z→c≠TO→c≠i1→c≠i2→s.heap.get? c=some o→h'.get? c=some o)→Q (some (.ref s.heap.objs.size)) { s with heap:=h',toks:=tk }) :
  wpAny (model prog w) A (pyNext (.ref z)) Q E s:=by
 have hT:s.TypeIs (.ref z) "zip" := ⟨_,hz,rfl⟩
 unfold pyNext
 exact wpAny_bind (wpAny_attempt (wpAny_callSpecial?_slot (name:=Str.ofString "__next__") hT PySem.F.slot_zip_next
  (wpAny_call_entry PySem.F.slot_zip_next hT PySem.F.entry_zip_next (zipD_item D1 D2 D hz hTI hTO st1 st2 l1 l2 fun x y h' tk a1 a2 a3 a4 a5 a6 a7 a8 a9=>wpAny_pure (hQ x y h' tk a1 a2 a3 a4 a5 a6 a7 a8 a9)) (PySem.F.args_zip_next_1 _))))
theorem zipD_stop {Q:Option Value→Shared→Prop} (D1:Draws prog w A.in1 i1 fp1 n1 P1 St1) (D2:Draws prog w A.in1 i2 fp2 n2 P2 St2) (D:ZA z TI TO i1 i2 fp1 fp2) (hz:IsZip s.heap z TI TO .none) (hTI:IsPair s.heap TI (.ref i1) (.ref i2)) (hTO:IsPair s.heap TO a b)
  (st1:St1 i s.heap) (st2:St2 i s.heap) (hend:i=n1∨(i < n1∧i=n2))
  (hQ:∀ h' tk,(∀ c o,c≠z→c≠TO→c≠i1→c≠i2→s.heap.get? c=some o→h'.get? c=some o)→Q none { s with heap:=h',toks:=tk }):wpAny (model prog w) A (pyNext (.ref z)) Q E s:=by
 have hT:s.TypeIs (.ref z) "zip" := ⟨_,hz,rfl⟩
 unfold pyNext
 refine wpAny_bind (wpAny_attempt (wpAny_callSpecial?_slot (name:=Str.ofString "__next__") hT PySem.F.slot_zip_next
  (wpAny_call_entry PySem.F.slot_zip_next hT PySem.F.entry_zip_next (zipD_end D1 D2 D hz hTI hTO st1 st2 hend fun h' e tk hk he=>?_) (PySem.F.args_zip_next_1 _))))
 obtain ⟨o,ho,hc⟩:=he
 exact wpAny_bind (wpAny_isInstance (T := "StopIteration") (b:=true) ⟨o,ho,hc⟩ isSubtype_stop (wpAny_pure (hQ _ _ hk)))
end
section
variable {prog:Program} {w:World} {A:Around} {E:Value→Shared→Prop} {s:Shared}
end
section
variable {X:Cx} {pins:List (Addr×Obj)} {σ:St} {H:Hp} {s:Shared} {h':Heap}
theorem Inv.turnedL {t':Nat} {fp:List Addr} (I:Inv X pins σ H s) (k:∀ b o,b ∉ fp→s.heap.get? b=some o→h'.get? b=some o) (f:∀ b∈fp,FpOk X pins H b):Inv X pins σ H { s with heap:=h',toks:=t' }:=by
 have nit:∀ b u,H b=some u→b ∉ fp:=fun b u e hb=>by rw [(f b hb).1] at e; exact nomatch e
 refine I.step (g':=s.gens) (d':=s.drawn) (ch:=fp) (fun b hb=>?_) (fun b o _ _ hc e _=>k b o hc e) (fun b o _ _ hc e _=>⟨o.slots,k b o hc e⟩) (fun _ _ _ _ n=>n)
  (fun b o hc e=>⟨o,k b o hc e⟩) (fun _ _ e=>e) (fun _ _ _ e=>e) (fun b ps e=>⟨#[],by rw [e]; simp⟩) (fun m hm=>?_) (fun b u e=>?_) I.bare
 ·obtain ⟨n1,l1,_,e1,c1,p1⟩:=f b hb
  exact ⟨e1,l1,c1,p1⟩
 ·obtain ⟨o,es,ep,ho,r⟩:=hm
  exact ⟨o,es,ep,k _ o (fun hb=>(f _ hb).2.1 rfl) ho,r⟩
 ·refine (I.hok b u e).stay (fun c v hc q=>k c v ?_ q) (fun _ q=>q) fun _ _ q=>q
  rcases hc with z | z
  ·rw [z]; exact nit b u e
  ·exact nit c _ z
theorem Inv.pairL {tk:Nat} {fp:List Addr} {T:Addr} {xs:List V} {its:List Value} (I:Inv X pins σ H s) (f:∀ b∈fp,FpOk X pins H b)
  (kk:∀ b o,b ∉ fp→s.heap.get? b=some o→h'.get? b=some o) (hT:s.heap.objs.size≤T) (rv:Vals xs its) (hz:xs.length≤sizeLine) (ht:h'.IsTuple T its.toArray):Inv X pins σ (upd H T (.tup xs)) { s with heap:=h',toks:=tk }:=by
 have hf:H T=none:=I.hok.fresh hT
 have I1:Inv X pins σ H { s with heap:=h',toks:=tk }:=I.turnedL kk f
 have hokN:HOk X.prog X.w (upd H T (.tup xs)) h':=fun b o e=>by
  by_cases hb:b=T
  ·subst hb
   rw [upd_same] at e
   cases e
   exact ⟨hz,its,rv,ht⟩
  ·rw [upd_ne hb] at e
   refine (I1.hok b o e).stay (fun c v _ q=>q) (fun c q=>?_) fun c zs q=>?_
   ·rw [upd_ne (ne_of_none q hf)]; exact q
   ·rw [upd_ne (ne_of_none q hf)]; exact q
 have u:Un (frs X.stack) fp H (upd H T (.tup xs)) s.heap h':={
  keep:=fun b o e n _ hx=>kk b o hx e
  slot:=fun b o e n _ hx=>⟨o.slots,kk b o hx e⟩
  free:=fun b o e n _=>by rw [upd_ne (Nat.ne_of_lt (Nat.lt_of_lt_of_le (Heap.lt_size e) hT))]; exact n
  there:=fun b o e hx=>⟨o,kk b o hx e⟩
  tups:=fun b zs e=>by rw [upd_ne (ne_of_none e hf)]; exact e
  frzs:=fun b o u e=>by rw [upd_ne (ne_of_none e hf)]; exact e
  tbls:=fun b ps e=>⟨#[],by rw [upd_ne (ne_of_none e hf),e]; simp⟩ }
 refine I.call (g':=s.gens) (d':=s.drawn) (t':=tk) u hokN I.bare fun b hb=>?_
 obtain ⟨n1,l1,_,e1,c1,p1⟩:=f b hb
 exact ⟨e1,l1,c1,p1⟩
end
structure ZB (z TI TO i1 i2 a b:Addr):Prop where
 TIz:TI≠z
 TOz:TO≠z
 TITO:TI≠TO
 i1z:i1≠z
 i2z:i2≠z
 TI1:TI≠i1
 TI2:TI≠i2
 TO1:TO≠i1
 TO2:TO≠i2
 i12:i1≠i2
 az:a≠z
 aTO:a≠TO
 a1:a≠i1
 a2:a≠i2
 bz:b≠z
 bTO:b≠TO
 b1:b≠i1
 b2:b≠i2
theorem ZB.za {z TI TO i1 i2 a b:Addr} (D:ZB z TI TO i1 i2 a b):ZA z TI TO i1 i2 [i1,a] [i2,b] where
 TIz:=D.TIz
 TOz:=D.TOz
 TITO:=D.TITO
 z1:=by simp [D.i1z.symm,D.az.symm]
 z2:=by simp [D.i2z.symm,D.bz.symm]
 TI1:=D.TI1
 TI2:=D.TI2
 TO1:=by simp [D.TO1,D.aTO.symm]
 TO2:=by simp [D.TO2,D.bTO.symm]
 m1:=by simp
 m2:=by simp
 n1:=by simp [D.i12,D.b1.symm]
 n2:=by simp [D.i12.symm,D.a2.symm]
theorem zb_new {n a b:Nat} (h1:a < n) (h2:b < n):ZB (n + 4) (n + 2) (n + 3) n (n + 1) a b:=by
 have f:∀ i j:Nat,i≠j→n + i≠n + j:=fun i j h e=>h (Nat.add_left_cancel e)
 have g:∀ i:Nat,a≠n + i:=fun i e=>absurd h1 (by rw [e]; exact Nat.not_lt.mpr (Nat.le_add_right _ _))
 have g':∀ i:Nat,b≠n + i:=fun i e=>absurd h2 (by rw [e]; exact Nat.not_lt.mpr (Nat.le_add_right _ _))
 exact ⟨f 2 4 (by decide),f 3 4 (by decide),f 2 3 (by decide),f 0 4 (by decide),f 1 4 (by decide),f 2 0 (by decide),f 2 1 (by decide),f 3 0 (by decide),f 3 1 (by decide),f 0 1 (by decide),g 4,g 3,g 0,g 1,g' 4,g' 3,g' 0,g' 1⟩
section
variable {X:Cx}
end
end L2
namespace L2
open PySem PySem.Spec PyProof.Rows
theorem cutV_from (xs:List V) (k:Nat):cutV xs (some (k:Int)) none=xs.drop k:=by
 unfold cutV
 rw [HT.sIx_none,HT.sIx_nat]
 by_cases h:k≤xs.length
 ·rw [Nat.min_eq_left h,List.take_of_length_le (by simp)]
 ·rw [Nat.min_eq_right (by omega),List.drop_of_length_le (Nat.le_refl _),List.drop_of_length_le (by omega)]
  simp
end L2
namespace L2
open PySem PySem.Spec PyProof.Rows
structure Mvd (fs xs:List Addr) (h h':Heap):Prop where
 keep:∀ b o,b ∉ xs→b ∉ fs→h.get? b=some o→h'.get? b=some o
 slot:∀ b o,b ∉ xs→h.get? b=some o→∃ sl,h'.get? b=some { o with slots:=sl }
theorem Mvd.trans {fs xs:List Addr} {h h1 h2:Heap} (a:Mvd fs xs h h1) (b:Mvd fs xs h1 h2):Mvd fs xs h h2 :=
 ⟨fun c o n1 n2 e=>b.keep c o n1 n2 (a.keep c o n1 n2 e),fun c o n e=>by
  obtain ⟨sl,e1⟩:=a.slot c o n e
  obtain ⟨sl',e2⟩:=b.slot c _ n e1
  exact ⟨sl',e2⟩⟩
theorem Mvd.mono {fs xs ys:List Addr} {h h1:Heap} (a:Mvd fs xs h h1) (s:∀ b∈xs,b∈ys):Mvd fs ys h h1 :=
 ⟨fun c o n1 n2 e=>a.keep c o (fun z=>n1 (s c z)) n2 e,fun c o n e=>a.slot c o (fun z=>n (s c z)) e⟩
theorem Mvd.upd {fs:List Addr} {h:Heap} {a:Addr} (f:Obj→Obj):Mvd fs [a] h (h.update a f) :=
 ⟨fun c o n _ e=>by rw [Heap.get?_update_other _ _ (fun z=>n (by simp [z]))]; exact e,fun c o n e=>⟨o.slots,by rw [Heap.get?_update_other _ _ (fun z=>n (by simp [z]))]; exact e⟩⟩
theorem Mvd.push {fs xs:List Addr} {h:Heap} (o:Obj):Mvd fs xs h (h.push o):=⟨fun _ _ _ _ e=>Heap.get?_push_of_some _ e,fun _ o _ e=>⟨o.slots,Heap.get?_push_of_some _ e⟩⟩
theorem Mvd.fun {fs xs:List Addr} {h h1 base:Heap} {l:List Env} (a:Mvd fs xs h h1) (hl:h.FunFrames base l) (nx:∀ b∈xs,∃ o vs,h.get? b=some o∧o.data=.fields vs):h1.FunFrames base l :=
 hl.of_keeps fun b o e hd=>by
  obtain ⟨sl,e1⟩:=a.slot b o (fun z=>by
   obtain ⟨o',vs,e',d'⟩:=nx b z
   rw [e] at e'
   cases e'
   exact hd vs d') e
  exact ⟨_,e1,rfl⟩
noncomputable def LiesF (h:Heap) (e T:Addr) (cls:Value) (od:Option Addr) (fl:Value):Prop :=
 ∃ oe vs oT ts,h.get? e=some oe∧oe.cls=cls∧oe.dict=od∧oe.data=.fields vs∧vs[1]?=some (.ref T)∧T≠e∧h.get? T=some oT∧oT.data=.fields ts∧ts[3]?=some fl
noncomputable abbrev Lies (h:Heap) (e T:Addr) (cls:Value) (od:Option Addr):Prop:=LiesF h e T cls od .none
noncomputable def Made (h:Heap) (e:Addr) (cls:Value) (od:Option Addr):Prop:=∃ oe vs,h.get? e=some oe∧oe.cls=cls∧oe.dict=od∧oe.data=.fields vs∧vs[1]?=some .none
section
variable {M:Model} {A:Around} {E:Value→Shared→Prop} {s:Shared}
theorem entry_at {base:Heap} {env:Env} {outer:List Env} {L e:Addr} {oe:Obj} {vs:Array Value} {head:Value} {hadNext:Bool} {Q:Unit→Shared→Prop}
  (hfr:A.frames=some (env :: outer)) (hl:s.heap.FunFrames base (env :: outer)) (hf:env.frame=some L) (he:s.heap.get? e=some oe) (hd:oe.data=.fields vs) (hsz:1 < vs.size)
  (h:∀ h' T,s.heap.objs.size≤T→LiesF h' e T oe.cls oe.dict (rawInt L)→Mvd (frs (env :: outer)) [e] s.heap h'→Q () { s with heap:=h' }) :
  wpAny M A (do let a ← frameOf env; let pl ← entryPlaceOf L hadNext; let b ← EntryCells.newEntry head a .none (rawInt L) .none pl; setField (.ref e) 1 b) Q E s:=by
 have hene:e ∉ frs (env :: outer):=fun hm=>by
  obtain ⟨_,o,ho,hnf⟩:=hl.mem hm
  rw [he] at ho
  cases ho
  exact hnf vs hd
 refine wpAny_bind (wpAny_frameOf_fun hfr hl hf fun h₁ s1=>?_)
 refine wpAny_bind (wpAny_entryPlaceOf fun pl hpl=>?_)
 unfold EntryCells.newEntry newFields
 refine wpAny_bind (wpAny_newObj_type ?_ (hpl.sizeOk5 _ _ _ _ _))
 have e1:h₁.get? e=some oe:=(s1.2.1 e hene).trans he
 generalize hoT:({ cls:=.type "traceback",dict:=none,data:=.fields ([head,.ref L,.none,rawInt L,.none]++(if pl.isEmpty then List.replicate 6 Value.none else pl)).toArray }:Obj)=oT
 have e2:(h₁.push oT).get? e=some oe:=Heap.get?_push_of_some _ e1
 refine wpAny_setField e2 hd hsz (h _ h₁.objs.size (by rw [s1.1]; exact Nat.le_refl _) ?_ ?_)
 ·have nT:h₁.objs.size≠e:=Nat.ne_of_gt (Heap.lt_size e1)
  have d3:=Obj.data_mapFields hd (·.setIfInBounds 1 (Value.ref h₁.objs.size))
  have e3:=Heap.get?_update_self (Obj.mapFields (·.setIfInBounds 1 (Value.ref h₁.objs.size))) e2 (Obj.isFreed_of_fields d3)
  have fT:oT.isFreed=false:=by rw [← hoT]; rfl
  have e4:=(Heap.get?_update_other (h₁.push oT) (Obj.mapFields (·.setIfInBounds 1 (Value.ref h₁.objs.size))) (Ne.symm nT)).trans (Heap.get?_push_size h₁ fT)
  refine ⟨_,_,_,_,e3,Obj.cls_mapFields _ _,?_,d3,by simp [hsz],nT,e4,by rw [← hoT],?_⟩
  ·obtain ⟨c0,d0,t0,s0⟩:=oe
   cases t0 <;> rfl
  ·first | (simp; done) | (rcases hpl with rfl | ⟨_,_,_,_,_,_,_,rfl⟩ <;> simp)
 ·have m1:Mvd (frs (env :: outer)) [e] s.heap h₁:=⟨fun b o _ n e=>(s1.2.1 b n).trans e,fun b o _ e=>s1.2.2 b o e⟩
  exact (m1.trans (Mvd.push oT)).trans (Mvd.upd _)
theorem flight_none {e T:Addr} {cls fl:Value} {od:Option Addr} {fs:List Addr} {Q:Unit→Shared→Prop} (x:LiesF s.heap e T cls od fl) (h:∀ h',Lies h' e T cls od→Mvd fs [T] s.heap h'→Q () { s with heap:=h' }):wpAny M A (setFlight (.ref e) none) Q E s:=by
 obtain ⟨oe,vs,oT,ts,a1,a2,a3,a4,a5,a6,a7,a8,a9⟩:=x
 have hz:3 < ts.size:=(Array.getElem?_eq_some_iff.mp a9).1
 unfold setFlight
 refine wpAny_bind (wpAny_field a1 a4 a5 ?_)
 rw [if_pos (show (Value.ref T != Value.none)=true from by simp)]
 refine wpAny_setField a7 a8 hz (h _ ?_ (Mvd.upd _))
 have d:=Obj.data_mapFields a8 (·.setIfInBounds 3 ((none:Option Addr).elim Value.none fun f=>rawInt f))
 exact ⟨oe,vs,_,_,by rw [Heap.get?_update_other _ _ a6]; exact a1,a2,a3,a4,a5,a6,Heap.get?_update_self _ a7 (Obj.isFreed_of_fields d),d,by simp [hz]⟩
theorem note_first {base:Heap} {env:Env} {outer:List Env} {L e:Addr} {cls:Value} {od:Option Addr} {Q:Unit→Shared→Prop}
  (hfr:A.frames=some (env :: outer)) (hl:s.heap.FunFrames base (env :: outer)) (hf:env.frame=some L) (x:Made s.heap e cls od)
  (h:∀ h' T,s.heap.objs.size≤T→LiesF h' e T cls od (rawInt L)→Mvd (frs (env :: outer)) [e] s.heap h'→Q () { s with heap:=h' }):wpAny M A (noteFrame (.ref e) env) Q E s:=by
 obtain ⟨oe,vs,he,rfl,rfl,hd,h1⟩:=x
 unfold noteFrame
 simp only [hf]
 refine wpAny_bind (wpAny_field he hd h1 ?_)
 rw [if_neg (by decide)]
 exact entry_at hfr hl hf he hd (Array.getElem?_eq_some_iff.mp h1).1 h
theorem note_next {base:Heap} {env:Env} {outer:List Env} {L e T:Addr} {cls:Value} {od:Option Addr} {Q:Unit→Shared→Prop}
  (hfr:A.frames=some (env :: outer)) (hl:s.heap.FunFrames base (env :: outer)) (hf:env.frame=some L) (x:Lies s.heap e T cls od)
  (h:∀ h' T',s.heap.objs.size≤T'→LiesF h' e T' cls od (rawInt L)→Mvd (frs (env :: outer)) [e,T] s.heap h'→Q () { s with heap:=h' }):wpAny M A (noteFrame (.ref e) env) Q E s:=by
 obtain ⟨oe,vs,oT,ts,he,rfl,rfl,hd,h1,nT,hT,dT,h3⟩:=x
 unfold noteFrame
 simp only [hf]
 refine wpAny_bind (wpAny_field he hd h1 ?_)
 rw [if_pos (show (Value.ref T != Value.none)=true from by simp)]
 refine wpAny_bind (wpAny_field hT dT h3 ?_)
 rw [if_neg (show ¬ ((Value.none == rawInt L)=true) from by simp [rawInt])]
 refine wpAny_bind (wpAny_setField hT dT (Array.getElem?_eq_some_iff.mp h3).1 ?_)
 have m1:Mvd (frs (env :: outer)) [T] s.heap (s.heap.update T (Obj.mapFields (·.setIfInBounds 3 Value.none))):=Mvd.upd _
 have he':(s.heap.update T (Obj.mapFields (·.setIfInBounds 3 Value.none))).get? e=some oe:=(Heap.get?_update_other _ _ nT).trans he
 refine entry_at hfr (m1.fun hl fun b hb=>by rw [List.mem_singleton.mp hb]; exact ⟨oT,ts,hT,dT⟩) hf he' hd (Array.getElem?_eq_some_iff.mp h1).1 fun h' T' hz x m=>?_
 refine h h' T' ?_ x ((m1.mono (by simp)).trans (m.mono (by simp)))
 have:(s.heap.update T (Obj.mapFields (·.setIfInBounds 3 Value.none))).objs.size=s.heap.objs.size:=Heap.size_after_update ..
 have hz:(s.heap.update T (Obj.mapFields (·.setIfInBounds 3 Value.none))).objs.size≤T':=hz
 omega
theorem leave_first {base:Heap} {env:Env} {outer:List Env} {L e:Addr} {cls:Value} {od:Option Addr} {Q:Unit→Shared→Prop}
  (hfr:A.frames=some (env :: outer)) (hl:s.heap.FunFrames base (env :: outer)) (hf:env.frame=some L) (x:Made s.heap e cls od)
  (h:∀ h' T,s.heap.objs.size≤T→Lies h' e T cls od→Mvd (frs (env :: outer)) [e,T] s.heap h'→Q () { s with heap:=h' }):wpAny M A (leaving env (.ref e)) Q E s:=by
 unfold leaving
 refine wpAny_bind (note_first hfr hl hf x fun h1 T hz y m=>?_)
 refine flight_none (fs:=frs (env :: outer)) y fun h2 y2 m2=>h h2 T hz y2 ((m.mono (by simp)).trans (m2.mono (by simp)))
theorem leave_next {base:Heap} {env:Env} {outer:List Env} {L e T:Addr} {cls:Value} {od:Option Addr} {Q:Unit→Shared→Prop}
  (hfr:A.frames=some (env :: outer)) (hl:s.heap.FunFrames base (env :: outer)) (hf:env.frame=some L) (x:Lies s.heap e T cls od)
  (h:∀ h' T',s.heap.objs.size≤T'→Lies h' e T' cls od→Mvd (frs (env :: outer)) [e,T,T'] s.heap h'→Q () { s with heap:=h' }):wpAny M A (leaving env (.ref e)) Q E s:=by
 unfold leaving
 refine wpAny_bind (note_next hfr hl hf x fun h1 T' hz y m=>?_)
 refine flight_none (fs:=frs (env :: outer)) y fun h2 y2 m2=>h h2 T' hz y2 ((m.mono (by simp)).trans (m2.mono (by simp)))
end
end L2
namespace L2
open PySem PySem.Spec PyProof.Rows
theorem qs_dead {X:Cx} {st:Stmt}:QS X st (fun _ _ _=>False):=⟨fun _ _ _ _ _ _ h=>h.elim⟩
noncomputable def ZpLate (h:Heap) (z TI TO i1 i2:Addr):Prop:=∃ (a:Addr) (oa:Obj) (f1:Value),h.get? z=some { cls:=.type "zip",dict:=none,data:=.fields #[rawInt a,f1,.bool false,.ref TI,.ref TO],slots:=#[] }∧h.get? a=some oa∧a≠z∧a≠i1∧a≠i2
section
variable {prog:Program} {w:World} {A:Around} {E:Value→Shared→Prop} {s:Shared} {z TI TO i1 i2:Addr} {fp1 fp2:List Addr} {n1 n2 i:Nat} {P1 P2:Nat→Value→Prop} {St1 St2:Nat→Heap→Prop} {a b:Value}
theorem late_free {Q:Bool→Shared→Prop} (hz:ZpLate s.heap z TI TO i1 i2) (h:∀ h',ZpLate h' z TI TO i1 i2→Heap.SameBut z s.heap h'→Q false { s with heap:=h' }):wpAny (model prog w) A (Builtin.SmallTypes.ownedTupleIsFree (.ref z)) Q E s:=by
 obtain ⟨a,oa,f1,e,ea,n0,n1,n2⟩:=hz
 unfold Builtin.SmallTypes.ownedTupleIsFree
 refine wpAny_bind (wpAny_field e rfl (x:=rawInt a) rfl ?_)
 show wpAny _ _ (loadIfAlive ((a:Int).toNat) >>= _) _ _ s
 refine wpAny_bind (wpAny_loadAlive ?_)
 rw [Int.toNat_natCast,ea]
 rw [if_neg (by simp)]
 refine wpAny_bind (wpAny_field e rfl (x:=f1) rfl ?_)
 by_cases hf:(f1 != Value.bool true)=true
 ·simp only [hf,if_true]
  refine wpAny_bind (wpAny_setField_rec e (by simp) fun h₅ e5 s5=>?_)
  replace s5:Heap.SameBut z s.heap h₅:=s5
  exact wpAny_pure (h h₅ ⟨a,oa,.bool true,e5,s5.extBut a oa n0 ea,n0,n1,n2⟩ s5)
 ·simp only [hf]
  exact wpAny_pure (h s.heap ⟨a,oa,f1,e,ea,n0,n1,n2⟩ (Heap.SameBut.refl ..))
theorem zipL_item {Q:Value→Shared→Prop} (D1:Draws prog w A i1 fp1 n1 P1 St1) (D2:Draws prog w A i2 fp2 n2 P2 St2) (D:ZA z TI TO i1 i2 fp1 fp2) (hz:ZpLate s.heap z TI TO i1 i2) (hTI:IsPair s.heap TI (.ref i1) (.ref i2))
  (st1:St1 i s.heap) (st2:St2 i s.heap) (l1:i < n1) (l2:i < n2)
  (hQ:∀ x y h' tk,P1 i x→P2 i y→ZpLate h' z TI TO i1 i2→St1 (i + 1) h'→St2 (i + 1) h'→IsPair h' s.heap.objs.size x y→h'.objs.size=s.heap.objs.size + 1 →
   (∀ c o,c≠z→c≠i1→c≠i2→s.heap.get? c=some o→h'.get? c=some o)→Q (.ref s.heap.objs.size) { s with heap:=h',toks:=tk }) :
  wpAny (model prog w) A (Builtin.«zip.__next__» ⟨[.ref z],[]⟩) (fun fin s'=>∃ v,fin=.done (.ret v)∧Q v s') E s:=by
 obtain ⟨a0,oa0,f10,e0,_⟩:=id hz
 show wpAny _ _ (field (.ref z) 2 >>= _) _ _ s
 refine wpAny_bind (wpAny_field e0 rfl (x:=Value.bool false) rfl ?_)
 show wpAny _ _ (field (.ref z) 3 >>= _) _ _ s
 refine wpAny_bind (wpAny_field e0 rfl (x:=Value.ref TI) rfl (wpAny_bind (wpAny_seqItems hTI rfl ?_)))
 show wpAny _ _ (Builtin.SmallTypes.ownedTupleIsFree (.ref z) >>= _) _ _ s
 refine wpAny_bind (late_free hz fun h₁ hz₁ e1=>?_)
 simp only [Bool.false_eq_true,if_false]
 refine wpAny_bind ?_
 simp only [List.forIn_toArray,List.forIn_cons,List.forIn_nil]
 refine wpAny_bind (wpAny_bind (wpAny_holding ?_))
 show wpAny _ _ (Builtin.SmallTypes.nextOf (.ref i1) >>= _) _ _ _
 refine wpAny_bind (D1.item i _ _ _ l1 (frame_but D1 st1 e1 D.z1) fun x h₂ tk₂ px s12 e2=>wpAny_pure (wpAny_pure ?_))
 replace e2:Heap.SameBut i1 h₁ h₂:=e2
 refine wpAny_bind (wpAny_bind (wpAny_holding ?_))
 show wpAny _ _ (Builtin.SmallTypes.nextOf (.ref i2) >>= _) _ _ _
 have s22:St2 i h₂:=frame_but D2 (frame_but D2 st2 e1 D.z2) e2 D.n1
 refine wpAny_bind (D2.item i _ _ _ l2 s22 fun y h₄ tk₄ py s24 e4=>wpAny_pure (wpAny_pure (wpAny_pure ?_)))
 replace e4:Heap.SameBut i2 h₂ h₄:=e4
 show wpAny _ _ (newTuple [x,y] >>= _) _ _ _
 refine wpAny_bind (wpAny_newTuple (wpAny_pure ⟨_,rfl,?_⟩))
 have sz:h₄.objs.size=s.heap.objs.size:=by rw [e4.1,e2.1,e1.1]
 show Q (.ref h₄.objs.size) { s with heap:=h₄.push { cls:=.type "tuple",data:=.seq #[x,y] },toks:=tk₄ }
 have up:∀ c o,h₄.get? c=some o→(h₄.push { cls:=.type "tuple",data:=.seq #[x,y] }).get? c=some o:=fun c o e=>Heap.get?_push_of_some _ e
 have k4:∀ c o,c≠z→c≠i1→c≠i2→s.heap.get? c=some o→h₄.get? c=some o:=fun c o c1 c3 c4 e=>e4.extBut _ _ c4 (e2.extBut _ _ c3 (e1.extBut _ _ c1 e))
 have t8:IsPair (h₄.push { cls:=.type "tuple",data:=.seq #[x,y] }) h₄.objs.size x y:=Heap.get?_push_size _ rfl
 rw [sz] at t8
 rw [sz]
 obtain ⟨a1,oa1,f1,g1,g2,g3,g4,g5⟩:=hz₁
 refine hQ x y _ tk₄ px py ⟨a1,oa1,f1,up _ _ (e4.extBut _ _ D.i2z.symm (e2.extBut _ _ D.i1z.symm g1)),up _ _ (e4.extBut _ _ g5 (e2.extBut _ _ g4 g2)),g3,g4,g5⟩ ?_ ?_ t8 (by rw [Heap.size_push,sz]) fun c o c1 c3 c4 e=>up c o (k4 c o c1 c3 c4 e)
 ·exact D1.frame _ _ _ (frame_but D1 s12 e4 D.n2) fun c _ o e=>up c o e
 ·exact D2.frame _ _ _ s24 fun c _ o e=>up c o e
theorem zipL_end {Q:Fin→Shared→Prop} (D1:Draws prog w A i1 fp1 n1 P1 St1) (D2:Draws prog w A i2 fp2 n2 P2 St2) (D:ZA z TI TO i1 i2 fp1 fp2) (hz:ZpLate s.heap z TI TO i1 i2) (hTI:IsPair s.heap TI (.ref i1) (.ref i2))
  (st1:St1 i s.heap) (st2:St2 i s.heap) (hend:i=n1∨(i < n1∧i=n2))
  (hE:∀ h' e tk,(∀ c o,c≠z→c≠i1→c≠i2→s.heap.get? c=some o→h'.get? c=some o)→(∃ o,h'.get? e=some o∧o.cls=.type "StopIteration")→E (.ref e) { s with heap:=h',toks:=tk }) :
  wpAny (model prog w) A (Builtin.«zip.__next__» ⟨[.ref z],[]⟩) Q E s:=by
 obtain ⟨a0,oa0,f10,e0,_⟩:=id hz
 show wpAny _ _ (field (.ref z) 2 >>= _) _ _ s
 refine wpAny_bind (wpAny_field e0 rfl (x:=Value.bool false) rfl ?_)
 show wpAny _ _ (field (.ref z) 3 >>= _) _ _ s
 refine wpAny_bind (wpAny_field e0 rfl (x:=Value.ref TI) rfl (wpAny_bind (wpAny_seqItems hTI rfl ?_)))
 show wpAny _ _ (Builtin.SmallTypes.ownedTupleIsFree (.ref z) >>= _) _ _ s
 refine wpAny_bind (late_free hz fun h₁ hz₁ e1=>?_)
 simp only [Bool.false_eq_true,if_false]
 refine wpAny_bind ?_
 simp only [List.forIn_toArray,List.forIn_cons,List.forIn_nil]
 refine wpAny_bind (wpAny_bind (wpAny_holding ?_))
 show wpAny _ _ (Builtin.SmallTypes.nextOf (.ref i1) >>= _) _ _ _
 rcases hend with rfl | ⟨l1,rfl⟩
 ·refine wpAny_bind (D1.done _ _ _ (frame_but D1 st1 e1 D.z1) fun h₂ e e2 he=>?_)
  replace e2:Heap.ExtBut i1 h₁ h₂:=e2
  exact hE h₂ e s.toks (fun c o c1 c3 _ x=>e2 _ _ c3 (e1.extBut _ _ c1 x)) he
 ·refine wpAny_bind (D1.item i _ _ _ l1 (frame_but D1 st1 e1 D.z1) fun x h₂ tk₂ px s12 e2=>wpAny_pure (wpAny_pure ?_))
  replace e2:Heap.SameBut i1 h₁ h₂:=e2
  refine wpAny_bind (wpAny_bind (wpAny_holding ?_))
  show wpAny _ _ (Builtin.SmallTypes.nextOf (.ref i2) >>= _) _ _ _
  have s22:St2 i h₂:=frame_but D2 (frame_but D2 st2 e1 D.z2) e2 D.n1
  refine wpAny_bind (D2.done _ _ _ s22 fun h₄ e e4 he=>?_)
  replace e4:Heap.ExtBut i2 h₂ h₄:=e4
  exact hE h₄ e tk₂ (fun c o c1 c3 c4 x=>e4 _ _ c4 (e2.extBut _ _ c3 (e1.extBut _ _ c1 x))) he
noncomputable def ZpSt (h:Heap) (z TI TO i1 i2:Addr) (i:Nat):Prop:=(i=0∧IsZip h z TI TO .none∧∃ u v,IsPair h TO u v)∨(0 < i∧ZpLate h z TI TO i1 i2)
theorem ZpSt.obj {h:Heap} {z TI TO i1 i2:Addr} {i:Nat} (x:ZpSt h z TI TO i1 i2 i):∃ vs,h.get? z=some { cls:=.type "zip",dict:=none,data:=.fields vs,slots:=#[] }:=by
 rcases x with ⟨_,x,_⟩ | ⟨_,_,_,_,x,_⟩
 ·exact ⟨_,x⟩
 ·exact ⟨_,x⟩
theorem zp_next {Q:Option Value→Shared→Prop} (D1:Draws prog w A.in1 i1 fp1 n1 P1 St1) (D2:Draws prog w A.in1 i2 fp2 n2 P2 St2) (D:ZA z TI TO i1 i2 fp1 fp2) (hz:ZpSt s.heap z TI TO i1 i2 i) (hTI:IsPair s.heap TI (.ref i1) (.ref i2)) (eTO:∃ o,s.heap.get? TO=some o)
  (st1:St1 i s.heap) (st2:St2 i s.heap) (l1:i < n1) (l2:i < n2)
  (hQ:∀ x y h' tk,P1 i x→P2 i y→ZpSt h' z TI TO i1 i2 (i + 1)→(∃ o,h'.get? TO=some o)→St1 (i + 1) h'→St2 (i + 1) h'→IsPair h' s.heap.objs.size x y→h'.objs.size=s.heap.objs.size + 1 →
   (∀ c o,c≠z→c≠TO→c≠i1→c≠i2→s.heap.get? c=some o→h'.get? c=some o)→Q (some (.ref s.heap.objs.size)) { s with heap:=h',toks:=tk }) :
  wpAny (model prog w) A (pyNext (.ref z)) Q E s:=by
 obtain ⟨vs,ho⟩:=hz.obj
 have hT:s.TypeIs (.ref z) "zip" := ⟨_,ho,rfl⟩
 have zl:z < s.heap.objs.size:=Heap.lt_size ho
 have l1':i1 < s.heap.objs.size:=by obtain ⟨_,y⟩:=D1.live _ _ st1; exact Heap.lt_size y
 have l2':i2 < s.heap.objs.size:=by obtain ⟨_,y⟩:=D2.live _ _ st2; exact Heap.lt_size y
 rcases hz with ⟨rfl,hz,u,v,hTO⟩ | ⟨hi,hz⟩
 ·exact zipD_next D1 D2 D hz hTI hTO st1 st2 l1 l2 fun x y h' tk a1 a2 a3 a4 a5 a6 a7 a8 a9=>hQ x y h' tk a1 a2 (.inr ⟨Nat.succ_pos _,_,_,_,a3,a7,Nat.ne_of_gt zl,Nat.ne_of_gt l1',Nat.ne_of_gt l2'⟩) ⟨_,a4⟩ a5 a6 a7 a8 a9
 ·unfold pyNext
  exact wpAny_bind (wpAny_attempt (wpAny_callSpecial?_slot (name:=Str.ofString "__next__") hT PySem.F.slot_zip_next
   (wpAny_call_entry PySem.F.slot_zip_next hT PySem.F.entry_zip_next (zipL_item D1 D2 D hz hTI st1 st2 l1 l2 fun x y h' tk a1 a2 a3 a4 a5 a6 a7 a8=>wpAny_pure (hQ x y h' tk a1 a2 (.inr ⟨Nat.succ_pos _,a3⟩) (let ⟨o,e⟩:=eTO; ⟨o,a8 _ o D.TOz D.TOi1 D.TOi2 e⟩) a4 a5 a6 a7 fun c o c1 _ c3 c4 e=>a8 c o c1 c3 c4 e)) (PySem.F.args_zip_next_1 _))))
theorem zp_end {Q:Option Value→Shared→Prop} (D1:Draws prog w A.in1 i1 fp1 n1 P1 St1) (D2:Draws prog w A.in1 i2 fp2 n2 P2 St2) (D:ZA z TI TO i1 i2 fp1 fp2) (hz:ZpSt s.heap z TI TO i1 i2 i) (hTI:IsPair s.heap TI (.ref i1) (.ref i2))
  (st1:St1 i s.heap) (st2:St2 i s.heap) (hend:i=n1∨(i < n1∧i=n2))
  (hQ:∀ h' tk,(∀ c o,c≠z→c≠TO→c≠i1→c≠i2→s.heap.get? c=some o→h'.get? c=some o)→Q none { s with heap:=h',toks:=tk }):wpAny (model prog w) A (pyNext (.ref z)) Q E s:=by
 obtain ⟨vs,ho⟩:=hz.obj
 have hT:s.TypeIs (.ref z) "zip" := ⟨_,ho,rfl⟩
 rcases hz with ⟨rfl,hz,u,v,hTO⟩ | ⟨hi,hz⟩
 ·exact zipD_stop D1 D2 D hz hTI hTO st1 st2 hend hQ
 ·unfold pyNext
  refine wpAny_bind (wpAny_attempt (wpAny_callSpecial?_slot (name:=Str.ofString "__next__") hT PySem.F.slot_zip_next
   (wpAny_call_entry PySem.F.slot_zip_next hT PySem.F.entry_zip_next (zipL_end D1 D2 D hz hTI st1 st2 hend fun h' e tk hk he=>?_) (PySem.F.args_zip_next_1 _))))
  obtain ⟨o,ho,hc⟩:=he
  exact wpAny_bind (wpAny_isInstance (T := "StopIteration") (b:=true) ⟨o,ho,hc⟩ isSubtype_stop (wpAny_pure (hQ _ _ fun c o c1 _ c3 c4 e=>hk c o c1 c3 c4 e)))
end
noncomputable abbrev lit (l:Addr):Obj:={ cls:=.type "list_iterator",data:=.fields #[.ref l,.int 0 0] }
noncomputable def ZPairs (H:Hp) (xs ys zs:List V):Prop:=∀ (j:Nat) (z:V),zs[j]?=some z→∃ (t:Addr) (x y:V),z=V.ref t∧xs[j]?=some x∧ys[j]?=some y∧H t=some (.tup [x,y])
theorem zp_nolen:typeLookup (.type "zip") "__len__" = pure none:=by rw [typeLookup_type,builtinLookup_eq_fast]; kernel_rfl
theorem zp_nohint:typeLookup (.type "zip") "__length_hint__" = pure none:=by rw [typeLookup_type,builtinLookup_eq_fast]; kernel_rfl
section
variable {X:Cx}
end
end L2
namespace L2
open PySem PySem.Spec PyProof.Rows
section
variable {X:Cx}
end
end L2
namespace L2
open PySem PySem.Spec PyProof.Rows
section
variable {X:Cx}
end
section
variable {X:Cx}
end
end L2
namespace L2
open PySem PySem.Spec PyProof.Rows
noncomputable def CXR (P:Program) (w:World):CXT:=fun outer H s E ev s'=>∃ (e T:Addr) (cls:Value) (od:Option Addr) (H':Hp),ev=.ref e∧s'.os=s.os∧AllBare s'.gens∧Un (frs outer) [] H H' s.heap s'.heap∧HOk P w H' s'.heap ∧
 s.heap.get? e=none∧s.heap.get? T=none∧H' e=none∧H' T=none∧Lies s'.heap e T cls od∧E cls od H'
section
variable {X:Cx} {pins:List (Addr×Obj)} {σ:St} {H:Hp} {s:Shared}
theorem Inv.old (I:Inv X pins σ H s) (hex:X.ex=[]) {b:Addr} (h:s.heap.get? b=none):X.s₀.heap.get? b=none:=by
 cases q:X.s₀.heap.get? b with
 | none=>rfl
 | some o =>
  obtain ⟨o',e⟩:=I.base.there b o q (by rw [hex]; simp)
  rw [h] at e
  cases e
theorem Inv.mvd (I:Inv X pins σ H s) {h':Heap} {xs:List Addr} (m:Mvd (frs X.stack) xs s.heap h') (hx:∀ b∈xs,X.s₀.heap.get? b=none∧H b=none) (hex:X.ex=[]):Un X.fs [] X.H₀ H X.s₀.heap h'∧HOk X.prog X.w H h':=by
 have low:∀ b o,X.s₀.heap.get? b=some o→b ∉ xs:=fun b o e hb=>by rw [(hx b hb).1] at e; cases e
 have neL:∀ b o,X.s₀.heap.get? b=some o→b≠X.env.locals:=fun b o e=>Nat.ne_of_lt (Nat.lt_of_lt_of_le (Heap.lt_size e) I.ok.above)
 have nst:∀ b o,X.s₀.heap.get? b=some o→b ∉ X.fs→b ∉ frs X.stack:=fun b o e hf hs=>by
  rcases I.ok.stk with z | ⟨z,z2⟩
  ·rw [z] at hs; exact hf hs
  ·rw [z] at hs
   unfold frs at hs
   rw [List.filterMap_cons,z2] at hs
   rcases List.mem_cons.mp hs with q | q
   ·exact neL b o e q
   ·exact hf q
 have B:=I.base
 rw [hex] at B
 refine ⟨⟨fun b o e n hf _=>?_,fun b o e n hf _=>?_,fun b o e n _=>B.free b o e n (by simp),fun b o e _=>?_,B.tups,B.frzs,B.tbls⟩,fun b u e=>?_⟩
 ·exact m.keep b o (low b o e) (nst b o e hf) (B.keep b o e n hf (by simp))
 ·obtain ⟨sl,e1⟩:=B.slot b o e n hf (by simp)
  obtain ⟨sl',e2⟩:=m.slot b _ (low b o e) e1
  exact ⟨sl',e2⟩
 ·obtain ⟨o',e1⟩:=B.there b o e (by simp)
  obtain ⟨sl,e2⟩:=m.slot b o' (low b o e) e1
  exact ⟨_,e2⟩
 ·have tr:∀ c v,H c=some v→c ∉ xs∧c ∉ frs X.stack:=fun c v q=>⟨(fun z=>by rw [(hx c z).2] at q; cases q),(fun z=>by rw [I.stkFree c z] at q; cases q)⟩
  refine (I.hok b u e).stay (fun c v hc q=>m.keep c v ?_ ?_ q) (fun _ q=>q) fun _ _ q=>q
  ·rcases hc with z | z
   ·rw [z]; exact (tr b u e).1
   ·exact (tr c _ z).1
  ·rcases hc with z | z
   ·rw [z]; exact (tr b u e).2
   ·exact (tr c _ z).2
end
section
variable {P:Program} {w:World} {K:PySem.W.Frag} {mg:Str→Option Value} {base:Heap} {N:List Str} {qual:Str} {scope:Scope} {f:Addr} {cd:Value} {A:Around} {outer:List Env} {s0:Shared} {H0:Hp} {E:XK}
theorem passes_cx {E':XK} (h:∀ cls od H',E' cls od H'→E cls od H'):Passes (CXR P w) (cxOf (CXR P w) P w K mg base N qual scope f cd A outer s0 H0 E) E':=by
 intro pins σ H s ev s' I c
 obtain ⟨e,T,cls,od,H',rfl,h1,h2,h3,h4,h5,h6,h7,h8,h9,h10⟩:=c
 have J:Inv (cxOf (CXR P w) P w K mg base N qual scope f cd A outer s0 H0 E) pins σ H' s':=I.call' (ch:=[]) h1 h3 h4 h2 (fun b z=>absurd z (by simp))
 refine leave_next (base:=base) (outer:=outer) (L:=s0.heap.objs.size) J.ok.frames J.stack rfl h9 fun h' T' hT' y m=>?_
 obtain ⟨u,ok⟩:=J.mvd (h':=h') m (fun b hb=>by
  simp only [List.mem_cons,List.not_mem_nil,or_false] at hb
  rcases hb with rfl | rfl | rfl
  ·exact ⟨I.old rfl h5,h7⟩
  ·exact ⟨I.old rfl h6,h8⟩
  ·exact ⟨J.old rfl (Heap.get?_none_of_le hT'),J.hok.fresh hT'⟩) rfl
 exact ⟨e,T',cls,od,H',rfl,J.os,J.bare,u,ok,I.old rfl h5,J.old rfl (Heap.get?_none_of_le hT'),h7,J.hok.fresh hT',y,h _ _ _ h10⟩
theorem raises_cx {pins:List (Addr×Obj)} {σ:St} {H:Hp} {s:Shared} {e:Addr} {cls:Value} {od:Option Addr} (I:Inv (cxOf (CXR P w) P w K mg base N qual scope f cd A outer s0 H0 E) pins σ H s) (x:Made s.heap e cls od) (he:s0.heap.get? e=none) (hn:H e=none) (h:E cls od H) :
  (cxOf (CXR P w) P w K mg base N qual scope f cd A outer s0 H0 E).xe (.ref e) s:=by
 refine leave_first (base:=base) (outer:=outer) (L:=s0.heap.objs.size) I.ok.frames I.stack rfl x fun h' T hT y m=>?_
 obtain ⟨u,ok⟩:=I.mvd (h':=h') m (fun b hb=>by
  simp only [List.mem_cons,List.not_mem_nil,or_false] at hb
  rcases hb with rfl | rfl
  ·exact ⟨he,hn⟩
  ·exact ⟨I.old rfl (Heap.get?_none_of_le hT),I.hok.fresh hT⟩) rfl
 exact ⟨e,T,cls,od,H,rfl,I.os,I.bare,u,ok,he,I.old rfl (Heap.get?_none_of_le hT),hn,I.hok.fresh hT,y,h⟩
end
end L2
namespace L2
open PySem PySem.Spec PyProof.Rows
section
variable {P:Program} {w:World} {K:PySem.W.Frag} {mg:Str→Option Value} {base:Heap}
theorem Fun.okx {x qual:Str} {st:Stmt} {f:Addr} {fd:FuncData} {N ps:List Str} {k:Nat} {sp:Sp} (F:Fun K x qual st f fd) (S:FnScope N ps (defScope st)) (len:∀ vs H Q E,sp vs H Q E→vs.length=ps.length)
  (hbody:∀ (cdv:Value) (A:Around) (outer:List Env) (s:Shared) (H:Hp) (vs:List V) (Q:VK) (E:XK),Room k (A.deeper (envOfC qual (defScope st) s.heap.objs.size f cdv))→sp vs H Q E →
   ∃ t,QSs (cxOf (CXR P w) P w K mg base N qual (defScope st) f cdv A outer s H E) (defBody st) t∧t { nx:=fun _ H'=>Q .non H',rt:=Q } (start N vs) H):FnOk P w K mg base (CXR P w) (k + 1) f fd ps sp:=by
 obtain ⟨oc,od,kV,doc,pm,an,cdv,ct,osl,rfl,lk,hcd⟩:=F.ex
 refine fn_of lk hcd S len fun A outer s H vs Q E hr hsp=>?_
 obtain ⟨t,h,q⟩:=hbody cdv A outer s H vs Q E hr hsp
 exact ⟨t,h.run,q⟩
structure CalleeX (P:Program) (w:World) (K:PySem.W.Frag) (mg:Str→Option Value) (base:Heap) (k:Nat) (x:Str) (ps:List Str) (sp:Sp):Prop where
 ex:∃ (f:Addr) (fd:FuncData),FnOk P w K mg base (CXR P w) k f fd ps sp∧mg x=some (.ref f)∧PySem.W.keepIn K (.ref f)=true∧Binds K fd ps []
theorem calleex_of {k:Nat} {x:Str} {ps:List Str} {sp:Sp} {f:Addr} {fd:FuncData} (F:FnOk P w K mg base (CXR P w) k f fd ps sp) (m:mg x=some (.ref f)) (kp:PySem.W.keepIn K (.ref f)=true) (b:Binds K fd ps []):CalleeX P w K mg base k x ps sp:=⟨f,fd,F,m,kp,b⟩
end
section
variable {X:Cx} {k:Nat} {x:Str} {ps:List Str} {sp:Sp} {p pos np cpos:Pos} {e:Expr} {es:List Expr} {t:TA} {E:XK}
noncomputable abbrev VE:List Value:=[.type "ValueError",.type "Exception",.type "BaseException",.type "object"]
noncomputable def Raises (X:Cx) (E:XK):Prop:=∀ (pins:List (Addr×Obj)) (σ:St) (H:Hp) (s:Shared) (a:Addr) (cls:Value) (od:Option Addr),Inv X pins σ H s→Made s.heap a cls od→X.s₀.heap.get? a=none→H a=none→E cls od H→X.xe (.ref a) s
theorem exc_in {K:PySem.W.Frag} {h0:Heap} {C:Addr} (kin0:K.In h0) (q:PySem.W.excIn K C VE "ValueError.__new__" = true) :
  ∃ bm N nm q bs hdct sn sub ab col dd k0 k1 k2 k3 k5 mN,mN "__init__" = none∧∀ h:Heap,K.In h→h.get? C=some (excClassObj nm q C N bs bm hdct sn sub ab col dd k0 k1 k2 k3 k5 "ValueError.__new__")∧h.Ns N mN∧OwnTail h VE bm:=by
 unfold PySem.W.excIn at q
 split at q
 ·rename_i dd cd sl ho
  split at q
  ·rename_i C' bm k0 k1 k2 k3 n k5 hm hs
   simp only [Bool.and_eq_true,beq_iff_eq,Bool.not_eq_true'] at q
   obtain ⟨⟨⟨⟨⟨rfl,rfl⟩,hdel⟩,ht⟩,hok⟩,hni⟩:=q
   obtain ⟨nm,bs,mro,ns,qn,hd,sn,sub,ab,col,del⟩:=cd
   dsimp only at hm hdel hok hni
   subst hm hdel
   have hsl:sl=#[k0,k1,k2,k3,some (.builtin "ValueError.__new__"),k5]:=by
    obtain ⟨l⟩:=sl
    simp only at hs
    rw [hs]
   subst hsl
   have n0:h0.Ns ns (h0.nsMap ns):=.of_isNs (PySem.W.isNs_of_in kin0 hok)
   refine ⟨bm,ns,nm,qn,bs,hd,sn,sub,ab,col,dd,k0,k1,k2,k3,k5,h0.nsMap ns,PySem.W.nsMap_none_of_in kin0 hok hni,fun h kin=>⟨kin _ _ ho,?_,PySem.W.tail_of_in kin ht⟩⟩
   obtain ⟨o,es,ep,e,r⟩:=n0
   refine ⟨o,es,ep,?_,r⟩
   unfold PySem.W.nsOkIn at hok
   split at hok
   ·rename_i hl
    have:=kin0 _ _ hl
    rw [e] at this
    cases this
    exact kin _ _ hl
   ·cases hok
  ·cases q
 ·cases q
theorem ObjOk.there {P:Program} {w:World} {H:Hp} {h:Heap} {a:Addr} {o:HO} (x:ObjOk P w H h a o):∃ u,h.get? a=some u:=by
 induction o with
 | lst xs=>obtain ⟨_,_,_,_,e⟩:=x; exact ⟨_,e⟩
 | tup xs=>obtain ⟨_,_,_,o,e,_⟩:=x; exact ⟨_,e⟩
 | dK kvs=>obtain ⟨_,_,vs,_,d⟩:=x; obtain ⟨o,e,_⟩:=Heap.dictOf_iff.mp d; exact ⟨_,e⟩
 | dT kvs=>obtain ⟨_,_,_,_,o,_,_,e,_⟩:=x; exact ⟨_,e⟩
 | set S n=>obtain ⟨o,_,_,_,e,_⟩:=x; exact ⟨_,e⟩
 | ins C dx fs=>obtain ⟨_,_,_,e,_⟩:=x; exact ⟨_,e⟩
 | own y=>exact x
 | xd fs=>obtain ⟨_,⟨o,_,_,e,_⟩,_⟩:=x; exact ⟨_,e⟩
 | met f y=>exact ⟨_,x⟩
 | rng lo hi=>obtain ⟨_,_,_,e⟩:=x; exact ⟨_,e⟩
 | frz o u _=>exact ⟨_,x.1⟩
 | tbl ps=>exact ⟨_,x⟩
 | ext φ=>exact x.2.1
theorem HOk.no {P:Program} {w:World} {H:Hp} {h:Heap} (x:HOk P w H h) {a:Addr} (e:h.get? a=none):H a=none:=by
 cases q:H a with
 | none=>rfl
 | some u =>
  have z:=(x a u q).there
  rw [e] at z
  obtain ⟨o,z⟩:=z
  cases z
theorem qs_raise {C:Addr} {a:Expr} (hc:X.calm=true) (hC:PySem.W.excIn X.K C VE "ValueError.__new__" = true) (G:X.mg x=some (.ref C)) (ha:QA X [a] t) (hx:Raises X E) (hex:X.ex=[]) (hg:Gl X x:=by rfl) (hdb:(x == ("__debug__" : Str))=false:=by decide)
  (he:starEach [a] X.env=[(false,eval a X.env)]:=by rfl):QS X (.Raise (some (.Call (.Name x np) [a] [] cpos)) none pos) (fun D σ H=>t σ H fun vs H1=>vs.length≤sizeLine∧E (.ref C) none H1):=by
 refine ⟨fun pins s σ H D I h=>?_⟩
 obtain ⟨bm,N,nm,q,bs,hdct,sn,sub,ab,col,dd,k0,k1,k2,k3,k5,mN,cni,cl⟩:=exc_in I.kIn hC
 obtain ⟨cC,cN,cT⟩:=cl _ I.kIn
 refine wpAny_Raise_call_subU (C:=C) (nm:=nm) (q:=q) (N:=N) (bs:=bs) (bm:=bm) (hdct:=hdct) (sn:=sn) (sub:=sub) (ab:=ab) (col:=col) (dd:=dd) (k0:=k0) (k1:=k1) (k2:=k2) (k3:=k3) (k5:=k5)
  PySem.F.excBase_ValueError (by decide) PySem.F.excBase_ValueError (mN:=mN) (cT.hasType PySem.F.excBase_ValueError.hasBase) (I.ok.hd hc) (by rw [he]; rfl) cni (ld_glob I hg G ⟨rfl,?_⟩ hdb)
 rw [he]
 have ar:=ha.run cpos pins s σ H _ I h
 rw [he] at ar
 refine Calls.evalArgs_plain (wpAny_mono ar (fun us s2 h2=>?_) fun _ _ y=>y)
 obtain ⟨vs,H1,I1,r1,z,q1⟩:=h2
 obtain ⟨cC',cN',cT'⟩:=cl _ I1.kIn
 refine ⟨rfl,by rw [← r1.length]; exact z,cC',cN',cT',fun h' a' hm=>?_⟩
 obtain ⟨t',e1,_,_⟩:=hm.there
 have I2:Inv X pins σ H1 { s2 with heap:=h' }:=I1.kept (t':=s2.toks) hm.keeps
 exact hx pins σ H1 _ a' (.ref C) none I2 ⟨_,_,e1,rfl,rfl,rfl,rfl⟩ (I1.old hex hm.new) (I1.hok.no hm.new) q1
end
end L2
namespace L2
open PySem PySem.Spec PyProof.Rows
noncomputable def exk (a:Addr) (cls:Value) (od:Option Addr):HO:=.ext fun h=>∃ o vs,h.get? a=some o∧o.cls=cls∧o.dict=od∧o.data=.fields vs
theorem exk_ok {P:Program} {w:World} {H:Hp} {h:Heap} {a T:Addr} {cls:Value} {od:Option Addr} (x:Lies h a T cls od):ObjOk P w H h a (exk a cls od):=by
 obtain ⟨oe,vs,oT,ts,a1,a2,a3,a4,a5,a6,a7,a8,a9⟩:=x
 refine ⟨⟨oe,vs,a1,a2,a3,a4⟩,⟨oe,a1⟩,fun h1 h2 q k=>?_⟩
 obtain ⟨o,vs,q1,q2⟩:=q
 exact ⟨o,vs,k o q1,q2⟩
theorem Un.land {fs xs:List Addr} {H H':Hp} {h h1 h2:Heap} {e:Addr} {o:HO} (u:Un fs [] H H' h h1) (m:Mvd fs xs h1 h2) (hx:∀ b∈xs,h.get? b=none) (he:h.get? e=none) (hn:H' e=none):Un fs [] H (upd H' e o) h h2:=by
 have low:∀ b ob,h.get? b=some ob→b ∉ xs:=fun b ob q z=>by rw [hx b z] at q; cases q
 have ne:∀ b ob,h.get? b=some ob→b≠e:=fun b ob q z=>by rw [z,he] at q; cases q
 have ne':∀ b ob,H' b=some ob→b≠e:=fun b ob q z=>by rw [z,hn] at q; cases q
 refine ⟨fun b ob q n hf _=>m.keep b ob (low b ob q) hf (u.keep b ob q n hf (by simp)),fun b ob q n hf _=>?_,fun b ob q n _=>?_,fun b ob q _=>?_,fun b ys q=>?_,fun b ob v q=>?_,fun b ps q=>?_⟩
 ·obtain ⟨sl,e1⟩:=u.slot b ob q n hf (by simp)
  obtain ⟨sl',e2⟩:=m.slot b _ (low b ob q) e1
  exact ⟨sl',e2⟩
 ·rw [upd_ne (ne b ob q)]; exact u.free b ob q n (by simp)
 ·obtain ⟨o',e1⟩:=u.there b ob q (by simp)
  obtain ⟨sl,e2⟩:=m.slot b o' (low b ob q) e1
  exact ⟨_,e2⟩
 ·have z:=u.tups b ys q
  rw [upd_ne (ne' b _ z)]; exact z
 ·have z:=u.frzs b ob v q
  rw [upd_ne (ne' b _ z)]; exact z
 ·obtain ⟨more,z⟩:=u.tbls b ps q
  exact ⟨more,by rw [upd_ne (ne' b _ z)]; exact z⟩
theorem HOk.land {P:Program} {w:World} {fs xs:List Addr} {H:Hp} {h1 h2:Heap} {e:Addr} {o:HO} (x:HOk P w H h1) (m:Mvd fs xs h1 h2) (hx:∀ b∈xs,H b=none) (hf:∀ b∈fs,H b=none) (hn:H e=none) (new:ObjOk P w (upd H e o) h2 e o):HOk P w (upd H e o) h2:=by
 intro b u q
 by_cases hb:b=e
 ·subst hb
  rw [upd_same] at q
  cases q
  exact new
 ·rw [upd_ne hb] at q
  have tr:∀ c v,H c=some v→c ∉ xs∧c ∉ fs:=fun c v q=>⟨(fun z=>by rw [hx c z] at q; cases q),(fun z=>by rw [hf c z] at q; cases q)⟩
  have ne':∀ b ob,H b=some ob→b≠e:=fun b ob q z=>by rw [z,hn] at q; cases q
  refine (x b u q).stay (fun c v hc z=>?_) (fun c z=>by rw [upd_ne (ne' c _ z)]; exact z) fun c ys z=>by rw [upd_ne (ne' c _ z)]; exact z
  rcases hc with r | r
  ·rw [r] at z ⊢
   exact m.keep b v (tr b u q).1 (tr b u q).2 z
  ·exact m.keep c v (tr c _ r).1 (tr c _ r).2 z
noncomputable abbrev TX:=St→Hp→VK→XK→Prop
noncomputable abbrev TXS:=Ends→(St→XK)→St→Hp→Prop
noncomputable def XP (X:Cx) (pins:List (Addr×Obj)) (σ:St) (E:XK) (ev:Value) (s':Shared):Prop:=∃ H0 s0,Inv X pins σ H0 s0∧CXR X.prog X.w X.stack H0 s0 E ev s'
structure QX (X:Cx) (e:Expr) (t:TX):Prop where
 run:∀ (pins:List (Addr×Obj)) (s:Shared) (σ:St) (H:Hp) (Q:VK) (E:XK),Inv X pins σ H s→t σ H Q E→wpAny (model X.prog X.w) X.A (eval e X.env) (EP X pins σ Q) (XP X pins σ E) s
structure QXS (X:Cx) (sts:List Stmt) (t:TXS):Prop where
 run:∀ (pins:List (Addr×Obj)) (s:Shared) (σ:St) (H:Hp) (D:Ends) (E:St→XK),Inv X pins σ H s→t D E σ H→wpAny (model X.prog X.w) X.A (execs sts X.env) (SP X pins D) (fun ev s'=>∃ σ',XP X pins σ' (E σ') ev s') s
noncomputable abbrev Cx.to (X:Cx) (A:Around) (c:Bool) (XE:Value→Shared→Prop):Cx:={ X with A:=A,calm:=c,xe:=XE }
section
variable {X:Cx} {pins:List (Addr×Obj)} {σ:St} {H:Hp} {s:Shared}
theorem Inv.to (I:Inv X pins σ H s) {A:Around} {c:Bool} {XE:Value→Shared→Prop} (hA:A.frames=X.A.frames) (hc:c=true→A.handled=none):Inv (X.to A c XE) pins σ H s :=
 ⟨⟨I.ok.mod,I.ok.kind,I.ok.glob,I.ok.blt,I.ok.above,I.ok.inj,I.ok.has,I.ok.cab,hc,hA.trans I.ok.frames,I.ok.stk,I.ok.exf,I.ok.bs,I.ok.bsz,I.ok.noex,I.ok.exfs,I.ok.funs,I.ok.frf⟩,I.os,I.bare,I.base,I.loc,I.cell,I.free,I.freeC,I.pin,I.hok,I.len⟩
theorem Inv.back {A:Around} {c:Bool} {XE:Value→Shared→Prop} (I:Inv (X.to A c XE) pins σ H s) (ok:X.Ok):Inv X pins σ H s :=
 ⟨ok,I.os,I.bare,I.base,I.loc,I.cell,I.free,I.freeC,I.pin,I.hok,I.len⟩
end
section
variable {X:Cx} {k:Nat} {x:Str} {ps:List Str} {sp:Sp} {p pos np cpos:Pos} {e:Expr} {es:List Expr} {t:TA}
theorem qx_fn (C:CalleeX X.prog X.w X.K X.mg X.base k x ps sp) (hr:Room k X.A) (ha:∀ XE,QA (X.to X.A X.calm XE) (e :: es) t) (hg:Gl X x:=by rfl) (hdb:(x == ("__debug__" : Str))=false:=by decide)
  (he:starEach (e :: es) X.env=(false,eval e X.env) :: starEach es X.env:=by rfl) (hpl:(backTo pos (starEach es X.env)).any (·.1)=false:=by rfl):QX X (.Call (.Name x p) (e :: es) [] pos) (fun σ H Q E=>t σ H fun vs H1=>sp vs H1 Q E):=by
 obtain ⟨f,fd,F,hm,hk,hb⟩:=C.ex
 refine ⟨fun pins s σ H Q E I h=>?_⟩
 refine wpAny_Call_Name_kw (ld_glob I hg hm ?_ hdb)
 refine PySem.W.callWith_K (h₀:=X.base) I.ok.mod.kin hk (thn ((ha (XP X pins σ E)).run pos pins s σ H _ (I.to rfl I.ok.hd) h) fun us s1 ⟨vs,H1,I1,r,q⟩=>⟨(I1.back I.ok).kIn,?_⟩) he hpl
 have I1:=I1.back I.ok
 have hl:us.length=ps.length:=by rw [← r.length]; exact F.len _ _ _ _ q
 have hb':=hb s1 us I1.kIn (by simpa using hl)
 rw [List.append_nil] at hb'
 refine wpAny_call (codeAny_mono (F.run X.A X.stack s1 H1 ⟨us,[]⟩ us vs Q E hr I1.env0 hb' r q) fun r s' hq=>?_)
 cases r with
 | error e=>exact ⟨H1,s1,I1,hq⟩
 | ok fl =>
  cases fl with
  | ret u=>exact I1.after hq
  | next=>exact False.elim hq
  | brk=>exact False.elim hq
  | cont=>exact False.elim hq
theorem qxs_expr {t:TX} (he:QX X e t) (hs:swapsWith e none pos.line X.env=pure false:=by rfl):QXS X [.Expr e pos] (fun D E σ H=>t σ H (fun _ H1=>D.nx σ H1) (E σ)):=by
 refine ⟨fun pins s σ H D E I h=>?_⟩
 refine wpAny_execs_cons (wpAny_mono (wpAny_Expr_any (Q:=SP X pins D) (thn (he.run pins s σ H _ (E σ) I h) fun v s1 ⟨x,H1,I1,r1,q1⟩=>⟨σ,H1,I1,q1⟩) I.quiet hs) (fun f s1 q=>?_) fun ev s1 q=>⟨σ,q⟩)
 cases f with
 | next=>exact wpAny_execs_nil q
 | ret v=>exact q
 | brk=>exact q
 | cont=>exact q
theorem qxs_set {i:Nat} {t:TX} {pos':Pos} (hN:X.N.Nodup) (hi:X.N[i]?=some x) (hx:Loc X.env.scope x) (he:QX X e t) (hs:swapsWith e (some (.Name x pos')) pos.line X.env=pure false:=by rfl) (hf:X.fn x=true∨X.env.scope.names.lookup x=some .local:=by first | exact .inl rfl | exact .inr rfl | assumption) :
  QXS X [.Assign [.Name x pos'] e pos] (fun D E σ H=>t σ H (fun v H1=>D.nx (σ.set i (some v)) H1) (E σ)):=by
 refine ⟨fun pins s σ H D E I h=>?_⟩
 refine wpAny_execs_cons (wpAny_mono (wpAny_Assign_Name (Q:=SP X pins D) (thn (he.run pins s σ H _ (E σ) I h) fun v s1 ⟨y,H1,I1,r1,q1⟩=>store_ok I1 hN hi hx r1 (fun s2 I2=>⟨_,H1,I2,q1⟩) hf) hs) (fun f s1 q=>?_) fun ev s1 q=>⟨σ,q⟩)
 cases f with
 | next=>exact wpAny_execs_nil q
 | ret v=>exact q
 | brk=>exact q
 | cont=>exact q
end
end L2
namespace L2
open PySem PySem.Spec PyProof.Rows
structure ExcC (K:PySem.W.Frag) (C:Addr):Prop where
 ty:PySem.W.typeIn K (.ref C)=some (.type "type")
 cl:(PySem.W.clsIn K C).isSome=true
 bs:PySem.W.subIn K (.ref C) (.type "BaseException")=some true
theorem looks_isType {K:PySem.W.Frag} {M:Model} {h:Heap} {C:Addr} (X:K.In h) (e:(PySem.W.clsIn K C).isSome=true):PySem.W.Looks M h (isType (.ref C)) true:=by
 unfold PySem.W.clsIn at e
 split at e
 ·rename_i c' d' cd' sl' ho
  intro A' Q' E' s' k q
  unfold isType loadHead
  exact wpAny_bind (wpAny_loadPart (k _ _ (X _ _ ho)) (wpAny_pure q))
 ·cases e
theorem exc_matches {K:PySem.W.Frag} {M:Model} {A:Around} {E:Value→Shared→Prop} {s:Shared} {Q:Bool→Shared→Prop} {e C C':Addr} {oe:Obj} (X:K.In s.heap) (c:ExcC K C) (he:s.heap.get? e=some oe) (hcls:oe.cls=.ref C') (hs:PySem.W.subIn K (.ref C') (.ref C)=some true) (h:Q true s) :
  wpAny M A (excMatches (.ref e) (.ref C)) Q E s:=by
 have L1:PySem.W.Looks M s.heap (typeOf (.ref C)) (.type "type"):=PySem.W.looks_typeIn X c.ty
 have L2:PySem.W.Looks M s.heap (isType (.ref C)) true:=looks_isType X c.cl
 have L3:=PySem.W.looks_subIn (M:=M) X c.bs
 have L4:PySem.W.Looks M s.heap (typeOf (.ref e)) (.ref C'):=by
  intro A' Q' E' s' k q
  unfold typeOf
  exact wpAny_bind (wpAny_loadPart (k _ _ he) (wpAny_pure (by rw [hcls]; exact q)))
 have L5:=PySem.W.looks_subIn (M:=M) X hs
 have f:=tc_notTuple
 unfold excMatches
 unfold isInstance isExcClass
 repeat (first | with_reducible refine L1.here ?_ | with_reducible refine L2.here ?_ | with_reducible refine L3.here ?_ | with_reducible refine L4.here ?_ | with_reducible refine L5.here ?_ | wp_step)
 exact h
section
variable {X:Cx} {pins:List (Addr×Obj)} {σ:St} {H:Hp} {s:Shared}
theorem goes_ok {M:Model} {A:Around} {E:Value→Shared→Prop} {i:Nat} {n:Str} {hpos:Pos} {Q:Unit→Shared→Prop} (I:Inv X pins σ H s) (hN:X.N.Nodup) (hi:X.N[i]?=some n) (hk:X.env.scope.names.lookup n=some .local)
  (h:∀ s',Inv X pins (σ.set i none) H s'→Q () s'):wpAny M A (do bindName X.env n .none; unbindBehindTheSuite X.env n hpos) Q E s:=by
 obtain ⟨m,hn,hl⟩:=id I.loc
 have hcls:(X.env.scope.kind == .class || (X.env.scope.kind == .module && X.env.locals != X.env.globals))=false:=by rw [I.ok.kind]; rfl
 have cne:=I.cne
 obtain ⟨oL,_,_,hoL,_⟩:=id hn
 refine wpAny_nameGoes_keeps hk hn hcls fun h' v hn' hs=>?_
 have hok:HOk X.prog X.w H h':=fun b ob e=>by
  refine (I.hok b ob e).stay (fun c w' hc q=>(hs.2 c ?_).trans q) (fun _ q=>q) fun _ _ q=>q
  rintro rfl
  rcases hc with rfl | hc
  ·rw [I.free] at e; cases e
  ·rw [I.free] at hc; cases hc
 refine h _ ⟨I.ok,I.os,I.bare,⟨fun b o e n hb hx=>?_,fun b o e n hb hx=>?_,I.base.free,fun b o e hx=>?_,I.base.tups,I.base.frzs,I.base.tbls⟩,⟨_,hn',fun j y v' e1 e2 e3=>?_⟩,fun y c e=>?_,I.free,I.freeC,fun p hp=>?_,hok,by simpa using I.len⟩
 ·exact (hs.2 b (Nat.ne_of_lt (Nat.lt_of_lt_of_le (Heap.lt_size e) I.ok.above))).trans (I.base.keep b o e n hb hx)
 ·obtain ⟨sl,e1⟩:=I.base.slot b o e n hb hx
  exact ⟨sl,(hs.2 b (Nat.ne_of_lt (Nat.lt_of_lt_of_le (Heap.lt_size e) I.ok.above))).trans e1⟩
 ·obtain ⟨o',e1⟩:=I.base.there b o e hx
  exact ⟨o',(hs.2 b (Nat.ne_of_lt (Nat.lt_of_lt_of_le (Heap.lt_size e) I.ok.above))).trans e1⟩
 ·by_cases hj:j=i
  ·subst hj
   have hiσ:j < σ.length:=by rw [I.len]; exact (List.getElem?_eq_some_iff.mp hi).1
   rw [List.getElem?_set_self hiσ] at e2
   cases e2
  ·rw [List.getElem?_set_ne (Ne.symm hj)] at e2
   obtain ⟨u',r',q⟩:=hl j y v' e1 e2 e3
   refine ⟨u',r',?_⟩
   rcases q with ⟨k,e⟩ | ⟨k,c,e,z⟩
   ·refine .inl ⟨k,?_⟩
    have:y≠n:=fun e=>hj (nodup_ix hN e1 (e ▸ hi))
    simp [this,e]
   ·exact .inr ⟨k,c,e,z.sameBut hs (cne y c e)⟩
 ·obtain ⟨w',z⟩:=I.cell y c e
  exact ⟨w',z.sameBut hs (cne y c e)⟩
 ·obtain ⟨e,n,ne,nf,d⟩:=I.pin p hp
  exact ⟨(hs.2 p.1 ne).trans e,n,ne,nf,d⟩
end
section
variable {X:Cx} {c n:Str} {np hpos pos:Pos} {body hbody:List Stmt} {b₀:Stmt} {tb:TXS} {th:TS} {i:Nat} {C:Addr}
noncomputable def Ends.gone (D:Ends) (i:Nat):Ends:={ nx:=fun σ H=>D.nx (σ.set i none) H,rt:=D.rt,bk:=fun σ H=>D.bk (σ.set i none) H,ct:=fun σ H=>D.ct (σ.set i none) H }
noncomputable def tTry (K:PySem.W.Frag) (C:Addr) (i:Nat) (tb:TXS) (th:TS):TS:=fun D σ H=>tb D (fun σ1 cls od H2=>(∃ C',cls=.ref C'∧PySem.W.subIn K (.ref C') (.ref C)=some true)∧∀ a,H2 a=none→th (D.gone i) (σ1.set i (some (.ref a))) (upd H2 a (exk a cls od))) σ H
theorem qs_tryM (hN:X.N.Nodup) (hi:X.N[i]?=some n) (hk:X.env.scope.names.lookup n=some .local) (hC:ExcC X.K C) (G:X.mg c=some (.ref C)) (hf:X.env.frame=some X.env.locals) (hst:X.stack=X.env :: X.outer) (hb:QXS X body tb) (hh:∀ e XE,QSs (X.to (X.A.mark (some e)) false XE) (b₀ :: hbody) th) (hg:Gl X c:=by rfl) (hdb:(c == ("__debug__" : Str))=false:=by decide) :
  QS X (.Try body [.ExceptHandler (some (.Name c np)) (some n) (b₀ :: hbody) hpos] [] [] pos) (tTry X.K C i tb th):=by
 refine ⟨fun pins s σ H D I h=>?_⟩
 refine wpAny_Try_except (wpAny_mono (hb.run pins s σ H D _ I h) (fun f s1 q=>?_) fun ev s1 q=>?_)
 ·cases f with
  | next=>exact wpAny_execs_nil q
  | ret v=>exact q
  | brk=>exact q
  | cont=>exact q
 ·obtain ⟨σ1,H0,s0,I0,e,T,cls,od,H',rfl,h1,h2,h3,h4,h5,h6,h7,h8,h9,⟨C',rfl,hsub⟩,h10⟩:=q
  have J:Inv X pins σ1 H' s1:=I0.call' (ch:=[]) h1 h3 h4 h2 (fun b z=>absurd z (by simp))
  have hfr:X.A.frames=some (X.env :: X.outer):=by rw [← hst]; exact J.ok.frames
  have hstk:=J.stack
  rw [hst] at hstk
  refine note_next (base:=X.base) hfr hstk hf h9 fun h' T' hT' y m=>flight_none (fs:=frs (X.env :: X.outer)) y fun h'' y' m'=>?_
  have M1:Mvd (frs X.stack) [e,T,T'] s1.heap h'':=by rw [hst]; exact (m.mono (by simp)).trans (m'.mono (by simp))
  have fT':s0.heap.get? T'=none:=by
   cases q:s0.heap.get? T' with
   | none=>rfl
   | some o =>
    obtain ⟨o',z⟩:=h3.there T' o q (by simp)
    exact absurd (Heap.lt_size z) (Nat.not_lt.mpr hT')
  have hT'n:H' T'=none:=J.hok.fresh hT'
  have fx:∀ b∈[e,T,T'],s0.heap.get? b=none∧H' b=none:=by
   intro b hb
   simp only [List.mem_cons,List.not_mem_nil,or_false] at hb
   rcases hb with rfl | rfl | rfl
   ·exact ⟨h5,h7⟩
   ·exact ⟨h6,h8⟩
   ·exact ⟨fT',hT'n⟩
  have land:∀ {h3':Heap},Mvd (frs X.stack) [e,T,T'] s1.heap h3'→Lies h3' e T' (.ref C') od→Inv X pins σ1 (upd H' e (exk e (.ref C') od)) { s1 with heap:=h3' }:=fun {h3'} mm ll =>
   I0.call' (s':={ s1 with heap:=h3' }) (ch:=[]) h1 (h3.land mm (fun b hb=>(fx b hb).1) h5 h7) (h4.land mm (fun b hb=>(fx b hb).2) (fun b hb=>J.stkFree b hb) h7 (exk_ok ll)) h2 (fun b z=>absurd z (by simp))
  have I1:=land M1 y'
  refine wpAny_handleBy_cons (codeAny_handlers_test ?_) (by intro q; cases q)
  have I1':Inv (X.to (X.A.mark (some (.ref e))) false (notedBy (model X.prog X.w) (X.A.mark (some (.ref e))) X.env fun x s₁=>True)) pins σ1 (upd H' e (exk e (.ref C') od)) { s1 with heap:=h'' }:=I1.to rfl (by simp)
  refine ld_glob I1' hg G ?_ hdb
  obtain ⟨oe,vs,oT,ts,a1,a2,a3,a4,a5,a6,a7,a8,a9⟩:=id y'
  refine exc_matches I1.kIn hC a1 a2 hsub ?_
  refine codeAny_handlers_suite_as (flight_none (fs:=frs X.stack) y' fun h4' y4 m4=>?_)
  have I2:=land (M1.trans (m4.mono (by simp))) y4
  refine store_ok (v:=.ref e) I2 hN hi (.inl hk) rfl (fun s3 I3=>?_) (.inr hk)
  refine wpAny_mono ((hh (.ref e) _).run pins s3 _ _ (D.gone i) (I3.to rfl (by simp)) (h10 e h7)) (fun f s4 q=>?_) fun ev s4 q=>q
  cases f with
  | next =>
   obtain ⟨σ',H4,I4,q⟩:=q
   exact goes_ok (I4.back I.ok) hN hi hk fun s5 I5=>⟨_,H4,I5,q⟩
  | ret v =>
   obtain ⟨u,σ',H4,I4,r,q⟩:=q
   exact goes_ok (I4.back I.ok) hN hi hk fun s5 I5=>⟨u,_,H4,I5,r,q⟩
  | brk =>
   obtain ⟨σ',H4,I4,q⟩:=q
   exact goes_ok (I4.back I.ok) hN hi hk fun s5 I5=>⟨_,H4,I5,q⟩
  | cont =>
   obtain ⟨σ',H4,I4,q⟩:=q
   exact goes_ok (I4.back I.ok) hN hi hk fun s5 I5=>⟨_,H4,I5,q⟩
theorem qs_try (hN:X.N.Nodup) (hi:X.N[i]?=some n) (hk:X.env.scope.names.lookup n=some .local) (hC:ExcC X.K C) (G:X.mg c=some (.ref C)) (hf:X.env.frame=some X.env.locals) (hst:X.stack=X.env :: X.outer) (hb:QXS X body tb) (hh:∀ A XE,QSs (X.to A false XE) (b₀ :: hbody) th) (hg:Gl X c:=by rfl) (hdb:(c == ("__debug__" : Str))=false:=by decide) :
  QS X (.Try body [.ExceptHandler (some (.Name c np)) (some n) (b₀ :: hbody) hpos] [] [] pos) (tTry X.K C i tb th):=qs_tryM hN hi hk hC G hf hst hb (fun e XE=>hh _ XE) hg hdb
end
end L2
namespace L2
open PySem PySem.Spec PyProof.Rows
noncomputable def overVE:List Value→Bool
 | .ref _ :: r=>overVE r
 | l=>l == VE
theorem over_has:∀ {l:List Value},overVE l=true→l.contains (.type "object")=true∧l.contains (.type "BaseException")=true:=by
 intro l
 induction l with
 | nil=>intro e; cases e
 | cons c r ih =>
  intro e
  cases c with
  | ref a=>obtain ⟨x,y⟩:=ih e; exact ⟨by rw [List.contains_cons,x,Bool.or_true],by rw [List.contains_cons,y,Bool.or_true]⟩
  | _=>rw [beq_iff_eq.mp (show (_ == _)=true from e)]; decide
structure ExC (K:PySem.W.Frag) (C:Addr):Prop where
 ov:((PySem.W.clsIn K C).any fun cd=>overVE cd.mro)=true
 hd:PySem.W.hasDictIn K C=true
 ga:PySem.W.findIn K (.ref C) "__getattribute__" = some (some (.builtin "BaseException.__getattribute__"))
 gt:PySem.W.findIn K (.ref C) "__getattr__" = some none
 sa:PySem.W.findIn K (.ref C) "__setattr__" = some (some (.builtin "object.__setattr__"))
 dc:PySem.W.typeIn K (.ref C)=some (.type "type")
section
open PySem.W PySem.Builtin PySem.Builtin.ObjectAttr
variable {prog:Program} {w:World} {A:Around} {E:Value→Shared→Prop} {s:Shared} {K:Frag} {x C:Addr} {ox:Obj} {od:Option Obj} {name:Str} {R:Result→Shared→Prop}
end
end L2
namespace L2
open PySem PySem.Spec PyProof.Rows
theorem exk_at {P:Program} {w:World} {H:Hp} {h:Heap} {a:Addr} {cls:Value} {od:Option Addr} (x:ObjOk P w H h a (exk a cls od)):∃ o vs,h.get? a=some o∧o.cls=cls∧o.dict=od∧o.data=.fields vs:=x.1
section
variable {X:Cx} {pins:List (Addr×Obj)} {σ:St} {H:Hp} {s:Shared}
end
section
variable {X:Cx} {pins:List (Addr×Obj)} {σ:St} {H:Hp} {s:Shared} {a C:Addr} {f:Str} {A:Around} {E:Value→Shared→Prop}
open PySem.W PySem.Builtin PySem.Builtin.ObjectAttr
end
section
variable {X:Cx} {o e value:Expr} {f:Str} {pos pos':Pos} {ta tv:TE}
end
section
open PySem.W
end
end L2
namespace L2
open PySem PySem.Spec PyProof.Rows
noncomputable def excI (K:PySem.W.Frag) (C:Addr):Bool:=match K.lookup C with
 | some ⟨.type "type",_,.cls cd,sl⟩=>(match cd.mro,sl.toList with
  | .ref C' :: bm,[_,_,_,_,some (.builtin n),_]=>C' == C && n == "ValueError.__new__" && !cd.hasDel && PySem.W.tailIn K VE bm
  | _,_=>false)
 | _=>false
section
variable {prog:Program} {w:World} {A:Around} {E:Value→Shared→Prop} {h:Heap} {g:Array GenState} {d:Drawn} {t:Nat} {os:OsState}
variable {nm q:Str} {C N:Addr} {bs bm bmB:List Value} {hdct:Bool} {sn:List Str} {sub:List Value} {ab:Bool} {col:Option Bool} {dd:Option Addr} {k0 k1 k2 k3 k5:Option Value} {B Bn newId nid initId inN:String} {bmN:List Value}
end
section
variable {X:Cx} {k:Nat} {x:Str} {sp:Sp} {ps:List Str} {C f:Addr} {fd:FuncData} {np cpos pos:Pos} {a:Expr} {t:TA} {E:XK}
end
end L2
namespace L2
open PySem PySem.Spec PyProof.Rows
end L2
namespace L2
open PySem PySem.Spec PyProof.Rows
section
variable {P:Program} {w:World} {K:PySem.W.Frag} {mg:Str→Option Value} {base:Heap}
end
section
variable {X:Cx} {k:Nat} {x:Str} {ps:List Str} {sp:Sp} {p pos:Pos} {e:Expr} {es:List Expr} {t:TA}
end
end L2
namespace L2
open PySem PySem.Spec PyProof.Rows
structure ExN (K:PySem.W.Frag) (D:Addr):Prop extends ExC K D where
 ca:PySem.W.findIn K (.ref D) "__class__" = some (some (.builtin "object.__class__"))
 cg:PySem.W.specialIn K (.builtin "object.__class__") "__get__" = some (some (.builtin "getset_descriptor.__get__"))
 ct:PySem.W.takesIn K (.builtin "object.__class__")=some true
section
open PySem.W PySem.Builtin PySem.Builtin.ObjectAttr
variable {prog:Program} {w:World} {A:Around} {E:Value→Shared→Prop} {s:Shared} {K:Frag} {x D:Addr} {ox:Obj} {od:Option Obj}
theorem exc_class {Q:Option Value→Shared→Prop} (X:K.In s.heap) (I:PySem.W.InstAt s.heap x ox D od) (c:ExN K D) (h:Q (some (.ref D)) { s with toks:=s.toks + 1 }):wpAny (model prog w) A (getAttr? (.ref x) "__class__") Q E s:=by
 obtain ⟨cd,hc,ho⟩:=any_some c.ov
 have ne:cd.mro.isEmpty=false:=by cases q:cd.mro with | nil=>rw [q] at ho; cases ho | cons _ _=>rfl
 have hf:findObj K D od "__class__" = some (.bind (.builtin "getset_descriptor.__get__") (.builtin "object.__class__")):=by
  unfold findObj
  rw [hc,Option.bind_some,c.ca,Option.bind_some]
  dsimp only
  rw [c.cg,Option.bind_some]
  dsimp only
  rw [c.ct]
  rfl
 have hm:mroIn K D (.type "object")=some true:=by unfold mroIn; rw [hc,Option.bind_some,if_neg (by rw [ne]; decide),(over_has ho).1]
 obtain ⟨hp,g,d,t,os⟩:=s
 have L0:=I.type (M:=model prog w)
 have L1:=looks_findIn (M:=model prog w) X c.ga
 have L2:=looks_findIn (M:=model prog w) X c.gt
 have L3:=looks_find (M:=model prog w) X I hf
 have L4:Looks (model prog w) hp (isInstance (.ref x) (.type "BaseException")) true:=I.type.andThen (looks_mroIn X (by unfold mroIn; rw [hc,Option.bind_some,if_neg (by rw [ne]; decide),(over_has ho).2]))
 have f3:=PySem.F.attr_ValueError.ga.bind (.ref x)
 have hx2:(Value.builtin "BaseException.__getattribute__" == Value.builtin "object.__getattribute__")=false:=by decide +kernel
 have hx1:(onTheHeap (Value.ref D) && Value.builtin "BaseException.__getattribute__" == Value.builtin "object.__getattribute__")=false:=by rw [hx2]; rfl
 have hk:builtinKind "BaseException.__getattribute__" = some .slot:=by decide +kernel
 have hsplit:splitId "BaseException.__getattribute__" = some ("BaseException", "__getattribute__"):=by decide +kernel
 unfold getAttr? getAttrBy? getAttrBy
 refine wpAny_bind (wpAny_mkText (wpAny_bind (wpAny_attempt (wpAny_holding (wpAny_bind (L0.at (wpAny_bind (L1.at ?_))))))))
 dsimp only
 rw [hx1]
 simp only [Bool.false_eq_true,if_false]
 unfold getAttrByItsOwn hookBefore callGetattribute
 rw [if_pos (show onTheHeap (Value.ref D)=true from rfl)]
 refine wpAny_bind (L2.at ?_)
 simp only [Bool.false_and,Bool.false_eq_true,if_false]
 unfold boundAndCalled
 rw [f3]
 refine wpAny_bind (wpAny_attempt (wpAny_holding (wpAny_bind (wpAny_pure (wpAny_call (codeAny_call_builtin PySem.F.attr_ValueError.ga.plain PySem.F.entry_bexc_ga (@check_slot (model prog w) _ _ ⟨hp,g,d,t + 1,os⟩ "BaseException.__getattribute__" "BaseException" "__getattribute__" (.ref x) [.str "__class__" t] [] _ hk hsplit L4 (PySem.F.args_bexc_ga (.ref x) (.str "__class__" t)) ?_)))))))
 show wpAny _ _ (Builtin.«object.__getattribute__» ⟨[.ref x,.str "__class__" t],[]⟩) _ _ _
 refine wpAny_bind (wpAny_pure (wpAny_bind (wpAny_pure (wpAny_bind (L0.at (wpAny_bind (L3.at ?_)))))))
 show wpAny _ _ (holding [.builtin "object.__class__"] (call (.builtin "getset_descriptor.__get__") [.builtin "object.__class__",.ref x,.ref D]) >>= ret) _ _ _
 refine wpAny_bind (wpAny_holding (wpAny_call (class_get (s:=⟨hp,g,d,t + 1,os⟩) (ox:=ox) (od:=od) X I hm (wpAny_pure ?_))))
 show wpAny _ _ (handedOut (.ref D)) _ _ _
 rw [handedOut_of rfl]
 exact wpAny_pure (wpAny_pure h)
theorem kitx_exc (c:ExN K D):KitX K (.ref x) (.ref D) (fun h=>PySem.W.InstAt h x ox D od) where
 ty:=fun _ _ _ I=>I.type
 it:=fun _ _ X _=>by
  obtain ⟨cd,hc,_⟩:=any_some c.ov
  exact looks_isType X (by rw [hc]; rfl)
 ne:=fun h tp dd its n sl X htp=>by
  obtain ⟨cdD,hcD,_⟩:=any_some c.ov
  refine Bool.eq_false_iff.mpr fun q=>?_
  have e:D=tp:=Value.ref.inj (beq_iff_eq.mp q)
  subst e
  unfold clsIn at hcD
  split at hcD
  ·rename_i c' d' cd' sl' ho
   have z:=(X _ _ ho).symm.trans htp
   cases z
  ·cases hcD
 ca:=fun X I k=>exc_class X I c k
end
noncomputable def rIsY (K:PySem.W.Frag):List V→Hp→VK→Prop:=fun xs H Q=>∃ a C C' od b,xs=[.ref a,.ref C]∧H a=some (exk a (.ref C') od)∧(∀ d,od=some d→∃ fs,H d=some (.xd fs))∧ExN K C'∧PySem.W.kitOne K (.ref C') (.ref C)=some b∧Q (.bl b) H
noncomputable def rIsYT (K:PySem.W.Frag) (T:String):List V→Hp→VK→Prop:=fun xs H Q=>∃ a C' od b,xs=[.ref a,.ty T]∧H a=some (exk a (.ref C') od)∧(∀ d,od=some d→∃ fs,H d=some (.xd fs))∧ExN K C'∧PySem.W.kitOne K (.ref C') (.type T)=some b∧Q (.bl b) H
section
variable {X:Cx} {pins:List (Addr×Obj)} {σ:St} {H:Hp} {s:Shared} {a C':Addr} {od:Option Addr}
theorem exk_inst (I:Inv X pins σ H s) (ea:H a=some (exk a (.ref C') od)) (hd:∀ d,od=some d→∃ fs,H d=some (.xd fs)):∃ ox oo,PySem.W.InstAt s.heap a ox C' oo:=by
 obtain ⟨oe,vs,a1,a2,a3,a4⟩:=exk_at (I.hok a _ ea)
 cases od with
 | none=>exact ⟨oe,none,a1,a2,by unfold PySem.W.notCls; rw [a4],by rw [a3]; trivial⟩
 | some d =>
  obtain ⟨fs,ed⟩:=hd d rfl
  obtain ⟨mA,nA,r⟩:=I.hok d _ ed
  obtain ⟨oD,hoD,hl⟩:=lookIn_ns nA
  exact ⟨oe,some oD,a1,a2,by unfold PySem.W.notCls; rw [a4],by rw [a3]; exact hoD⟩
theorem k_isY {K:PySem.W.Frag} (hK:X.K=K:=by rfl):CallR X (.builtin "isinstance") (rIsY K):=by
 subst hK
 intro pins s σ H xs us Q I r h
 obtain ⟨a,C,C',od,b,rfl,ea,hd,c,e,q⟩:=h
 obtain ⟨u,v,rfl,ru,rv⟩:=r.two
 obtain rfl:u=Value.ref a:=ru
 obtain rfl:v=Value.ref C:=rv
 obtain ⟨ox,oo,J⟩:=exk_inst I ea hd
 exact PySem.W.kia_one (kitx_exc (ox:=ox) (od:=oo) c) I.kIn J e (fun z=>nomatch z) fun tk=>⟨.bl b,H,I.tok tk,rfl,q⟩
theorem k_isYT {K:PySem.W.Frag} (T:String) (hK:X.K=K:=by rfl):CallR X (.builtin "isinstance") (rIsYT K T):=by
 subst hK
 intro pins s σ H xs us Q I r h
 obtain ⟨a,C',od,b,rfl,ea,hd,c,e,q⟩:=h
 obtain ⟨u,v,rfl,ru,rv⟩:=r.two
 obtain rfl:u=Value.ref a:=ru
 obtain rfl:v=Value.type T:=rv
 obtain ⟨ox,oo,J⟩:=exk_inst I ea hd
 exact PySem.W.kia_one (kitx_exc (ox:=ox) (od:=oo) c) I.kIn J e (fun z=>nomatch z) fun tk=>⟨.bl b,H,I.tok tk,rfl,q⟩
end
end L2
namespace L2
open PySem PySem.Spec PyProof.Rows
section
variable {X:Cx}
end
end L2
namespace L2
open PySem
inductive DOk:Dt→Prop where
 | flat (v:V):DOk (.flat v)
 | tup {ds:List Dt} (l:ds.length≤5000) (h:∀ d∈ds,DOk d):DOk (.tup ds)
 | lst {ds:List Dt} (l:ds.length≤5000) (h:∀ d∈ds,DOk d):DOk (.lst ds)
noncomputable def SameA (A:Addr→Prop) (H H':Hp):Prop:=SameT H H'∧∀ b xs,¬ A b→H b=some (.lst xs)→H' b=some (.lst xs)
theorem Same.a {A:Addr→Prop} {H H':Hp} (e:Same H H'):SameA A H H':=⟨e.t,fun b xs _ h=>e b _ h⟩
theorem SameA.set {A:Addr→Prop} {H:Hp} {S:Addr} {zs:List V} {o:HO} (h:H S=some (.lst zs)) (hA:A S):SameA A H (upd H S o):=⟨SameT.set h,fun b xs n e=>by rw [upd_ne (fun z=>n (by rw [z]; exact hA))]; exact e⟩
theorem SameA.mono {A B:Addr→Prop} {H H':Hp} (e:SameA A H H') (h:∀ b,A b→B b):SameA B H H':=⟨e.1,fun b xs n=>e.2 b xs fun a=>n (h b a)⟩
noncomputable def ThAt (K:PySem.W.Frag) (H:Hp) (v:V) (x:Str×V):Prop:=flatV x.2=true∧∃ a,v=.ref a∧SqT K H a [.str x.1,x.2]
theorem ThAt.same {K:PySem.W.Frag} {H H':Hp} (e:SameT H H') (v:V) (x:Str×V) (h:ThAt K H v x):ThAt K H' v x:=by
 obtain ⟨f,a,r,q⟩:=h
 exact ⟨f,a,r,e.tup q⟩
noncomputable def PrAt (K:PySem.W.Frag) (H:Hp) (v:V) (x:Str×Str×V):Prop:=∃ (a:Addr) (u:V),v=.ref a∧SqT K H a [.str x.1,u]∧ThAt K H u x.2
theorem PrAt.same {K:PySem.W.Frag} {H H':Hp} (e:SameT H H') (v:V) (x:Str×Str×V) (h:PrAt K H v x):PrAt K H' v x:=by
 obtain ⟨a,u,r,q,t⟩:=h
 exact ⟨a,u,r,e.tup q,t.same e⟩
structure Rx where
 wd:Str
 pl:List Int
 ops:List (Str×V)
 ar:List (Str×Str×V)
noncomputable def RwAt (K:PySem.W.Frag) (A:Addr→Prop) (H:Hp) (v:V) (x:Rx):Prop:=∃ (a p o e:Addr) (ov ev:List V),v=.ref a∧SqT K H a [.str x.wd,.ref p,.ref o,.ref e]∧SqT K H p (x.pl.map V.int)∧H o=some (.lst ov)∧Al (ThAt K H) ov x.ops∧H e=some (.lst ev)∧Al (PrAt K H) ev x.ar∧¬ A o∧¬ A e
theorem RwAt.same {K:PySem.W.Frag} {A:Addr→Prop} {H H':Hp} (s:SameA A H H') (v:V) (x:Rx) (h:RwAt K A H v x):RwAt K A H' v x:=by
 obtain ⟨a,p,o,e,ov,ev,h1,h2,h3,h4,h5,h6,h7,h8,h9⟩:=h
 exact ⟨a,p,o,e,ov,ev,h1,s.1.tup h2,s.1.tup h3,s.2 _ _ h8 h4,h5.mono (ThAt.same s.1),s.2 _ _ h9 h6,h7.mono (PrAt.same s.1),h8,h9⟩
theorem RwAt.mono {K:PySem.W.Frag} {A B:Addr→Prop} {H:Hp} (s:∀ b,B b→H b≠none→A b) (v:V) (x:Rx) (h:RwAt K A H v x):RwAt K B H v x:=by
 obtain ⟨a,p,o,e,ov,ev,h1,h2,h3,h4,h5,h6,h7,h8,h9⟩:=h
 exact ⟨a,p,o,e,ov,ev,h1,h2,h3,h4,h5,h6,h7,fun b=>h8 (s o b (by rw [h4]; simp)),fun b=>h9 (s e b (by rw [h6]; simp))⟩
noncomputable def thD (x:Str×V):Dt:=.tup [.flat (.str x.1),.flat x.2]
noncomputable def prD (x:Str×Str×V):Dt:=.tup [.flat (.str x.1),thD x.2]
noncomputable def rzD (x:Rx):Dt:=.tup [.flat (.str x.wd),.tup (x.pl.map fun i=>.flat (.int i)),.lst (x.ops.map thD),.lst (x.ar.map prD)]
theorem ThAt.d {K:PySem.W.Frag} {H:Hp} {v:V} {x:Str×V} (h:ThAt K H v x):IsD K H 1 v (thD x):=by
 obtain ⟨f,a,rfl,q⟩:=h
 refine .tup q rfl fun j v d h1 h2=>?_
 match j,h1,h2 with
 | 0,h1,h2=>cases h1; cases h2; exact .flat rfl
 | 1,h1,h2=>cases h1; cases h2; exact .flat f
theorem PrAt.d {K:PySem.W.Frag} {H:Hp} {v:V} {x:Str×Str×V} (h:PrAt K H v x):IsD K H 2 v (prD x):=by
 obtain ⟨a,u,rfl,q,t⟩:=h
 refine .tup q rfl fun j v d h1 h2=>?_
 match j,h1,h2 with
 | 0,h1,h2=>cases h1; cases h2; exact .flat rfl
 | 1,h1,h2=>cases h1; cases h2; exact t.d
theorem Al.lstD {K:PySem.W.Frag} {H:Hp} {α:Type} {R:V→α→Prop} {g:α→Dt} {n:Nat} {a:Addr} {vs:List V} {xs:List α} (al:Al R vs xs) (e:SqL K H a vs) (h:∀ v x,R v x→IsD K H n v (g x)):IsD K H (n + 1) (.ref a) (.lst (xs.map g)):=by
 refine .lst e (by rw [List.length_map]; exact al.1) fun j v d h1 h2=>?_
 rw [List.getElem?_map] at h2
 obtain ⟨r,hr,rfl⟩:=Option.map_eq_some_iff.mp h2
 exact h v r (al.2 j v r h1 hr)
theorem intsT {K:PySem.W.Frag} {H:Hp} {n:Nat} {p:Addr} {pl:List Int} (q:SqT K H p (pl.map V.int)):IsD K H (n + 1) (.ref p) (.tup (pl.map fun i=>.flat (.int i))):=by
 refine .tup q (by simp) fun j v d h1 h2=>?_
 rw [List.getElem?_map] at h1 h2
 obtain ⟨k,hk,rfl⟩:=Option.map_eq_some_iff.mp h1
 rw [hk] at h2
 cases h2
 exact .flat rfl
theorem RwAt.d {K:PySem.W.Frag} {A:Addr→Prop} {H:Hp} {v:V} {x:Rx} (h:RwAt K A H v x):IsD K H 4 v (rzD x):=by
 obtain ⟨a,p,o,e,ov,ev,rfl,h2,h3,h4,h5,h6,h7,_,_⟩:=h
 refine .tup h2 rfl fun j v d f1 f2=>?_
 match j,f1,f2 with
 | 0,h1,h2=>cases h1; cases h2; exact .flat rfl
 | 1,h1,h2=>cases h1; cases h2; exact intsT h3
 | 2,h1,h2=>cases h1; cases h2; exact (h5.lstD (g:=thD) (SqL.of h4) fun _ _ t=>t.d).up (by omega)
 | 3,h1,h2=>cases h1; cases h2; exact h7.lstD (g:=prD) (SqL.of h6) fun _ _ t=>t.d
theorem thD_ok (x:Str×V):DOk (thD x):=.tup (by show 2≤5000; omega) fun d h=>by
 simp only [List.mem_cons,List.not_mem_nil,or_false] at h
 rcases h with rfl | rfl
 ·exact .flat _
 ·exact .flat _
theorem prD_ok (x:Str×Str×V):DOk (prD x):=.tup (by show 2≤5000; omega) fun d h=>by
 simp only [List.mem_cons,List.not_mem_nil,or_false] at h
 rcases h with rfl | rfl
 ·exact .flat _
 ·exact thD_ok _
theorem lstD_ok {α:Type} {g:α→Dt} {xs:List α} (l:xs.length≤5000) (h:∀ x∈xs,DOk (g x)):DOk (.lst (xs.map g)):=.lst (by rw [List.length_map]; exact l) fun d hd=>by
 obtain ⟨x,hx,rfl⟩:=List.mem_map.mp hd
 exact h x hx
structure Rx.Ok (x:Rx):Prop where
 pl:x.pl.length≤5000
 ops:x.ops.length≤5000
 ar:x.ar.length≤5000
theorem rzD_ok {x:Rx} (h:x.Ok):DOk (rzD x):=.tup (by show 4≤5000; omega) fun d hd=>by
 simp only [List.mem_cons,List.not_mem_nil,or_false] at hd
 rcases hd with rfl | rfl | rfl | rfl
 ·exact .flat _
 ·refine .tup (by rw [List.length_map]; exact h.pl) fun d hd=>?_
  obtain ⟨x,hx,rfl⟩:=List.mem_map.mp hd
  exact .flat _
 ·exact lstD_ok h.ops fun x _=>thD_ok x
 ·exact lstD_ok h.ar fun x _=>prD_ok x
section
variable {g:TG} {tt:TT} {te:TE} {σ0:St} {H1:Hp} {D:Addr} {Q:VK}
end
end L2
namespace L2
open PySem PySem.Spec PyProof.Rows
section
variable {X:Cx}
end
end L2
namespace L2
open PySem PySem.Spec PyProof.Rows
section
variable {prog:Program} {w:World} {A:Around} {E:Value→Shared→Prop} {s:Shared}
end
section
variable {X:Cx}
end
section
variable {g:TG} {tt:TT} {te:TE} {σ0:St} {H1:Hp} {D:Addr} {Q:VK}
end
end L2
namespace L2
open PySem PySem.Spec PyProof.Rows
theorem via {t:TS} {X:St→Hp→Prop} {rt:VK} {bk ct:St→Hp→Prop} {σ:St} {H:Hp} (R:Hp→Prop) (h2:∀ H',R H'→X σ H') (h1:∀ Y:St→Hp→Prop,(∀ H',R H'→Y σ H')→t ⟨Y,rt,bk,ct⟩ σ H):t ⟨X,rt,bk,ct⟩ σ H:=h1 X h2
section
variable {X:Cx}
end
end L2
namespace L2
open PySem PySem.Spec PyProof.Rows
section
variable {X:Cx}
end
end L2
namespace L2
open PySem PySem.Spec PyProof.Rows
section
variable {X:Cx}
open PySem.Builtin PySem.Builtin.Str in
end
end L2
namespace L2
open PySem PySem.Spec PyProof.Rows
section
variable {prog:Program} {w:World} {A:Around} {E:Value→Shared→Prop} {s:Shared}
end
section
variable {X:Cx}
end
section
variable {X:Cx} {k:Nat} {x:Str} {ps:List Str} {sp:Sp} {p pos:Pos}
end
end L2
namespace L2
open PySem PySem.Spec PyProof.Rows
structure MethX (CX:CXT) (P:Program) (w:World) (K:PySem.W.Frag) (mg:Str→Option Value) (base:Heap) (k:Nat) (C:Addr) (m:Str) (ps:List Str) (sp:Sp):Prop where
 ex:∃ (g:Addr) (fd:FuncData),FnOk P w K mg base CX k g fd ps sp∧Cls K C∧Meth K C m g∧Binds K fd ps []
structure MakeX (CX:CXT) (P:Program) (w:World) (K:PySem.W.Frag) (mg:Str→Option Value) (base:Heap) (k:Nat) (x:Str) (C:Addr) (ps:List Str) (sp:Sp):Prop where
 ex:∃ (f:Addr) (fd:FuncData),FnOk P w K mg base CX k f fd ps sp∧Mk K C f∧mg x=some (.ref C)∧Binds K fd ps []
noncomputable def tMethD (CX:CXT) (P:Program) (w:World) (K:PySem.W.Frag) (mg:Str→Option Value) (base:Heap) (k:Nat) (m:Str) (ps:List Str) (E:XK) (ta:TE) (t:TA):TE:=fun σ H Q=>ta σ H fun x H1=>∃ a C dx fs sp,x=.ref a∧H1 a=some (.ins C dx fs)∧fs.lookup m=none∧MethX CX P w K mg base k C m ps sp ∧
 t σ H1 fun vs H2=>sp (.ref a :: vs) H2 Q E
noncomputable def tNew (C:Addr) (sp:Sp) (E:XK) (t:TA):TE:=fun σ H Q=>t σ H fun vs H1=>∀ x dx,H1 x=none→H1 dx=none→dx≠x→sp (.ref x :: vs) (upd (upd H1 dx (.own x)) x (.ins C dx [])) (fun v H2=>v=.non∧Q (.ref x) H2) E
section
variable {X:Cx} {k:Nat} {x m:Str} {ps:List Str} {sp:Sp} {E:XK} {C:Addr} {p pos apos:Pos} {e o:Expr} {es:List Expr} {ta:TE} {t:TA} {CX:CXT} {P:Program} {w:World} {mg:Str→Option Value} {base:Heap}
theorem qe_methD (K:PySem.W.Frag) (CX:CXT) (ps:List Str) {pl:Sem Bool} (he:QE X o ta) (hr:Room k X.A) (hx:Passes CX X E) (ha:QA X (e :: es) t) (hP:X.prog=P:=by rfl) (hw:X.w=w:=by rfl) (hK:X.K=K:=by rfl) (hmg:X.mg=mg:=by rfl) (hbs:X.base=base:=by rfl)
  (hst:starEach (e :: es) X.env=(false,eval e X.env) :: starEach es X.env:=by rfl) (hpl:(backTo pos (starEach es X.env)).any (·.1)=false:=by rfl)
  (ht:eval (.Call (.Attribute o m apos) (e :: es) [] pos) X.env=(do
   let ov ← eval o X.env
   standAt apos.atName
   let (f,first) ← holding [ov] (getMethod ov m pl)
   callWith pos f first (backTo pos (starEach (e :: es) X.env)) (backToKw pos (keywordEach [] X.env))):=by rfl) :
  QE X (.Call (.Attribute o m apos) (e :: es) [] pos) (tMethD CX P w K mg base k m ps E ta t):=by
 subst hP hw hK hmg hbs
 refine ⟨fun pins s σ H Q I h=>?_⟩
 refine PySem.W.methodCall_KW (pl:=pl) (thn (he.run pins s σ H _ I h) fun u s1 ⟨x,H1,I1,rx,a,C,dx,fs,sp,ex,ea,l,M,q⟩=>?_) ht
 obtain ⟨g,fd,F,c,hm,hb⟩:=M.ex
 subst ex
 obtain rfl:u=Value.ref a:=rx
 refine getmeth_ok I1 ea c hm l ?_
 refine PySem.W.callWith_K (first:=[.ref a]) (h₀:=X.base) I.ok.mod.kin hm.kp (thn (ha.run pos pins s1 σ H1 _ I1 q) fun us s2 ⟨vs,H2,I2,r,q2⟩=>⟨I2.kIn,?_⟩) hst hpl
 exact run_fn (us:=.ref a :: us) (vs:=.ref a :: vs) (dvs:=[]) F hr hb .nil hx I2 (.cons rfl r) (by rw [List.append_nil]; exact q2)
theorem qe_new (M:MakeX CX X.prog X.w X.K X.mg X.base k x C ps sp) (hr:Room (k + 1) X.A) (hx:Passes CX X E) (ha:QA X (e :: es) t) (hg:Gl X x:=by rfl) (hdb:(x == ("__debug__" : Str))=false:=by decide)
  (he:starEach (e :: es) X.env=(false,eval e X.env) :: starEach es X.env:=by rfl) (hpl:(backTo pos (starEach es X.env)).any (·.1)=false:=by rfl):QE X (.Call (.Name x p) (e :: es) [] pos) (tNew C sp E t):=by
 obtain ⟨f,fd,F,mk,hm,hb⟩:=M.ex
 refine ⟨fun pins s σ H Q I h=>?_⟩
 refine wpAny_Call_Name_kw (ld_glob I hg hm ?_ hdb)
 refine PySem.W.callWith_K (h₀:=X.base) I.ok.mod.kin mk.kp (thn (ha.run pos pins s σ H _ I h) fun us s1 ⟨vs,H1,I1,r,q⟩=>⟨I1.kIn,?_⟩) he hpl
 exact run_make (dvs:=[]) mk F hr hb .nil hx I1 r (fun x dx h1 h2 h3=>by rw [List.append_nil]; exact q x dx h1 h2 h3)
end
end L2
namespace L2
open PySem PySem.Spec PyProof.Rows
section
variable {X:Cx} {e o value:Expr} {f:Str} {pos pos':Pos} {ta tv:TE} {pins:List (Addr×Obj)} {σ:St} {H:Hp} {s:Shared}
theorem qe_fldK (K:PySem.W.Frag) (he:QE X e ta) (hb:attributeBase e f X.env (eval e X.env)=eval e X.env:=by rfl) (hK:X.K=K:=by rfl):QE X (.Attribute e f pos) (tFld K ta f):=by subst hK; exact qe_fld he hb
theorem qs_fldK (K:PySem.W.Frag) (ha:QE X o ta) (hv:QE X value tv) (hs:swapsWith value (some (.Attribute o f pos')) pos.line X.env=pure false:=by rfl) (hK:X.K=K:=by rfl):QS X (.Assign [.Attribute o f pos'] value pos) (sFld K ta tv f):=by subst hK; exact qs_fld ha hv hs
end
end L2
namespace L2
open PySem PySem.Spec PyProof.Rows
section
variable {X:Cx} {pins:List (Addr×Obj)} {σ:St} {H:Hp} {s:Shared}
end
end L2
namespace L2
open PySem PySem.Spec PyProof.Rows
section
variable {P:Program} {w:World} {K:PySem.W.Frag} {mg:Str→Option Value} {base:Heap}
end
section
variable {X:Cx} {k:Nat} {x:Str} {ps ks:List Str} {gV:List V→List V→List V} {sp:Sp} {E:XK} {C:Addr} {p pos kpos:Pos} {e:Expr} {es:List Expr} {kws:List Keyword} {te:TE} {t tk:TA} {CX:CXT} {nm:Option Str} {f:Addr} {fd:FuncData} {g:List Value→List Value→List Value}
end
end L2
namespace L2
open PySem PySem.Spec PyProof.Rows
section
variable {X:Cx} {pins:List (Addr×Obj)} {σ:St} {H:Hp} {s:Shared}
end
end L2
namespace L2
open PySem PySem.Spec PyProof.Rows
section
variable {κ:Type} [DecidableEq κ]
noncomputable def valV (kvs:List (κ×V)) (k:κ):Option V:=(kvs.find? fun kv=>decide (kv.1=k)).map (·.2)
noncomputable def putK (kvs:List (κ×V)) (k:κ) (v:V):List (κ×V) :=
 if (kvs.any fun kv=>decide (kv.1=k))=true then kvs.map (fun kv=>if kv.1=k then (kv.1,v) else kv) else kvs++[(k,v)]
theorem valV_pos {p:κ×V} {r:List (κ×V)} {k:κ} (e:p.1=k):valV (p :: r) k=some p.2:=by simp [valV,List.find?_cons,e]
theorem valV_neg {p:κ×V} {r:List (κ×V)} {k:κ} (e:¬ p.1=k):valV (p :: r) k=valV r k:=by simp [valV,List.find?_cons,e]
theorem valV_any (k:κ):∀ kvs:List (κ×V),(kvs.any fun kv=>decide (kv.1=k))=(valV kvs k).isSome
 | []=>rfl
 | p :: r=>by
  rw [List.any_cons]
  by_cases e:p.1=k
  ·simp only [valV_pos e,decide_eq_true e,Bool.true_or,Option.isSome_some]
  ·rw [valV_neg e,decide_eq_false e,Bool.false_or]; exact valV_any k r
theorem valV_map (k j:κ) (y:V):∀ kvs:List (κ×V),valV (kvs.map fun kv=>if kv.1=k then (kv.1,y) else kv) j=(valV kvs j).map fun x=>if j=k then y else x
 | []=>rfl
 | p :: r=>by
  have ih:=valV_map k j y r
  rw [List.map_cons]
  by_cases h:p.1=k
  ·rw [if_pos h]
   by_cases e:p.1=j
   ·rw [valV_pos (p:=(p.1,y)) e,valV_pos e,Option.map_some,if_pos (e.symm.trans h)]
   ·rw [valV_neg (p:=(p.1,y)) e,valV_neg e,ih]
  ·rw [if_neg h]
   by_cases e:p.1=j
   ·rw [valV_pos (p:=p) e,valV_pos e,Option.map_some,if_neg (fun z=>h (e.trans z))]
   ·rw [valV_neg (p:=p) e,valV_neg e,ih]
theorem valV_snoc (k j:κ) (y:V):∀ kvs:List (κ×V),valV kvs k=none→valV (kvs++[(k,y)]) j=if j=k then some y else valV kvs j
 | [],_=>by
  by_cases e:k=j
  ·rw [if_pos e.symm]; exact valV_pos (p:=(k,y)) e
  ·rw [if_neg (fun z=>e z.symm)]; exact valV_neg (p:=(k,y)) e
 | p :: r,hn=>by
  rw [List.cons_append]
  have hk:¬ p.1=k:=fun z=>by rw [valV_pos z] at hn; cases hn
  rw [valV_neg hk] at hn
  have ih:=valV_snoc k j y r hn
  by_cases e:p.1=j
  ·rw [valV_pos e,valV_pos e,if_neg (fun z=>hk (e.trans z))]
  ·rw [valV_neg e,valV_neg e,ih]
theorem valV_put (kvs:List (κ×V)) (k j:κ) (y:V):valV (putK kvs k y) j=if j=k then some y else valV kvs j:=by
 unfold putK
 by_cases a:(kvs.any fun kv=>decide (kv.1=k))=true
 ·rw [if_pos a,valV_map]
  rw [valV_any] at a
  by_cases e:j=k
  ·obtain ⟨x,hx⟩:=Option.isSome_iff_exists.mp a
   rw [if_pos e,e,hx,Option.map_some,if_pos rfl]
  ·rw [if_neg e]
   cases valV kvs j with
   | none=>rfl
   | some x=>rw [Option.map_some,if_neg e]
 ·rw [if_neg a]
  refine valV_snoc k j y kvs ?_
  rw [valV_any] at a
  cases q:valV kvs k with
  | none=>rfl
  | some x=>rw [q] at a; exact (a rfl).elim
theorem length_putK (kvs:List (κ×V)) (k:κ) (v:V):(putK kvs k v).length≤kvs.length + 1:=by
 unfold putK
 split
 ·rw [List.length_map]; omega
 ·rw [List.length_append,List.length_cons,List.length_nil]; omega
theorem RelO.isSome_eq {o:Option V} {u:Option Value} (r:RelO o u):o.isSome=u.isSome:=by
 cases o with
 | none=>cases u with
  | none=>rfl
  | some _=>exact (show False from r).elim
 | some _=>cases u with
  | none=>exact (show False from r).elim
  | some _=>rfl
theorem KV.val {kvs:List (κ×V)} {vs:List (κ×Value)} (r:KV kvs vs) (k:κ):RelO (valV kvs k) (valueAt vs k):=by
 unfold KV at r
 induction r with
 | nil=>exact True.intro
 | @cons p q ps qs h t ih =>
  obtain ⟨h1,h2⟩:=h
  by_cases e:p.1=k
  ·have e':q.1=k:=h1.symm.trans e
   have b:valueAt (q :: qs) k=some q.2:=by simp [valueAt,List.find?_cons,e']
   rw [valV_pos e,b]; exact h2
  ·have e':¬ q.1=k:=fun z=>e (h1.trans z)
   have b:valueAt (q :: qs) k=valueAt qs k:=by simp [valueAt,List.find?_cons,e']
   rw [valV_neg e,b]; exact ih
theorem KV.any {kvs:List (κ×V)} {vs:List (κ×Value)} (r:KV kvs vs) (k:κ):(kvs.any fun kv=>decide (kv.1=k))=vs.any fun kv=>decide (kv.1=k):=by
 unfold KV at r
 induction r with
 | nil=>rfl
 | cons h t ih=>rw [List.any_cons,List.any_cons,ih,h.1]
theorem KV.repl {kvs:List (κ×V)} {vs:List (κ×Value)} (r:KV kvs vs) (k:κ) {y:V} {u:Value} (ry:RelV y u) :
  KV (kvs.map fun kv=>if kv.1=k then (kv.1,y) else kv) (vs.map fun kv=>if kv.1=k then (kv.1,u) else kv):=by
 unfold KV at r ⊢
 induction r with
 | nil=>exact .nil
 | @cons p q ps qs h t ih =>
  rw [List.map_cons,List.map_cons]
  refine .cons ?_ ih
  obtain ⟨h1,h2⟩:=h
  by_cases e:p.1=k
  ·rw [if_pos e,if_pos (h1.symm.trans e)]; exact ⟨h1,ry⟩
  ·rw [if_neg e,if_neg (fun z=>e (h1.trans z))]; exact ⟨h1,h2⟩
theorem KV.put {kvs:List (κ×V)} {vs:List (κ×Value)} (r:KV kvs vs) (k:κ) {y:V} {u:Value} (ry:RelV y u):KV (putK kvs k y) (stored vs k u):=by
 unfold putK stored
 rw [r.any k]
 by_cases e:(vs.any fun kv=>decide (kv.1=k))=true
 ·rw [if_pos e,if_pos e]; exact r.repl k ry
 ·rw [if_neg e,if_neg e]; exact Paired.snoc r ⟨rfl,ry⟩
theorem KV.length {kvs:List (κ×V)} {vs:List (κ×Value)} (r:KV kvs vs):kvs.length=vs.length:=Paired.length r
end
theorem kV_is {P:Program} {w:World} {k:Key} {u:Value} (r:RelV (kV k) u):(mixKind P w).is k u=true:=by
 cases k with
 | inl i=>obtain ⟨t,e⟩:=(show ∃ t,u=Value.int i t from r); subst e; exact mixKind_int P w i t
 | inr x=>obtain ⟨t,e⟩:=(show ∃ t,u=Value.str x t from r); subst e; exact mixKind_str P w x t
theorem items_are {P:Program} {w:World}:∀ {ks:List Key} {us:List Value},Vals (ks.map kV) us→ItemsAre (mixKind P w) ks us
 | [],_,r=>by rw [List.map_nil] at r; cases r; exact .nil
 | k :: ks,_,r=>by
  rw [List.map_cons] at r
  cases r with
  | cons h t=>exact .cons (kV_is h) (items_are t)
noncomputable abbrev KT (H:Hp):List (List Key×V)→List (List Key×Addr×Value)→Prop:=Paired fun p q=>p.1=q.1∧H q.2.1=some (.tup (p.1.map kV))∧RelV p.2 q.2.2
theorem KT.val {H:Hp} {kvs:List (List Key×V)} {xs:List (List Key×Addr×Value)} (r:KT H kvs xs) (k:List Key):RelO (valV kvs k) ((atKey xs k).map (·.2)):=by
 induction r with
 | nil=>exact True.intro
 | @cons p q ps qs h t ih =>
  obtain ⟨h1,_,h2⟩:=h
  by_cases e:p.1=k
  ·have e':q.1=k:=h1.symm.trans e
   have b:atKey (q :: qs) k=some q.2:=by simp [atKey,List.find?_cons,e']
   rw [valV_pos e,b]; exact h2
  ·have e':¬ q.1=k:=fun z=>e (h1.trans z)
   have b:atKey (q :: qs) k=atKey qs k:=by simp [atKey,List.find?_cons,e']
   rw [valV_neg e,b]; exact ih
theorem KT.repl {H:Hp} {kvs:List (List Key×V)} {xs:List (List Key×Addr×Value)} (r:KT H kvs xs) (k:List Key) {y:V} {u:Value} (ry:RelV y u) :
  KT H (kvs.map fun kv=>if kv.1=k then (kv.1,y) else kv) (xs.map (putAt k u)):=by
 induction r with
 | nil=>exact .nil
 | @cons p q ps qs h t ih =>
  rw [List.map_cons,List.map_cons]
  refine .cons ?_ ih
  obtain ⟨h1,h2,h3⟩:=h
  unfold putAt
  by_cases e:p.1=k
  ·rw [if_pos e,if_pos (h1.symm.trans e)]; exact ⟨h1,h2,ry⟩
  ·rw [if_neg e,if_neg (fun z=>e (h1.trans z))]; exact ⟨h1,h2,h3⟩
theorem KT.put {H:Hp} {kvs:List (List Key×V)} {xs:List (List Key×Addr×Value)} (r:KT H kvs xs) (k:List Key) {b:Addr} {y:V} {u:Value} (hb:H b=some (.tup (k.map kV))) (ry:RelV y u) :
  KT H (putK kvs k y) (storedH xs k b u):=by
 have e:(kvs.any fun kv=>decide (kv.1=k))=(atKey xs k).isSome:=by
  rw [valV_any,(r.val k).isSome_eq,Option.isSome_map]
 unfold putK storedH
 rw [e]
 by_cases q:(atKey xs k).isSome=true
 ·rw [if_pos q,if_pos q]; exact r.repl k ry
 ·rw [if_neg q,if_neg q]; exact Paired.snoc r ⟨rfl,hb,ry⟩
theorem KT.keeps {H H':Hp} {kvs:List (List Key×V)} {xs:List (List Key×Addr×Value)} (r:KT H kvs xs) (ht:∀ b ys,H b=some (.tup ys)→H' b=some (.tup ys)):KT H' kvs xs :=
 Paired.mapP r fun _ _ z=>⟨z.1,ht _ _ z.2.1,z.2.2⟩
section
variable {P:Program} {w:World} {H:Hp} {h:Heap} {a:Addr}
theorem rd_of {u:HO} (ok:HOk P w H h) (e:Rd H a u):ObjOk P w H h a u:=e.ok ok
theorem dk_rd {kvs:List (Key×V)} (ok:HOk P w H h) (e:Rd H a (.dK kvs)):kvs.length≤sizeLine∧(a == sysModules)=false∧∃ vs,KV kvs vs∧h.DictOf (mixKind P w) a vs :=
 show ObjOk P w H h a (.dK kvs) from rd_of ok e
theorem dk_of {kvs:List (Key×V)} (ok:HOk P w H h) (e:H a=some (.dK kvs)):kvs.length≤sizeLine∧(a == sysModules)=false∧∃ vs,KV kvs vs∧h.DictOf (mixKind P w) a vs:=dk_rd ok (.inl e)
theorem key_of {ks:List Key} (ok:HOk P w H h) (e:H a=some (.tup (ks.map kV))):(tupleKind (mixKind P w)).is h ks a:=by
 obtain ⟨_,its,r,o,h1,h2,n,h3⟩:=(show ObjOk P w H h a (.tup (ks.map kV)) from ok a _ e)
 exact ⟨o,its.toArray,n,h1,h2,h3,by simpa using items_are r⟩
theorem dt_rd {kvs:List (List Key×V)} (ok:HOk P w H h) (e:Rd H a (.dT kvs)):kvs.length≤sizeLine∧(a == sysModules)=false ∧
  ∃ xs,KT H kvs xs∧h.DictOfH (tupleKind (mixKind P w)) a xs:=by
 obtain ⟨z,y,xs,r,o,es,ep,h1,h2,h3,h4,h5⟩:=(show ObjOk P w H h a (.dT kvs) from rd_of ok e)
 refine ⟨z,y,xs,r,o,es,ep,h1,h2,h3,h4,fun x hx=>?_,h5⟩
 have all:∀ {l:List (List Key×V)} {m:List (List Key×Addr×Value)},KT H l m→∀ x∈m,(tupleKind (mixKind P w)).is h x.1 x.2.1:=by
  intro l m q
  induction q with
  | nil=>intro x hx; exact nomatch hx
  | @cons p q ps qs hq t ih =>
   intro x hx
   rcases List.mem_cons.mp hx with e | hx
   ·subst e
    exact key_of ok (by rw [← hq.1]; exact hq.2.1)
   ·exact ih x hx
 exact all r x hx
theorem dt_of {kvs:List (List Key×V)} (ok:HOk P w H h) (e:H a=some (.dT kvs)):kvs.length≤sizeLine∧(a == sysModules)=false ∧
  ∃ xs,KT H kvs xs∧h.DictOfH (tupleKind (mixKind P w)) a xs:=dt_rd ok (.inl e)
end
noncomputable def DGet (H:Hp) (a:Addr) (y:V) (r:Option V):Prop :=
 (∃ kvs k,Rd H a (.dK kvs)∧y=kV k∧r=valV kvs k)∨∃ kvs k b,Rd H a (.dT kvs)∧y=.ref b∧H b=some (.tup (k.map kV))∧r=valV kvs k
noncomputable def DPut (H:Hp) (a:Addr) (y v:V) (H':Hp):Prop :=
 (∃ kvs k,H a=some (.dK kvs)∧y=kV k∧kvs.length < sizeLine∧H'=upd H a (.dK (putK kvs k v))) ∨
 ∃ kvs k b,H a=some (.dT kvs)∧y=.ref b∧H b=some (.tup (k.map kV))∧kvs.length < sizeLine∧H'=upd H a (.dT (putK kvs k v))
theorem DGet.k {H:Hp} {a:Addr} {kvs:List (Key×V)} {k:Key} (e:H a=some (.dK kvs)):DGet H a (kV k) (valV kvs k):=.inl ⟨kvs,k,.inl e,rfl,rfl⟩
theorem DGet.t {H:Hp} {a b:Addr} {kvs:List (List Key×V)} {k:List Key} (e:H a=some (.dT kvs)) (eb:H b=some (.tup (k.map kV))):DGet H a (.ref b) (valV kvs k):=.inr ⟨kvs,k,b,.inl e,rfl,eb,rfl⟩
theorem DPut.k {H:Hp} {a:Addr} {kvs:List (Key×V)} {k:Key} {v:V} (e:H a=some (.dK kvs)) (hl:kvs.length < sizeLine):DPut H a (kV k) v (upd H a (.dK (putK kvs k v))):=.inl ⟨kvs,k,e,rfl,hl,rfl⟩
theorem DPut.t {H:Hp} {a b:Addr} {kvs:List (List Key×V)} {k:List Key} {v:V} (e:H a=some (.dT kvs)) (eb:H b=some (.tup (k.map kV))) (hl:kvs.length < sizeLine) :
  DPut H a (.ref b) v (upd H a (.dT (putK kvs k v))):=.inr ⟨kvs,k,b,e,rfl,eb,hl,rfl⟩
section
variable {X:Cx} {pins:List (Addr×Obj)} {σ:St} {H:Hp} {s:Shared} {a:Addr} {y v:V} {u r:Value} {o:Option V} {A:Around} {E:Value→Shared→Prop}
theorem Inv.big (I:Inv X pins σ H s):sysModules < s.heap.objs.size:=by
 have h:mainGlobals < s.heap.objs.size:=(I.mod.glob.keeps I.bk).lt
 exact Nat.lt_trans (by decide) h
theorem d_getItem {Q:Value→Shared→Prop} (hu:A.units + 1 < cLine) (I:Inv X pins σ H s) (g:DGet H a y (some v)) (ry:RelV y u) (h:∀ w' s',Inv X pins σ H s'→RelV v w'→Q w' s') :
  wpAny (model X.prog X.w) A (getItem (.ref a) u) Q E s:=by
 rcases g with ⟨kvs,k,e,ey,l⟩ | ⟨kvs,k,b,e,ey,eb,l⟩
 ·subst ey
  obtain ⟨z,hd,vs,rel,dd⟩:=dk_rd I.hok e
  obtain ⟨w',hw,rw'⟩:=RelO.some_of (v:=v) (o:=valueAt vs k) (by rw [l]; exact rel.val k)
  exact wpAny_getItem_of (kV_is ry) dd.mapOf hw (h w' _ (I.tok _) rw')
 ·subst ey
  cases (show u=Value.ref b from ry)
  obtain ⟨z,hd,xs,rel,dd⟩:=dt_rd I.hok e
  obtain ⟨w',hw,rw'⟩:=RelO.some_of (v:=v) (o:=(atKey xs k).map (·.2)) (by rw [l]; exact rel.val k)
  obtain ⟨p,hp,hp2⟩:=Option.map_eq_some_iff.mp hw
  refine wpAny_getItem_heap (tupleKind_room_in1 hu) (key_of I.hok eb) dd hp ?_
  rw [hp2]
  exact h w' _ (I.tok _) rw'
theorem d_in {Q:Value→Shared→Prop} (hu:A.units + 1 < cLine) (I:Inv X pins σ H s) (g:DGet H a y o) (ry:RelV y u) (h:∀ s',Inv X pins σ H s'→Q (.bool o.isSome) s') :
  wpAny (model X.prog X.w) A (compareOp .In u (.ref a)) Q E s:=by
 rcases g with ⟨kvs,k,e,ey,l⟩ | ⟨kvs,k,b,e,ey,eb,l⟩
 ·subst ey
  obtain ⟨z,hd,vs,rel,dd⟩:=dk_rd I.hok e
  refine wpAny_in_of (kV_is ry) hd dd.mapOf ?_
  rw [← (rel.val k).isSome_eq,← l]
  exact h _ (I.tok _)
 ·subst ey
  cases (show u=Value.ref b from ry)
  obtain ⟨z,hd,xs,rel,dd⟩:=dt_rd I.hok e
  refine wpAny_in_heap (tupleKind_room_in1 hu) (key_of I.hok eb) hd dd ?_
  have q:=(rel.val k).isSome_eq
  rw [Option.isSome_map] at q
  rw [← q,← l]
  exact h _ (I.tok _)
theorem d_write {h':Heap} {t':Nat} {ob:HO} (I:Inv X pins σ H s) (mu:Mut (H a)) (hs:Heap.SameBut a s.heap h') (he:∃ q,h'.get? a=some q) (new:ObjOk X.prog X.w (upd H a ob) h' a ob) :
  Inv X pins σ (upd H a ob) { s with heap:=h',toks:=t' } :=
 I.write (x:=a) (e:=a) mu (.inl rfl) (fun b q hb z=>(hs.2 b hb).trans z) he new
theorem dk_new {P:Program} {w:World} {H':Hp} {h':Heap} {kvs:List (Key×V)} {vs:List (Key×Value)} (z:kvs.length≤sizeLine) (hd:(a == sysModules)=false) (rel:KV kvs vs) (dd:h'.DictOf (mixKind P w) a vs) :
  ObjOk P w H' h' a (.dK kvs):=⟨z,hd,vs,rel,dd⟩
end
section
variable {X:Cx} {pins:List (Addr×Obj)} {σ:St} {H:Hp} {s:Shared} {a:Addr} {kvs:List (Key×V)} {k:Key} {u:Value} {A:Around} {E:Value→Shared→Prop}
end
noncomputable def NoSl (i:Expr):Prop:=∀ ov iv,subscripted i false ov iv=operate [ov,iv] (getItem ov iv)
theorem subD_of {prog:Program} {w:World} {A:Around} {E:Value→Shared→Prop} {s:Shared} {env:Env} {value slice:Expr} {pos:Pos} {T id:String} {Q:Value→Shared→Prop}
  (hl:typeLookup (.type T) "__getitem__" = pure (some (.builtin id))) (hs:NoSl slice)
  (h:wpAny (model prog w) A (eval value env) (fun o s₁=>wpAny (model prog w) A (eval slice env) (fun i s₂=>s₂.TypeIs o T∧wpAny (model prog w) A (getItem o i) Q E s₂) E s₁) E s) :
  wpAny (model prog w) A (eval (.Subscript value slice pos) env) Q E s:=by
 refine Subscript_ (wpAny_mono h (fun o s₁ h₁=>wpAny_mono h₁ (fun i s₂ h₂=>?_) fun _ _ x=>x) fun _ _ x=>x)
 obtain ⟨hT,h₂⟩:=h₂
 unfold subscriptTail
 refine wpAny_bind ?_
 rw [getitemInPython_of_ne hT.not_modules]
 refine wpAny_bind (wpAny_specialOf hT hl ?_)
 have fin:wpAny (model prog w) A (subscripted slice false o i) (fun r s₃=>wpAny (model prog w) A (letTemporaryGo value o r >>= fun _=>pure r) Q E s₃) E s₂:=by
  rw [hs o i]
  exact wpAny_operating (wpAny_mono h₂ (fun r s₃ h₃=>wpAny_bind (wpAny_letTemporaryGo (wpAny_pure h₃))) fun _ _ x=>x)
 first
  | exact wpAny_pure (wpAny_bind fin)
  | exact wpAny_bind (wpAny_pure (wpAny_bind fin))
  | exact wpAny_bind fin
theorem dict_typeIs {X:Cx} {pins:List (Addr×Obj)} {σ:St} {H:Hp} {s:Shared} {a:Addr} {y:V} {o:Option V} (I:Inv X pins σ H s) (g:DGet H a y o):s.TypeIs (.ref a) "dict" := by
 rcases g with ⟨kvs,k,e,_,_⟩ | ⟨kvs,k,b,e,_,_,_⟩
 ·obtain ⟨_,_,vs,_,dd⟩:=dk_rd I.hok e
  exact dd.typeIs
 ·obtain ⟨_,_,xs,_,dd⟩:=dt_rd I.hok e
  exact dd.typeIs
noncomputable def tDGet (td ty:TE):TE:=fun σ H Q=>td σ H fun x H1=>ty σ H1 fun y H2=>∃ a v,x=.ref a∧DGet H2 a y (some v)∧Q v H2
noncomputable def tDIn (ty td:TE):TE:=fun σ H Q=>ty σ H fun y H1=>td σ H1 fun x H2=>∃ a o,x=.ref a∧DGet H2 a y o∧Q (.bl o.isSome) H2
section
variable {X:Cx} {o i e value:Expr} {pos pos' tpos:Pos} {td ty tv:TE}
theorem pe_dget (hu:X.A.units + 1 < cLine) (ho:PE X o td) (hi:PE X i ty) (hs:NoSl i):PE X (.Subscript o i pos) (tDGet td ty):=by
 intro pins s σ H Q I h
 refine subD_of PySem.F.slot_dict_getitem.lookup hs (thn (ho pins s σ H _ I h) fun u s1 ⟨x,H1,I1,rx,q1⟩=>thn (hi pins s1 σ H1 _ I1 q1) fun iv s2 ⟨y,H2,I2,ry,a,v,ex,g,q2⟩=>?_)
 subst ex
 obtain rfl:u=Value.ref a:=rx
 exact ⟨dict_typeIs I2 g,d_getItem hu I2 g ry fun w' s3 I3 rw'=>⟨v,H2,I3,rw',q2⟩⟩
theorem pc_din (hu:X.A.units + 1 < cLine) (hi:PE X i ty) (ho:PE X o td):PC X .In i o (tDIn ty td):=by
 intro pins s σ H Q I h
 refine thn (hi pins s σ H _ I h) fun iv s1 ⟨y,H1,I1,ry,q1⟩=>thn (ho pins s1 σ H1 _ I1 q1) fun u s2 ⟨x,H2,I2,rx,a,ov,ex,g,q2⟩=>?_
 subst ex
 obtain rfl:u=Value.ref a:=rx
 exact d_in hu I2 g ry fun s3 I3=>⟨.bl ov.isSome,H2,I3,rfl,q2⟩
end
theorem dk_empty {P:Program} {w:World} {H:Hp} (h:Heap) (hb:sysModules < h.objs.size):ObjOk P w H (h.push { cls:=.type "dict",data:=.dict #[] }) h.objs.size (.dK []) :=
 ⟨Nat.zero_le _,beq_eq_false_iff_ne.mpr (Ne.symm (Nat.ne_of_lt hb)),[],.nil,Heap.DictOf.new h⟩
theorem dt_empty {P:Program} {w:World} {H:Hp} (h:Heap) (hb:sysModules < h.objs.size):ObjOk P w H (h.push { cls:=.type "dict",data:=.dict #[] }) h.objs.size (.dT []) :=
 ⟨Nat.zero_le _,beq_eq_false_iff_ne.mpr (Ne.symm (Nat.ne_of_lt hb)),[],.nil,_,#[],0,Heap.get?_push_size _ rfl,⟨rfl,rfl,rfl⟩,rfl,rfl,List.nodup_nil⟩
section
variable {X:Cx} {pos:Pos}
end
section
variable {X:Cx} {pins:List (Addr×Obj)} {σ:St} {H:Hp} {s:Shared} {a:Addr} {y d:V} {u r:Value} {o:Option V} {A:Around} {E:Value→Shared→Prop}
end
section
variable {X:Cx} {o e f:Expr} {apos cpos:Pos} {td ty tx:TE}
end
section
variable {X:Cx} {pins:List (Addr×Obj)} {σ:St} {H:Hp} {s:Shared} {a:Addr} {kvs:List (Key×V)} {A:Around} {E:Value→Shared→Prop}
end
section
variable {X:Cx} {pins:List (Addr×Obj)} {σ:St} {H:Hp} {s:Shared} {a:Addr} {y:V} {u:Value} {A:Around} {E:Value→Shared→Prop}
end
end L2
namespace PySem
theorem lk_list_keys:typeLookup (.type "list") "keys" = pure none:=by rw [typeLookup_type,builtinLookup_eq_fast]; kernel_rfl
theorem getAttrQ_miss_list {prog:Program} {w:World} {A:Around} {E:Value→Shared→Prop} {s:Shared} {a:Addr} {o:Obj} {xs:Array Value} {k:Nat} {name:Str} {Q:Option Value→Shared→Prop}
  (hx:s.heap.get? a=some o) (hc:o.cls=.type "list") (hdat:o.data=.seq xs k) (hd:o.dict=none) (hmiss:typeLookup (.type "list") name=pure none) (hname:(["__module__", "__name__", "__qualname__", "__doc__", "__annotations__"]:List Str).contains name=false) (hA:A.handled=none)
  (h:∀ h' tk,(∀ b ob,s.heap.get? b=some ob→h'.get? b=some ob)→Q none { s with heap:=h',toks:=tk }) (hsz:name.length + 100≤sizeLine:=by size_fits) :
  wpAny (model prog w) A (getAttr? (.ref a) name) Q E s:=by
 obtain ⟨c,dct,dat,sl⟩:=o
 simp only at hc hdat hd
 subst hc hdat hd
 obtain ⟨hp,g,d,tk,os⟩:=s
 have hT:∀ tk',(⟨hp,g,d,tk',os⟩:Shared).TypeIs (.ref a) "list" := fun _=>⟨_,hx,rfl⟩
 have f1:=sub_AttributeError
 have f3:=F.slot_list_getattribute.lookup
 have f4:=F.slot_list_getattribute.bind (.ref a)
 have f5:=am_list_getattr_none
 unfold getAttr? getAttrBy? getAttrBy
 repeat (any_goals (first | assumption | exact hT _ | ((with_reducible show wpAny _ _ (call (Value.builtin "list.__getattribute__") _ _) _ _ _); refine call_meets F.slot_list_getattribute (hT _) am_entry_list_getattribute (F.args_list_getattribute_2 _ _) (meets_getattribute_miss_list a xs k sl name _ hmiss hname hsz) ⟨hx,hA,fun h' tk' e hx'=>?_⟩) | wp_step))
 obtain ⟨t',u',he⟩:=hx'.there
 unfold getattributeRaised
 repeat (any_goals (first | assumption | wp_step))
 exact h _ _ hx'.keeps
namespace F
theorem entry_dict_update_loop:entryFor table "dict.update.loop" = some Builtin.«dict.update.loop»:=entryFor_of_tree (by kernel_rfl)
theorem plain_dict_update_loop:plainId "dict.update.loop" = true:=by decide +kernel
end F
end PySem
namespace L2
open PySem PySem.Spec PyProof.Rows
section
variable {X:Cx} {pins:List (Addr×Obj)} {σ:St} {H:Hp} {s:Shared} {a:Addr} {y v:V} {u r:Value} {A:Around} {E:Value→Shared→Prop}
theorem d_dictSet {H':Hp} {Q:Unit→Shared→Prop} (hu:A.units < cLine) (I:Inv X pins σ H s) (g:DPut H a y v H') (ry:RelV y u) (rv:RelV v r) (h:∀ s',Inv X pins σ H' s'→Heap.SameBut a s.heap s'.heap→Q () s') :
  wpAny (model X.prog X.w) A (dictSet a u r) Q E s:=by
 rcases g with ⟨kvs,k,e,ey,l,eH⟩ | ⟨kvs,k,b,e,ey,eb,l,eH⟩
 ·subst ey eH
  obtain ⟨z,hd,vs,rel,dd⟩:=dk_of I.hok e
  have hz:vs.length≤sizeLine:=by rw [← rel.length]; exact z
  have hl:(putK kvs k v).length≤sizeLine:=by have:=length_putK kvs k v; omega
  refine wpAny_dictSet_pairs (hsz:=hz) (kV_is ry) dd fun h' dd' hs=>h _ ?_ hs
  have he:∃ q,h'.get? a=some q:=let ⟨q,_,_,hq,_⟩:=dd'; ⟨q,hq⟩
  exact d_write I (by rw [e]; exact True.intro) hs he (dk_new hl hd (rel.put k rv) dd')
 ·subst ey eH
  cases (show u=Value.ref b from ry)
  obtain ⟨z,hd,xs,rel,dd⟩:=dt_of I.hok e
  have hz:xs.length≤sizeLine:=by rw [← Paired.length rel]; exact z
  have hl:(putK kvs k v).length≤sizeLine:=by have:=length_putK kvs k v; omega
  refine wpAny_dictSet_heap (hsz:=hz) hu (key_of I.hok eb) dd fun h' dd' hs=>h _ ?_ hs
  obtain ⟨q,es,ep,hq,h2,h3,h4,_,h5⟩:=dd'
  refine d_write I (by rw [e]; exact True.intro) hs ⟨q,hq⟩ ⟨hl,hd,_,(rel.put k eb rv).keeps fun c ys ec=>?_,q,es,ep,hq,h2,h3,h4,h5⟩
  rw [upd_ne (ne_of ec e (fun z=>nomatch z))]
  exact ec
theorem dict_loop {R:Result→Shared→Prop} {p it d:Addr} {xs:List V} {Hs:Nat→Hp} {res:Value} (hh:A.handled=none) (hu:A.units + 1 < cLine) (hdi:d≠it) (hd:∀ i,i≤xs.length→SqL X.K (Hs i) p xs) (hf:∀ i,FpOk X pins (Hs i) it)
  (hs:∀ i x,xs[i]?=some x→∃ (c:Addr) (y v:V),x=.ref c∧SqT X.K (Hs i) c [y,v]∧DPut (Hs i) d y v (Hs (i + 1)))
  (fin:∀ s',Inv X pins σ (Hs xs.length) s'→R (.ok (.ret res)) s') :
  ∀ (k i:Nat) (s:Shared),xs.length - i=k→i≤xs.length→Inv X pins σ (Hs i) s→s.heap.IsListIter it p i →
  codeAny (model X.prog X.w) A (.builtin "dict.update.loop" ⟨[.ref d,.ref it,rawInt i,res],[]⟩) R s:=by
 intro k
 induction k with
 | zero =>
  intro i s hk hi I st
  have hin:i=xs.length:=by omega
  subst hin
  obtain ⟨its,rv,pl,hz⟩:=I.list (hd _ hi)
  obtain ⟨f0,f1,f2,f3,f4,f5⟩:=hf xs.length
  have hl:=rv.length
  refine codeAny_builtin PySem.F.entry_dict_update_loop ?_
  rw [Around.under_plainId PySem.F.plain_dict_update_loop _]
  show wpAny _ A.in1 (pyNext (.ref it) >>= _) _ _ s
  refine wpAny_bind (wpAny_pyNext_list_end hh st pl.isList (by simp; omega) fun h' eb=>?_)
  have I':=I.turned (t':=s.toks) (fun b o hb e=>eb b o hb e) f0 f1 f3 f4 f5
  exact wpAny_bind (wpAny_pure (wpAny_pure (fin _ I')))
 | succ k ih =>
  intro i s hk hi I st
  have hlt:i < xs.length:=by omega
  obtain ⟨its,rv,pl,hz⟩:=I.list (hd _ hi)
  obtain ⟨c,y,v,ex,hc,hput⟩:=hs i _ (List.getElem?_eq_getElem hlt)
  obtain ⟨u,hu',ru⟩:=rv.get (List.getElem?_eq_getElem hlt)
  rw [ex] at ru
  cases ru
  obtain ⟨f0,f1,f2,f3,f4,f5⟩:=hf i
  refine codeAny_builtin PySem.F.entry_dict_update_loop ?_
  rw [Around.under_plainId PySem.F.plain_dict_update_loop _]
  show wpAny _ A.in1 (pyNext (.ref it) >>= _) _ _ s
  refine wpAny_bind (wpAny_pyNext_list_item st pl.isList (x:=.ref c) (by simpa using hu') fun h' st' sb=>?_)
  have I1:Inv X pins σ (Hs i) { s with heap:=h' }:=I.turned (t':=s.toks) (fun b o hb e=>(sb.2 b hb).trans e) f0 f1 f3 f4 f5
  obtain ⟨its2,rv2,pt,hz2⟩:=I1.tuple hc
  obtain ⟨u1,u2,rfl,r1,r2⟩:∃ u1 u2,its2=[u1,u2]∧RelV y u1∧RelV v u2:=by
   cases rv2 with
   | cons r1 t=>cases t with
    | cons r2 t=>cases t; exact ⟨_,_,rfl,r1,r2⟩
  obtain ⟨ot,et,ct,nt,dt⟩:=pt
  obtain ⟨oc,od,oda,osl⟩:=ot
  cases ct
  cases dt
  refine wpAny_bind (wpAny_holding ?_)
  refine wpAny_bind (wpAny_tryCatch ?_)
  have hT:(⟨h',s.gens,s.drawn,s.toks,s.os⟩:Shared).TypeIs (.ref c) "tuple" := ⟨_,et,rfl⟩
  unfold Builtin.Dict.pairItems
  refine wpAny_bind (wpAny_typeOf hT ?_)
  rw [if_pos (by decide)]
  refine wpAny_bind ?_
  unfold seqItems?
  refine wpAny_bind (wpAny_load et (wpAny_pure (wpAny_pure ?_)))
  show wpAny _ A.in1 (holding [u1,u2] (dictSet d u1 u2)) _ _ _
  refine wpAny_holding (d_dictSet (by exact hu) I1 hput r1 r2 fun s2 I2 sb2=>?_)
  refine wpAny_pure ⟨plainId_quiet PySem.F.plain_dict_update_loop _,?_⟩
  have e1:rawInt ((i:Int) + 1)=rawInt (((i + 1:Nat)):Int):=rfl
  rw [e1]
  exact ih (i + 1) s2 (by omega) hlt I2 (st'.at fun o e=>(sb2.2 it (Ne.symm hdi)).trans e)
noncomputable def putAll {κ:Type} [DecidableEq κ] (kvs:List (κ×V)) (l:List (κ×V)):List (κ×V):=l.foldl (fun a kv=>putK a kv.1 kv.2) kvs
theorem putAll_len {κ:Type} [DecidableEq κ] (l:List (κ×V)):∀ kvs:List (κ×V),(putAll kvs l).length≤kvs.length + l.length:=by
 induction l with
 | nil=>intro kvs; exact Nat.le_refl _
 | cons kv r ih =>
  intro kvs
  have h1:=ih (putK kvs kv.1 kv.2)
  have h2:=length_putK kvs kv.1 kv.2
  rw [List.length_cons]
  show (putAll (putK kvs kv.1 kv.2) r).length≤_
  omega
theorem putAll_take {κ:Type} [DecidableEq κ] {l:List (κ×V)} {i:Nat} {kv:κ×V} (h:l[i]?=some kv) (kvs:List (κ×V)):putAll kvs (l.take (i + 1))=putK (putAll kvs (l.take i)) kv.1 kv.2:=by
 unfold putAll
 rw [List.take_add_one,h,List.foldl_append]
 rfl
noncomputable def rDictL (K:PySem.W.Frag):List V→Hp→VK→Prop:=fun xs H Q=>∃ (p:Addr) (vs:List V),xs=[.ref p]∧SqL K H p vs ∧
 ((∃ kvs:List (Key×V),Al (fun x (kv:Key×V)=>∃ a,x=.ref a∧SqT K H a [kV kv.1,kv.2]) vs kvs∧∀ d,H d=none→Q (.ref d) (upd H d (.dK (putAll [] kvs)))) ∨
   (∃ kvs:List (List Key×V),Al (fun x (kv:List Key×V)=>∃ a b,x=.ref a∧SqT K H a [.ref b,kv.2]∧H b=some (.tup (kv.1.map kV))) vs kvs∧∀ d,H d=none→Q (.ref d) (upd H d (.dT (putAll [] kvs)))))
theorem run_dictL {p:Addr} {vs:List V} {Q:VK} {Hs:Nat→Hp} (hu:A.units + 3 < cLine) (hh:A.handled=none) (I:Inv X pins σ H s) (hq:SqL X.K H p vs) (d:Addr) (hdd:d=s.heap.objs.size)
  (h0:Inv X pins σ (Hs 0) { s with heap:=s.heap.push { cls:=.type "dict",data:=.dict #[] } }) (hs0:∀ i b,H b=none→b≠d→Hs i b=none) (hsd:∀ i,i≤vs.length→SqL X.K (Hs i) p vs)
  (hs:∀ i x,vs[i]?=some x→∃ (c:Addr) (y v:V),x=.ref c∧SqT X.K (Hs i) c [y,v]∧DPut (Hs i) d y v (Hs (i + 1))) (q:Q (.ref d) (Hs vs.length)) :
  wpAny (model X.prog X.w) A (call (.type "dict") [.ref p]) (EP X pins σ Q) E s:=by
 refine callType_codes (Q₁:=fun obj s₁=>obj=.ref s.heap.objs.size∧s₁={ s with heap:=s.heap.push { cls:=.type "dict",data:=.dict #[] } }) F.kt_called_dict (F.kt_typeCall_dict_1 _) F.entry_dict_init (kt_code_dict_new _ ⟨rfl,rfl⟩) ?_
 rintro obj s₁ ⟨rfl,rfl⟩
 have hnT:({ s with heap:=s.heap.push { cls:=.type "dict",data:=.dict #[] } }:Shared).TypeIs (.ref s.heap.objs.size) "dict" := ⟨_,Heap.get?_push_size _ rfl,rfl⟩
 refine ⟨hnT,F.args_dict_init_2 _ _,?_⟩
 unfold Builtin.«dict.__init__»
 refine wpAny_bind ?_
 unfold Builtin.Dict.selfAndRest
 refine wpAny_bind (wpAny_notOrdered_dict hnT ?_)
 show wpAny _ _ (pure (s.heap.objs.size,[Value.ref p])) _ _ _
 refine wpAny_pure ?_
 show wpAny _ _ (Builtin.Dict.updateFrom "dict.__init__" s.heap.objs.size (.ref p) [] .none) _ _ _
 subst hdd
 obtain ⟨its,rv,pl,hz⟩:=h0.list (hsd 0 (Nat.zero_le _))
 have hsz:s.heap.objs.size < (s.heap.push { cls:=Value.type "dict",data:=Data.dict #[] }).objs.size:=by rw [Heap.size_push]; exact Nat.lt_succ_self _
 generalize hs1:({ s with heap:=s.heap.push { cls:=.type "dict",data:=.dict #[] } }:Shared)=s1 at *
 have hsz1:s.heap.objs.size < s1.heap.objs.size:=by rw [← hs1]; exact hsz
 obtain ⟨ol,nl,el,cl,dn,dl⟩:=pl
 unfold Builtin.Dict.updateFrom
 refine wpAny_bind (wpAny_typeOf ⟨_,el,cl⟩ ?_)
 rw [if_pos (by decide)]
 refine wpAny_bind (getAttrQ_miss_list el cl dl dn lk_list_keys (by decide +kernel) hh (fun h2 tk2 kp=>?_) (by decide +kernel))
 rw [if_pos (by decide)]
 refine wpAny_bind (wpAny_rule ?_)
 have I2:Inv X pins σ (Hs 0) { s1 with heap:=h2,toks:=tk2 }:=h0.kept kp
 have pl2:h2.IsList p its.toArray:=⟨ol,kp _ _ el,cl,nl,dl⟩
 refine wpAny_bind (wpAny_pyIter_list pl2 ?_)
 have hsz2:s.heap.objs.size < h2.objs.size:=by
  obtain ⟨on,en,_⟩:=hnT
  exact Heap.lt_size (kp _ _ en)
 have hHn:∀ i,Hs i h2.objs.size=none:=fun i=>hs0 i _ (I.hok.fresh (Nat.le_of_lt hsz2)) (Nat.ne_of_gt hsz2)
 refine wpAny_pure ⟨plainId_quiet PySem.F.plain_dict_update_loop _,dict_loop (A:=A.in1) (Hs:=Hs) (xs:=vs) (p:=p) hh (by show A.units + 1 + 1 < cLine; omega) (Nat.ne_of_lt hsz2) hsd (fun i=>I2.fpOk (Nat.le_refl _) (hHn i)) hs (fun s' I'=>?_) vs.length 0 _ rfl (Nat.zero_le _) (I2.kept (t':=tk2) fun b o e=>Heap.get?_push_of_some _ e) ⟨_,Heap.get?_push_size _ rfl,rfl,rfl⟩⟩
 exact ⟨rfl,.ref s.heap.objs.size,_,I',rfl,q⟩
theorem call_dictL (hu:X.A.units + 3 < cLine) (hh:X.calm=true):CallR X (.type "dict") (rDictL X.K):=by
 intro pins s σ H xs us Q I r h
 obtain ⟨p,vs,rfl,hq,h⟩:=h
 obtain ⟨u,rfl,rx⟩:=vals1 r
 cases rx
 have hf:H s.heap.objs.size=none:=I.hok.fresh (Nat.le_refl _)
 have hpd:p≠s.heap.objs.size:=by
  obtain ⟨its,rv,⟨o,n,e,_⟩,hz⟩:=I.list hq
  exact Nat.ne_of_lt (Heap.lt_size e)
 have hn:vs.length≤sizeLine:=by
  obtain ⟨its,rv,_,hz⟩:=I.list hq
  exact hz
 rcases h with ⟨kvs,al,q⟩ | ⟨kvs,al,q⟩
 ·refine run_dictL (Hs:=fun i=>upd H s.heap.objs.size (.dK (putAll [] (kvs.take i)))) hu (I.ok.hd hh) I hq s.heap.objs.size rfl (I.laid (a:=s.heap.objs.size) (o:=.dK []) (t':=s.toks) (fun _ _ q=>Heap.get?_push_of_some _ q) (Nat.le_refl _) (dk_empty s.heap I.big)) (fun i b hb hd=>by show upd H _ _ b=none; rw [upd_ne hd]; exact hb) (fun i _=>(Same.upd hf).seq hq) (fun i x hx=>?_) ?_
  ·obtain ⟨kv,hkv,c,rfl,hc⟩:=al.get hx
   have hi:i < vs.length:=(List.getElem?_eq_some_iff.mp hx).1
   refine ⟨c,_,_,rfl,(Same.upd hf).tup hc,?_⟩
   show DPut _ _ _ _ (upd H s.heap.objs.size (.dK (putAll [] (kvs.take (i + 1)))))
   rw [putAll_take hkv]
   have hl:(putAll [] (kvs.take i)).length < sizeLine:=by have:=putAll_len (kvs.take i) ([]:List (Key×V)); rw [List.length_take] at this; simp only [List.length_nil] at this; omega
   have r:=DPut.k (H:=upd H s.heap.objs.size (.dK (putAll [] (kvs.take i)))) (k:=kv.1) (v:=kv.2) upd_same hl
   rw [upd_upd] at r
   exact r
  ·show Q _ (upd H s.heap.objs.size (.dK (putAll [] (kvs.take vs.length))))
   rw [al.1,List.take_length]
   exact q _ hf
 ·refine run_dictL (Hs:=fun i=>upd H s.heap.objs.size (.dT (putAll [] (kvs.take i)))) hu (I.ok.hd hh) I hq s.heap.objs.size rfl (I.laid (a:=s.heap.objs.size) (o:=.dT []) (t':=s.toks) (fun _ _ q=>Heap.get?_push_of_some _ q) (Nat.le_refl _) (dt_empty s.heap I.big)) (fun i b hb hd=>by show upd H _ _ b=none; rw [upd_ne hd]; exact hb) (fun i _=>(Same.upd hf).seq hq) (fun i x hx=>?_) ?_
  ·obtain ⟨kv,hkv,c,b,rfl,hc,hb⟩:=al.get hx
   have hi:i < vs.length:=(List.getElem?_eq_some_iff.mp hx).1
   refine ⟨c,_,_,rfl,(Same.upd hf).tup hc,?_⟩
   show DPut _ _ _ _ (upd H s.heap.objs.size (.dT (putAll [] (kvs.take (i + 1)))))
   rw [putAll_take hkv]
   have hl:(putAll [] (kvs.take i)).length < sizeLine:=by have:=putAll_len (kvs.take i) ([]:List (List Key×V)); rw [List.length_take] at this; simp only [List.length_nil] at this; omega
   have r:=DPut.t (H:=upd H s.heap.objs.size (.dT (putAll [] (kvs.take i)))) (v:=kv.2) upd_same ((Same.upd hf) _ _ hb) hl
   rw [upd_upd] at r
   exact r
  ·show Q _ (upd H s.heap.objs.size (.dT (putAll [] (kvs.take vs.length))))
   rw [al.1,List.take_length]
   exact q _ hf
end
end L2
namespace L2
open PySem PySem.Spec PyProof.Rows
theorem Room.u1 {k:Nat} {A:Around} (r:Room k A):A.units + 1 < cLine:=by have:=r.u200; omega
section
variable {X:Cx} {k:Nat} {x m f:Str} {ps:List Str} {sp:Sp} {E:XK} {C:Addr} {p pos pos' tpos apos:Pos} {e o i value:Expr} {es:List Expr} {ta tv td ty:TE} {t:TA} {CX:CXT} {P:Program} {w:World} {mg:Str→Option Value} {base:Heap} {K:PySem.W.Frag}
theorem qe_methD0 (K:PySem.W.Frag) (CX:CXT) (ps:List Str) {pl:Sem Bool} (he:QE X o ta) (hr:Room k X.A) (hx:Passes CX X E) (hP:X.prog=P:=by rfl) (hw:X.w=w:=by rfl) (hK:X.K=K:=by rfl) (hmg:X.mg=mg:=by rfl) (hbs:X.base=base:=by rfl)
  (ht:eval (.Call (.Attribute o m apos) [] [] pos) X.env=(do
   let ov ← eval o X.env
   standAt apos.atName
   let (f,first) ← holding [ov] (getMethod ov m pl)
   callWith pos f first (backTo pos (starEach [] X.env)) (backToKw pos (keywordEach [] X.env))):=by rfl) :
  QE X (.Call (.Attribute o m apos) [] [] pos) (tMethD CX P w K mg base k m ps E ta tNil):=by
 subst hP hw hK hmg hbs
 refine ⟨fun pins s σ H Q I h=>?_⟩
 refine PySem.W.methodCall_KW (pl:=pl) (thn (he.run pins s σ H _ I h) fun u s1 ⟨x,H1,I1,rx,a,C,dx,fs,sp,ex,ea,l,M,q⟩=>?_) ht
 obtain ⟨g,fd,F,c,hm,hb⟩:=M.ex
 subst ex
 obtain rfl:u=Value.ref a:=rx
 refine getmeth_ok I1 ea c hm l ?_
 exact PySem.W.callWith_K0 (first:=[.ref a]) I1.kIn hm.kp (run_fn (us:=[.ref a]) (vs:=[.ref a]) (dvs:=[]) F hr hb .nil hx I1 (.cons rfl .nil) q)
theorem qs_fldaugK (K:PySem.W.Frag) {op:Operator} {rd:V→V→Hp→VK→Prop} (ha:QE X o ta) (hv:QE X value tv) (hop:InOp X op rd) (hK:X.K=K:=by rfl):QS X (.AugAssign (.Attribute o f tpos) op value pos) (sFldAug K ta tv rd f):=by subst hK; exact ⟨ps_fldaug ha.run hv.run hop⟩
theorem k_dict (K:PySem.W.Frag) (hu:X.A.units + 200 < cLine) (hh:X.calm=true) (hK:X.K=K:=by rfl):CallR X (.type "dict") (rDictL K):=by subst hK; exact call_dictL (by omega) hh
theorem qe_dget (hu:X.A.units + 1 < cLine) (ho:QE X o td) (hi:QE X i ty) (hs:NoSl i):QE X (.Subscript o i pos) (tDGet td ty):=⟨pe_dget hu ho.run hi.run hs⟩
theorem qc_din (hu:X.A.units + 1 < cLine) (hi:QE X i ty) (ho:QE X o td):QC X .In i o (tDIn ty td):=⟨pc_din hu hi.run ho.run⟩
noncomputable def rAddP (K:PySem.W.Frag):R2:=fun x y H Q=>rAddA K x y H Q∨∃ (a b:Addr) (xs ys:List V),x=.ref a∧y=.ref b∧H a=some (.tup xs)∧H b=some (.tup ys)∧xs.length + ys.length≤sizeLine∧∀ p H',Same H H'→H' p=some (.tup (xs++ys))→Q (.ref p) H'
theorem op_addP:OpR X (binaryOp .Add) (rAddP X.K):=by
 refine op_addA.or ?_
 intro pins s σ H x y v u Q I rx ry h
 obtain ⟨a,b,xs,ys,rfl,rfl,ha,hb,hz,q⟩:=h
 have ha':SqT X.K H a xs:=SqT.of ha
 have hb':SqT X.K H b ys:=SqT.of hb
 by_cases hx:xs=[]
 ·subst hx
  cases rx
  cases ry
  obtain ⟨its,r1,p1,_⟩:=I.tuple ha'
  obtain ⟨its2,r2,p2,_⟩:=I.tuple hb'
  cases r1
  obtain ⟨⟨cls,dd,data,sl⟩,ho,hc,n,hd⟩:=id p1
  obtain ⟨⟨cls2,dd2,data2,sl2⟩,ho2,hc2,n2,hd2⟩:=id p2
  simp only at hc hd hc2 hd2
  subst hc hd hc2 hd2
  exact concat_meets ⟨_,ho,rfl⟩ ⟨_,ho2,rfl⟩ noFill_tuple_add seq_tuple_add PySem.F.slot_tuple_add PySem.F.entry_tuple_add (PySem.F.args_tuple_add_2 _ _)
   (tuple_addW0 a b _ _ n n2 dd dd2 sl sl2 (by simp)) ⟨ho,ho2,⟨.ref b,H,I,rfl,q b H (Same.refl H) hb⟩⟩
 ·refine op_catT pins s σ H _ _ v u Q I rx ry ⟨a,b,xs,ys,rfl,rfl,ha',hb',hx,hz,fun e=>?_,fun _ p hp=>q p _ (fun c o e=>by rw [upd_ne (ne_of_none e hp)]; exact e) upd_same⟩
  subst e
  exact q a H (Same.refl H) (by rw [List.append_nil]; exact ha)
theorem k_addP (K:PySem.W.Frag) (hK:X.K=K:=by rfl):OpR X (binaryOp .Add) (rAddP K):=by subst hK; exact op_addP
theorem s_addp {a b:Addr} {xs ys:List V} {H:Hp} {Q:VK} (ha:H a=some (.tup xs)) (hb:H b=some (.tup ys)) (hz:xs.length + ys.length≤sizeLine) (h:∀ p H',Same H H'→H' p=some (.tup (xs++ys))→Q (.ref p) H'):rAddP K (.ref a) (.ref b) H Q:=.inr ⟨a,b,xs,ys,rfl,rfl,ha,hb,hz,h⟩
end
end L2
namespace L2
open PySem
noncomputable def RowT (K:PySem.W.Frag) (H:Hp) (v:V) (x:List Nat×Tr):Prop:=∃ (a p:Addr) (u:V),v=.ref a∧SqT K H a [.ref p,u]∧H p=some (.tup (plV x.1))∧TrAt K H u x.2
theorem RowT.same {K:PySem.W.Frag} {H H':Hp} (e:SameT H H') (v:V) (x:List Nat×Tr) (h:RowT K H v x):RowT K H' v x:=by
 obtain ⟨a,p,u,r,q,qp,t⟩:=h
 exact ⟨a,p,u,r,e.tup q,(e p).1 _ qp,t.sameT e⟩
theorem putAll_snoc {κ:Type} [DecidableEq κ] (l:List (κ×V)) (kv:κ×V) (kvs:List (κ×V)):putAll kvs (l++[kv])=putK (putAll kvs l) kv.1 kv.2:=by
 unfold putAll
 rw [List.foldl_append]
 rfl
noncomputable def lastV {κ:Type} [DecidableEq κ] (l:List (κ×V)) (k:κ):Option V:=(l.reverse.find? fun kv=>decide (kv.1=k)).map (·.2)
theorem lastV_snoc {κ:Type} [DecidableEq κ] (l:List (κ×V)) (kv:κ×V) (k:κ):lastV (l++[kv]) k=if kv.1=k then some kv.2 else lastV l k:=by
 unfold lastV
 rw [List.reverse_append,List.reverse_singleton,List.singleton_append,List.find?_cons]
 by_cases h:kv.1=k
 ·simp [h]
 ·simp [h]
theorem snoc_ind {α:Type} {P:List α→Prop} (h0:P []) (h1:∀ l x,P l→P (l++[x])) (l:List α):P l:=by
 rw [← l.reverse_reverse]
 induction l.reverse with
 | nil=>exact h0
 | cons x r ih=>rw [List.reverse_cons]; exact h1 _ _ ih
theorem valV_putAll {κ:Type} [DecidableEq κ] (l:List (κ×V)) (k:κ):valV (putAll [] l) k=lastV l k:=by
 refine snoc_ind (P:=fun l=>valV (putAll [] l) k=lastV l k) rfl (fun l kv ih=>?_) l
 rw [putAll_snoc,lastV_snoc,valV_put,ih]
 by_cases h:kv.1=k
 ·rw [if_pos h,if_pos h.symm]
 ·rw [if_neg h,if_neg (Ne.symm h)]
structure Wt where
 pl:List Nat
 ar:List (Str×Str×V)
 came:Bool
structure MS where
 rows:List Rx
 wait:List Wt
 things:List (Str×V)
 steps:Int
noncomputable def plI (pl:List Nat):List Int:=pl.map fun i:Nat=>((i:Nat):Int)
theorem plV_plI (pl:List Nat):(plI pl).map V.int=plV pl:=by unfold plI plV; rw [List.map_map]; rfl
noncomputable def plK (pl:List Nat):List Key:=pl.map fun i:Nat=>Sum.inl ((i:Nat):Int)
theorem plK_kV (pl:List Nat):(plK pl).map kV=plV pl:=by unfold plK plV; rw [List.map_map]; rfl
noncomputable def WtAt (K:PySem.W.Frag) (A:Addr→Prop) (H:Hp) (v:V) (x:Wt):Prop:=∃ (a p e:Addr) (ev:List V),v=.ref a∧SqT K H a [.ref p,.ref e,.bl x.came]∧H p=some (.tup (plV x.pl))∧H e=some (.lst ev)∧Al (PrAt K H) ev x.ar∧¬ A e
theorem WtAt.same {K:PySem.W.Frag} {A:Addr→Prop} {H H':Hp} (s:SameA A H H') (v:V) (x:Wt) (h:WtAt K A H v x):WtAt K A H' v x:=by
 obtain ⟨a,p,e,ev,h1,h2,h3,h4,h5,h6⟩:=h
 exact ⟨a,p,e,ev,h1,s.1.tup h2,(s.1 p).1 _ h3,s.2 _ _ h6 h4,h5.mono (PrAt.same s.1),h6⟩
theorem WtAt.mono {K:PySem.W.Frag} {A B:Addr→Prop} {H:Hp} (s:∀ b,B b→H b≠none→A b) (v:V) (x:Wt) (h:WtAt K A H v x):WtAt K B H v x:=by
 obtain ⟨a,p,e,ev,h1,h2,h3,h4,h5,h6⟩:=h
 exact ⟨a,p,e,ev,h1,h2,h3,h4,h5,fun b=>h6 (s e b (by rw [h4]; simp))⟩
noncomputable def RwX (K:PySem.W.Frag) (A:Addr→Prop) (H:Hp) (v:V) (x:Rx):Prop:=RwAt K A H v x∧∃ (a p o e:Addr),v=.ref a∧SqT K H a [.str x.wd,.ref p,.ref o,.ref e]∧H p=some (.tup (x.pl.map V.int))
theorem RwX.same {K:PySem.W.Frag} {A:Addr→Prop} {H H':Hp} (s:SameA A H H') (v:V) (x:Rx) (h:RwX K A H v x):RwX K A H' v x:=by
 obtain ⟨h1,a,p,o,e,r,q,t⟩:=h
 exact ⟨RwAt.same s v x h1,a,p,o,e,r,s.1.tup q,(s.1 p).1 _ t⟩
theorem RwX.mono {K:PySem.W.Frag} {A B:Addr→Prop} {H:Hp} (s:∀ b,B b→H b≠none→A b) (v:V) (x:Rx) (h:RwX K A H v x):RwX K B H v x:=⟨RwAt.mono s v x h.1,h.2⟩
noncomputable def RwO (K:PySem.W.Frag) (A:Addr→Prop) (H:Hp) (v:V) (y:Rx×Addr×Addr):Prop:=∃ (a p:Addr) (ov ev:List V),v=.ref a∧SqT K H a [.str y.1.wd,.ref p,.ref y.2.1,.ref y.2.2]∧SqT K H p (y.1.pl.map V.int)∧H y.2.1=some (.lst ov)∧Al (ThAt K H) ov y.1.ops∧H y.2.2=some (.lst ev)∧Al (PrAt K H) ev y.1.ar∧¬ A y.2.1∧¬ A y.2.2
theorem RwO.same {K:PySem.W.Frag} {A:Addr→Prop} {H H':Hp} (s:SameA A H H') (v:V) (y:Rx×Addr×Addr) (h:RwO K A H v y):RwO K A H' v y:=by
 obtain ⟨a,p,ov,ev,h1,h2,h3,h4,h5,h6,h7,h8,h9⟩:=h
 exact ⟨a,p,ov,ev,h1,s.1.tup h2,s.1.tup h3,s.2 _ _ h8 h4,h5.mono (ThAt.same s.1),s.2 _ _ h9 h6,h7.mono (PrAt.same s.1),h8,h9⟩
theorem RwO.mono {K:PySem.W.Frag} {A B:Addr→Prop} {H:Hp} (s:∀ b,B b→H b≠none→A b) (v:V) (y:Rx×Addr×Addr) (h:RwO K A H v y):RwO K B H v y:=by
 obtain ⟨a,p,ov,ev,h1,h2,h3,h4,h5,h6,h7,h8,h9⟩:=h
 exact ⟨a,p,ov,ev,h1,h2,h3,h4,h5,h6,h7,fun b=>h8 (s _ b (by rw [h4]; simp)),fun b=>h9 (s _ b (by rw [h6]; simp))⟩
noncomputable def SepR (K:PySem.W.Frag) (A:Addr→Prop) (H:Hp) (rv:List V) (rs:List Rx):Prop:=∃ ys:List (Rx×Addr×Addr),ys.map (·.1)=rs∧Al (RwO K A H) rv ys∧∀ (i j:Nat) (x y:Rx×Addr×Addr),ys[i]?=some x→ys[j]?=some y→i < j→x.2.1≠y.2.1∧x.2.1≠y.2.2∧x.2.2≠y.2.1∧x.2.2≠y.2.2
theorem SepR.nil {K:PySem.W.Frag} {A:Addr→Prop} {H:Hp}:SepR K A H [] []:=⟨[],rfl,.nil,fun i j x y h=>by simp at h⟩
theorem SepR.same {K:PySem.W.Frag} {A:Addr→Prop} {H H':Hp} {rv:List V} {rs:List Rx} (h:SepR K A H rv rs) (s:SameA A H H'):SepR K A H' rv rs:=by
 obtain ⟨ys,e,al,d⟩:=h
 exact ⟨ys,e,al.mono (RwO.same s),d⟩
theorem SepR.mono {K:PySem.W.Frag} {A B:Addr→Prop} {H:Hp} {rv:List V} {rs:List Rx} (h:SepR K A H rv rs) (s:∀ b,B b→H b≠none→A b):SepR K B H rv rs:=by
 obtain ⟨ys,e,al,d⟩:=h
 exact ⟨ys,e,al.mono (RwO.mono s),d⟩
theorem SepR.add {K:PySem.W.Frag} {A:Addr→Prop} {H H':Hp} {rv:List V} {rs:List Rx} {v:V} {y:Rx×Addr×Addr} (h:SepR K A H rv rs) (s:Same H H') (ho:H y.2.1=none) (he:H y.2.2=none) (q:RwO K A H' v y):SepR K A H' (rv++[v]) (rs++[y.1]):=by
 obtain ⟨ys,er,al,d⟩:=h
 refine ⟨ys++[y],by rw [List.map_append,er]; rfl,(al.mono (RwO.same s.a)).snoc q,fun i j x z hi hj hij=>?_⟩
 have hjl:j < (ys++[y]).length:=(List.getElem?_eq_some_iff.mp hj).1
 rw [List.length_append,List.length_singleton] at hjl
 have hil:i < ys.length:=by omega
 rw [List.getElem?_append_left hil] at hi
 by_cases hjl2:j < ys.length
 ·rw [List.getElem?_append_left hjl2] at hj
  exact d i j x z hi hj hij
 ·have ej:j=ys.length:=by omega
  rw [ej] at hj
  simp at hj
  obtain ⟨v',hv⟩:∃ v,rv[i]?=some v:=⟨_,List.getElem?_eq_getElem (by rw [al.1]; exact hil)⟩
  obtain ⟨x',hx',a2,p2,os2,es2,g1,g2,g3,g4,g5,g6,g7,g8,g9⟩:=al.get hv
  rw [hi] at hx'
  cases hx'
  rw [← hj]
  exact ⟨fun z=>(by rw [z,ho] at g4; cases g4),fun z=>(by rw [z,he] at g4; cases g4),fun z=>(by rw [z,ho] at g6; cases g6),fun z=>(by rw [z,he] at g6; cases g6)⟩
structure Ml where
 m:Addr
 dx:Addr
 fd:Addr
 rd:Addr
 wd:Addr
 td:Addr
noncomputable def Ml.A (L:Ml) (b:Addr):Prop:=b=L.rd∨b=L.wd∨b=L.td
noncomputable def Ml.fs (L:Ml) (n:Int):List (Str×V):=[("forms",.ref L.fd),("rows",.ref L.rd),("waiting",.ref L.wd),("things",.ref L.td),("steps",.int n)]
structure MAt (K:PySem.W.Frag) (HB:Hp) (C:Addr) (kvs:List (List Key×V)) (L:Ml) (H:Hp) (S:MS):Prop where
 base:Same HB H
 nm:HB L.m=none
 nr:HB L.rd=none
 nw:HB L.wd=none
 nt:HB L.td=none
 ins:H L.m=some (.ins C L.dx (L.fs S.steps))
 frm:H L.fd=some (.dT kvs)
 rw:L.rd≠L.wd
 rt:L.rd≠L.td
 wt:L.wd≠L.td
 rows:∃ rv,H L.rd=some (.lst rv)∧Al (RwX K (fun b=>L.A b∨HB b≠none) H) rv S.rows∧SepR K (fun b=>L.A b∨HB b≠none) H rv S.rows
 wait:∃ wv,H L.wd=some (.lst wv)∧Al (WtAt K L.A H) wv S.wait
 things:∃ tv,H L.td=some (.lst tv)∧Al (ThAt K H) tv S.things
noncomputable def SameM (L:Ml) (H H':Hp):Prop:=∀ b o,b≠L.m→¬ L.A b→H b=some o→H' b=some o
theorem SameM.refl (L:Ml) (H:Hp):SameM L H H:=fun _ _ _ _ h=>h
theorem SameM.trans {L:Ml} {H H1 H2:Hp} (a:SameM L H H1) (b:SameM L H1 H2):SameM L H H2:=fun c o h1 h2 h=>b c o h1 h2 (a c o h1 h2 h)
theorem _root_.L2.Same.m {H H':Hp} (e:Same H H') (L:Ml):SameM L H H':=fun b o _ _ h=>e b o h
theorem SameM.trans' {L L':Ml} {H H1 H2:Hp} (a:SameM L H H1) (b:SameM L' H1 H2) (hm:L'.m=L.m) (hr:L'.rd=L.rd) (hw:L'.wd=L.wd) (ht:L'.td=L.td∨H L'.td=none):SameM L H H2:=fun c o h1 h2 h=>by
 refine b c o (by rw [hm]; exact h1) ?_ (a c o h1 h2 h)
 rintro (z | z | z)
 ·exact h2 (.inl (z.trans hr))
 ·exact h2 (.inr (.inl (z.trans hw)))
 ·rcases ht with e | e
  ·exact h2 (.inr (.inr (z.trans e)))
  ·rw [← z,h] at e
   cases e
section
variable {K:PySem.W.Frag} {HB H H':Hp} {C:Addr} {kvs:List (List Key×V)} {L:Ml} {S:MS}
theorem MAt.ne {o:HO} (M:MAt K HB C kvs L H S) {b:Addr} (h:H b=some o) (hi:∀ c d f,o≠.ins c d f) (hl:∀ xs,o≠.lst xs):b≠L.m∧¬ L.A b:=by
 obtain ⟨rv,er,_⟩:=M.rows
 obtain ⟨wv,ew,_⟩:=M.wait
 obtain ⟨tv,et,_⟩:=M.things
 refine ⟨fun z=>?_,?_⟩
 ·rw [z,M.ins] at h; cases h; exact hi _ _ _ rfl
 ·rintro (z | z | z)
  ·rw [z,er] at h; cases h; exact hl _ rfl
  ·rw [z,ew] at h; cases h; exact hl _ rfl
  ·rw [z,et] at h; cases h; exact hl _ rfl
theorem MAt.a (M:MAt K HB C kvs L H S) (e:SameM L H H'):SameA L.A H H':=by
 refine ⟨fun b=>⟨fun xs h=>?_,fun o u h=>?_⟩,fun b xs n h=>?_⟩
 ·obtain ⟨h1,h2⟩:=M.ne h (fun _ _ _ z=>nomatch z) (fun _ z=>nomatch z)
  exact e b _ h1 h2 h
 ·obtain ⟨h1,h2⟩:=M.ne h (fun _ _ _ z=>nomatch z) (fun _ z=>nomatch z)
  exact e b _ h1 h2 h
 ·refine e b _ (fun z=>?_) n h
  rw [z,M.ins] at h
  cases h
theorem MAt.t (M:MAt K HB C kvs L H S) (e:SameM L H H'):SameT H H':=(M.a e).1
theorem MAt.outer (M:MAt K HB C kvs L H S) (e:SameM L H H'):Same HB H':=fun b o h=>by
 refine e b o (fun z=>?_) ?_ (M.base b o h)
 ·rw [z,M.nm] at h; cases h
 ·rintro (z | z | z)
  ·rw [z,M.nr] at h; cases h
  ·rw [z,M.nw] at h; cases h
  ·rw [z,M.nt] at h; cases h
theorem MAt.big (M:MAt K HB C kvs L H S) (e:SameM L H H'):SameA (fun b=>L.A b∨HB b≠none) H H':=(M.a e).mono fun _ h=>.inl h
theorem MAt.new (M:MAt K HB C kvs L H S) (e:Same H H'):MAt K HB C kvs L H' S:=by
 obtain ⟨rv,er,ar,sp⟩:=M.rows
 obtain ⟨wv,ew,aw⟩:=M.wait
 obtain ⟨tv,et,at_⟩:=M.things
 exact ⟨M.base.trans e,M.nm,M.nr,M.nw,M.nt,e _ _ M.ins,e _ _ M.frm,M.rw,M.rt,M.wt,⟨rv,e _ _ er,ar.mono (RwX.same e.a),sp.same e.a⟩,⟨wv,e _ _ ew,aw.mono (WtAt.same e.a)⟩,⟨tv,e _ _ et,at_.mono (ThAt.same e.t)⟩⟩
theorem SameM.upd {x:Addr} {o:HO} (hx:x=L.m∨L.A x):SameM L H (upd H x o):=fun b o' h1 h2 h=>by
 rw [upd_ne (fun z=>?_)]
 ·exact h
 ·rw [z] at h1 h2
  rcases hx with e | e
  ·exact h1 e
  ·exact h2 e
theorem MAt.apart (M:MAt K HB C kvs L H S):L.rd≠L.m∧L.wd≠L.m∧L.td≠L.m∧L.fd≠L.m∧L.fd≠L.rd∧L.fd≠L.wd∧L.fd≠L.td:=by
 obtain ⟨rv,er,_⟩:=M.rows
 obtain ⟨wv,ew,_⟩:=M.wait
 obtain ⟨tv,et,_⟩:=M.things
 exact ⟨ne_of er M.ins (fun z=>nomatch z),ne_of ew M.ins (fun z=>nomatch z),ne_of et M.ins (fun z=>nomatch z),ne_of M.frm M.ins (fun z=>nomatch z),ne_of M.frm er (fun z=>nomatch z),ne_of M.frm ew (fun z=>nomatch z),ne_of M.frm et (fun z=>nomatch z)⟩
theorem MAt.setSteps (M:MAt K HB C kvs L H S) (n:Int):MAt K HB C kvs L (L2.upd H L.m (.ins C L.dx (L.fs n))) { S with steps:=n }:=by
 have e:SameM L H (L2.upd H L.m (.ins C L.dx (L.fs n))):=SameM.upd (.inl rfl)
 obtain ⟨a1,a2,a3,a4,a5,a6,a7⟩:=M.apart
 obtain ⟨rv,er,ar,sp⟩:=M.rows
 obtain ⟨wv,ew,aw⟩:=M.wait
 obtain ⟨tv,et,at_⟩:=M.things
 exact ⟨M.outer e,M.nm,M.nr,M.nw,M.nt,upd_same,by rw [upd_ne a4]; exact M.frm,M.rw,M.rt,M.wt,⟨rv,by rw [upd_ne a1]; exact er,ar.mono (RwX.same (M.big e)),sp.same (M.big e)⟩,⟨wv,by rw [upd_ne a2]; exact ew,aw.mono (WtAt.same (M.a e))⟩,⟨tv,by rw [upd_ne a3]; exact et,at_.mono (ThAt.same (M.t e))⟩⟩
theorem MAt.setRows (M:MAt K HB C kvs L H S) {rv:List V} {rs:List Rx} (al:Al (RwX K (fun b=>L.A b∨HB b≠none) H) rv rs) (sp:SepR K (fun b=>L.A b∨HB b≠none) H rv rs):MAt K HB C kvs L (L2.upd H L.rd (.lst rv)) { S with rows:=rs }:=by
 have e:SameM L H (L2.upd H L.rd (.lst rv)):=SameM.upd (.inr (.inl rfl))
 obtain ⟨a1,a2,a3,a4,a5,a6,a7⟩:=M.apart
 obtain ⟨wv,ew,aw⟩:=M.wait
 obtain ⟨tv,et,at_⟩:=M.things
 exact ⟨M.outer e,M.nm,M.nr,M.nw,M.nt,by rw [upd_ne (Ne.symm a1)]; exact M.ins,by rw [upd_ne a5]; exact M.frm,M.rw,M.rt,M.wt,⟨rv,upd_same,al.mono (RwX.same (M.big e)),sp.same (M.big e)⟩,⟨wv,by rw [upd_ne (Ne.symm M.rw)]; exact ew,aw.mono (WtAt.same (M.a e))⟩,⟨tv,by rw [upd_ne (Ne.symm M.rt)]; exact et,at_.mono (ThAt.same (M.t e))⟩⟩
theorem MAt.setWait (M:MAt K HB C kvs L H S) {wv:List V} {ws:List Wt} (al:Al (WtAt K L.A H) wv ws):MAt K HB C kvs L (L2.upd H L.wd (.lst wv)) { S with wait:=ws }:=by
 have e:SameM L H (L2.upd H L.wd (.lst wv)):=SameM.upd (.inr (.inr (.inl rfl)))
 obtain ⟨a1,a2,a3,a4,a5,a6,a7⟩:=M.apart
 obtain ⟨rv,er,ar,sp⟩:=M.rows
 obtain ⟨tv,et,at_⟩:=M.things
 exact ⟨M.outer e,M.nm,M.nr,M.nw,M.nt,by rw [upd_ne (Ne.symm a2)]; exact M.ins,by rw [upd_ne a6]; exact M.frm,M.rw,M.rt,M.wt,⟨rv,by rw [upd_ne M.rw]; exact er,ar.mono (RwX.same (M.big e)),sp.same (M.big e)⟩,⟨wv,upd_same,al.mono (WtAt.same (M.a e))⟩,⟨tv,by rw [upd_ne (Ne.symm M.wt)]; exact et,at_.mono (ThAt.same (M.t e))⟩⟩
theorem MAt.setThings (M:MAt K HB C kvs L H S) {tv:List V} {ts:List (Str×V)} (al:Al (ThAt K H) tv ts):MAt K HB C kvs L (L2.upd H L.td (.lst tv)) { S with things:=ts }:=by
 have e:SameM L H (L2.upd H L.td (.lst tv)):=SameM.upd (.inr (.inr (.inr rfl)))
 obtain ⟨a1,a2,a3,a4,a5,a6,a7⟩:=M.apart
 obtain ⟨rv,er,ar,sp⟩:=M.rows
 obtain ⟨wv,ew,aw⟩:=M.wait
 exact ⟨M.outer e,M.nm,M.nr,M.nw,M.nt,by rw [upd_ne (Ne.symm a3)]; exact M.ins,by rw [upd_ne a7]; exact M.frm,M.rw,M.rt,M.wt,⟨rv,by rw [upd_ne M.rt]; exact er,ar.mono (RwX.same (M.big e)),sp.same (M.big e)⟩,⟨wv,by rw [upd_ne M.wt]; exact ew,aw.mono (WtAt.same (M.a e))⟩,⟨tv,upd_same,al.mono (ThAt.same (M.t e))⟩⟩
noncomputable def Ml.with (L:Ml) (t:Addr):Ml:={ L with td:=t }
theorem MAt.swap (M:MAt K HB C kvs L H S) {H1:Hp} {t:Addr} {tv:List V} {ts:List (Str×V)} (e0:Same H H1) (ht:H t=none) (h1:H1 t=some (.lst tv)) (al:Al (ThAt K H1) tv ts):MAt K HB C kvs (L.with t) (L2.upd H1 L.m (.ins C L.dx ((L.with t).fs S.steps))) { S with things:=ts }∧SameM L H (L2.upd H1 L.m (.ins C L.dx ((L.with t).fs S.steps))):=by
 have M1:=M.new e0
 have e:SameM L H1 (L2.upd H1 L.m (.ins C L.dx ((L.with t).fs S.steps))):=SameM.upd (.inl rfl)
 obtain ⟨a1,a2,a3,a4,a5,a6,a7⟩:=M1.apart
 obtain ⟨rv0,er0,_⟩:=M.rows
 obtain ⟨wv0,ew0,_⟩:=M.wait
 obtain ⟨rv,er,ar,sp⟩:=M1.rows
 obtain ⟨wv,ew,aw⟩:=M1.wait
 have nm:t≠L.m:=fun z=>by rw [z,M.ins] at ht; cases ht
 have nr:L.rd≠t:=fun z=>by rw [← z,er0] at ht; cases ht
 have nw:L.wd≠t:=fun z=>by rw [← z,ew0] at ht; cases ht
 have nb:HB t=none:=by
  cases h:HB t with
  | none=>rfl
  | some o=>rw [M.base _ _ h] at ht; cases ht
 have s2:∀ B:Addr→Prop,SameA B H (L2.upd H1 L.m (.ins C L.dx ((L.with t).fs S.steps))):=fun B=>⟨e0.t.trans (M1.t e),fun b xs _ h=>by
  rw [upd_ne (fun z=>?_)]
  ·exact e0 _ _ h
  ·rw [z,M.ins] at h; cases h⟩
 obtain ⟨rv1,er1,ar1,sp1⟩:=M.rows
 obtain ⟨wv1,ew1,aw1⟩:=M.wait
 have hA:∀ b,(L.with t).A b→H b≠none→L.A b:=fun b hb hn=>by
  rcases hb with z | z | z
  ·exact .inl z
  ·exact .inr (.inl z)
  ·rw [show b=t from z,ht] at hn; exact absurd rfl hn
 refine ⟨⟨M1.outer e,M.nm,M.nr,M.nw,nb,upd_same,(upd_ne (show L.fd≠L.m from a4)).trans M1.frm,M.rw,nr,nw,⟨rv1,(upd_ne (show L.rd≠L.m from a1)).trans (e0 _ _ er1),?_,?_⟩,⟨wv1,(upd_ne (show L.wd≠L.m from a2)).trans (e0 _ _ ew1),?_⟩,⟨tv,(upd_ne (show t≠L.m from nm)).trans h1,al.mono (ThAt.same (M1.t e))⟩⟩,(e0.m L).trans e⟩
 ·refine (ar1.mono (RwX.mono fun b hb hn=>?_)).mono (RwX.same (s2 _))
  rcases hb with z | z
  ·exact .inl (hA b z hn)
  ·exact .inr z
 ·refine (sp1.mono fun b hb hn=>?_).same (s2 _)
  rcases hb with z | z
  ·exact .inl (hA b z hn)
  ·exact .inr z
 ·exact (aw1.mono (WtAt.mono hA)).mono (WtAt.same (s2 _))
end
noncomputable def lookA (ar:List (Str×Str×V)) (z:Str):Option (Str×V):=(ar.reverse.find? fun x=>decide (x.1=z)).map (·.2)
theorem lookA_snoc (l:List (Str×Str×V)) (x:Str×Str×V) (z:Str):lookA (l++[x]) z=if x.1=z then some x.2 else lookA l z:=by
 unfold lookA
 rw [List.reverse_append,List.reverse_singleton,List.singleton_append,List.find?_cons]
 by_cases h:x.1=z
 ·simp [h]
 ·simp [h]
theorem bound_of {K:PySem.W.Frag} {H:Hp}:∀ (ev:List V) (ar:List (Str×Str×V)),Al (PrAt K H) ev ar→∃ kvs:List (Key×V),Al (fun v (kv:Key×V)=>∃ a,v=.ref a∧SqT K H a [kV kv.1,kv.2]) ev kvs ∧
  ∀ z:Str,(lastV kvs (Sum.inr z)=none∧lookA ar z=none)∨∃ u th,lastV kvs (Sum.inr z)=some u∧lookA ar z=some th∧ThAt K H u th:=by
 intro ev
 refine snoc_ind (P:=fun ev=>∀ ar,Al (PrAt K H) ev ar→∃ kvs:List (Key×V),Al (fun v (kv:Key×V)=>∃ a,v=.ref a∧SqT K H a [kV kv.1,kv.2]) ev kvs ∧
  ∀ z:Str,(lastV kvs (Sum.inr z)=none∧lookA ar z=none)∨∃ u th,lastV kvs (Sum.inr z)=some u∧lookA ar z=some th∧ThAt K H u th) ?_ ?_ ev
 ·intro ar al
  have:ar=[]:=List.eq_nil_of_length_eq_zero al.1.symm
  subst this
  exact ⟨[],.nil,fun z=>.inl ⟨rfl,rfl⟩⟩
 ·intro l v ih ar al
  obtain ⟨l',v',ar',x,e1,rfl,al',a,u,rfl,q,t⟩:=al.last (by simp)
  obtain ⟨rfl,e2⟩:=List.append_inj' e1 rfl
  cases e2
  obtain ⟨kvs,ak,hk⟩:=ih ar' al'
  refine ⟨kvs++[(Sum.inr x.1,u)],ak.snoc ⟨a,rfl,q⟩,fun z=>?_⟩
  rw [lastV_snoc,lookA_snoc]
  by_cases hz:x.1=z
  ·refine .inr ⟨u,x.2,?_,if_pos hz,t⟩
   rw [if_pos (by rw [hz])]
  ·rw [if_neg hz,if_neg (fun h=>hz (Sum.inr.inj h))]
   exact hk z
section
variable {g:TG} {tt:TT} {te:TE} {σ0:St} {H1:Hp} {D:Addr} {Q:VK}
theorem comp_tup {K:PySem.W.Frag} {a:Addr} {xs:List V} (Pv:Nat→List V→St→Hp→Prop) (h0:Pv 0 [] σ0 (upd H1 D (.lst []))) (hl:∀ i ys σ H,i≤xs.length→Pv i ys σ H→SqT K H a xs)
  (hs:∀ i x ys σ H,xs[i]?=some x→H D=some (.lst ys)→Pv i ys σ H→CompT g tt te D (Pv (i + 1)) x σ H)
  (hd:∀ ys σ H,H D=some (.lst ys)→Pv xs.length ys σ H→Q (.ref D) H):CompW (Itt K a) g tt te σ0 H1 D Q:=by
 refine ⟨fun i m σ H=>m=xs.length - i∧i≤xs.length∧∃ ys,H D=some (.lst ys)∧Pv i ys σ H,⟨xs.length,by simp,Nat.zero_le _,[],upd_same,h0⟩,?_⟩
 rintro i m σ H ⟨rfl,hi,ys,hD,p⟩
 have q:=hl i ys σ H hi p
 by_cases hlt:i < xs.length
 ·refine .inr ⟨⟨xs,xs[i],q,by simp [hlt]⟩,fun σ2 H2=>∃ zs,H2 D=some (.lst zs)∧Pv (i + 1) zs σ2 H2,fun σ' H' p'=>⟨xs.length - (i + 1),by omega,rfl,hlt,p'⟩,fun x H' y=>?_⟩
  obtain ⟨e,y⟩:=y
  subst e
  exact hs i x ys σ _ (y xs q) hD p
 ·have e:i=xs.length:=by omega
  subst e
  exact .inl ⟨⟨xs,q,Nat.le_refl _⟩,hd ys σ H hD p⟩
end
noncomputable def noteT:Tr→Dt
 | .mk _ n _=>n
theorem tr_eta (t:Tr):t=.mk t.wd (noteT t) t.ps:=by cases t; rfl
theorem plK_inj {a b:List Nat} (h:plK a=plK b):a=b:=by
 unfold plK at h
 induction a generalizing b with
 | nil=>cases b with
  | nil=>rfl
  | cons y r=>simp at h
 | cons x l ih=>cases b with
  | nil=>simp at h
  | cons y r =>
   simp only [List.map_cons,List.cons.injEq] at h
   have h1:x=y:=by have:=Sum.inl.inj h.1; omega
   rw [h1,ih h.2]
noncomputable def lastW (ws:List (List Nat×Tr)) (pl:List Nat):Option Tr:=(ws.reverse.find? fun x=>decide (x.1=pl)).map (·.2)
theorem lastW_snoc (l:List (List Nat×Tr)) (x:List Nat×Tr) (pl:List Nat):lastW (l++[x]) pl=if x.1=pl then some x.2 else lastW l pl:=by
 unfold lastW
 rw [List.reverse_append,List.reverse_singleton,List.singleton_append,List.find?_cons]
 by_cases h:x.1=pl
 ·simp [h]
 ·simp [h]
theorem lastW_mem {ws:List (List Nat×Tr)} {pl:List Nat} {t:Tr} (h:lastW ws pl=some t):(pl,t)∈ws:=by
 unfold lastW at h
 obtain ⟨x,hx,rfl⟩:=Option.map_eq_some_iff.mp h
 have h1:=List.find?_some hx
 have h2:x.1=pl:=of_decide_eq_true h1
 rw [← h2]
 exact List.mem_reverse.mp (List.mem_of_find?_eq_some hx)
theorem forms_of {K:PySem.W.Frag} {H:Hp}:∀ (rows:List V) (ws:List (List Nat×Tr)),Al (RowT K H) rows ws→∃ kvs:List (List Key×V),Al (fun v (kv:List Key×V)=>∃ a b,v=.ref a∧SqT K H a [.ref b,kv.2]∧H b=some (.tup (kv.1.map kV))) rows kvs ∧
  ∀ pl:List Nat,(lastV kvs (plK pl)=none∧lastW ws pl=none)∨∃ u t,lastV kvs (plK pl)=some u∧lastW ws pl=some t∧TrAt K H u t:=by
 intro rows
 refine snoc_ind (P:=fun rows=>∀ ws,Al (RowT K H) rows ws→∃ kvs:List (List Key×V),Al (fun v (kv:List Key×V)=>∃ a b,v=.ref a∧SqT K H a [.ref b,kv.2]∧H b=some (.tup (kv.1.map kV))) rows kvs ∧
  ∀ pl:List Nat,(lastV kvs (plK pl)=none∧lastW ws pl=none)∨∃ u t,lastV kvs (plK pl)=some u∧lastW ws pl=some t∧TrAt K H u t) ?_ ?_ rows
 ·intro ws al
  have:ws=[]:=List.eq_nil_of_length_eq_zero al.1.symm
  subst this
  exact ⟨[],.nil,fun z=>.inl ⟨rfl,rfl⟩⟩
 ·intro l v ih ws al
  obtain ⟨l',v',ws',x,e1,rfl,al',a,p,u,rfl,q,hp,t⟩:=al.last (by simp)
  obtain ⟨rfl,e2⟩:=List.append_inj' e1 rfl
  cases e2
  obtain ⟨kvs,ak,hk⟩:=ih ws' al'
  refine ⟨kvs++[(plK x.1,u)],ak.snoc ⟨a,p,rfl,q,by rw [plK_kV]; exact hp⟩,fun pl=>?_⟩
  rw [lastV_snoc,lastW_snoc]
  by_cases hz:x.1=pl
  ·refine .inr ⟨u,x.2,?_,if_pos hz,t⟩
   rw [if_pos (by rw [hz])]
  ·rw [if_neg hz,if_neg (fun h=>hz (plK_inj h))]
   exact hk pl
end L2
namespace L2
open PySem PySem.Spec PyProof.Rows
noncomputable abbrev zk1 (h:Heap) (l1:Addr):Heap:=h.push (lit l1)
noncomputable abbrev zk2 (h:Heap) (l1 l2:Addr):Heap:=(zk1 h l1).push (lit l2)
noncomputable abbrev zk3 (h:Heap) (l1 l2:Addr):Heap:=(zk2 h l1 l2).push { cls:=.type "tuple",data:=.seq #[.ref h.objs.size,.ref (zk1 h l1).objs.size] }
noncomputable abbrev zk4 (h:Heap) (l1 l2:Addr):Heap:=(zk3 h l1 l2).push { cls:=.type "tuple",data:=.seq #[.none,.none] }
noncomputable abbrev zk5 (h:Heap) (l1 l2:Addr):Heap:=(zk4 h l1 l2).push { cls:=.type "zip",data:=.fields #[.none,.bool false,.bool false,.ref (zk2 h l1 l2).objs.size,.ref (zk3 h l1 l2).objs.size] }
theorem meets_zipLL (l1 l2:Addr) (xs ys:Array Value) :
  Meets (Builtin.«zip.__new__» ⟨[.type "zip",.ref l1,.ref l2],[]⟩) (fun _ R s=>s.heap.IsList l1 xs∧s.heap.IsList l2 ys∧R (.ok (.ret (.ref (zk4 s.heap l1 l2).objs.size))) { s with heap:=zk5 s.heap l1 l2 }) :=
 .of_wp fun prog w A R s h=>by
  obtain ⟨hp,g,d,tk,os⟩:=s; obtain ⟨hl1,hl2,h⟩:=h
  have hsub:=sub_zip
  have q1:Heap.IsList (Shared.heap ⟨hp,g,d,tk,os⟩) l1 xs:=hl1
  have q2:Heap.IsList (Shared.heap ⟨hp.push { cls:=.type "list_iterator",data:=.fields #[.ref l1,.int 0 0] },g,d,tk,os⟩) l2 ys:=Heap.IsList.push hl2 _
  wp_walk using wpAny_pyIter_list q1,wpAny_pyIter_list q2
  exact ⟨_,rfl,h⟩
theorem call_zipLL {prog:Program} {w:World} {A:Around} {E:Value→Shared→Prop} {s:Shared} {l1 l2:Addr} {xs ys:Array Value} {Q:Value→Shared→Prop} (hl1:s.heap.IsList l1 xs) (hl2:s.heap.IsList l2 ys)
  (h:∀ h',IsZip h' (s.heap.objs.size + 4) (s.heap.objs.size + 2) (s.heap.objs.size + 3) .none→IsPair h' (s.heap.objs.size + 2) (.ref s.heap.objs.size) (.ref (s.heap.objs.size + 1)) →
   IsPair h' (s.heap.objs.size + 3) .none .none→h'.IsListIter s.heap.objs.size l1 0→h'.IsListIter (s.heap.objs.size + 1) l2 0→h'.objs.size=s.heap.objs.size + 5 →
   (∀ c o,s.heap.get? c=some o→h'.get? c=some o)→Q (.ref (s.heap.objs.size + 4)) { s with heap:=h' }) :
  wpAny (model prog w) A (call (.type "zip") [.ref l1,.ref l2]) Q E s:=by
 refine callType_new PySem.F.called_zip (by decide) (PySem.F.typeCall_zip_2 _ _) (PySem.F.newCall_zip_2 _ _) (fun obj=>PySem.F.args_object_init_3 obj _ _) PySem.F.entry_zip_new (meets_zipLL l1 l2 xs ys) ⟨hl1,hl2,?_⟩
 have y1:(zk1 s.heap l1).objs.size=s.heap.objs.size + 1:=Heap.size_push ..
 have y2:(zk2 s.heap l1 l2).objs.size=s.heap.objs.size + 2:=by rw [Heap.size_push,y1]
 have y3:(zk3 s.heap l1 l2).objs.size=s.heap.objs.size + 3:=by rw [Heap.size_push,y2]
 have y4:(zk4 s.heap l1 l2).objs.size=s.heap.objs.size + 4:=by rw [Heap.size_push,y3]
 have y5:(zk5 s.heap l1 l2).objs.size=s.heap.objs.size + 5:=by rw [Heap.size_push,y4]
 have u5:(zk5 s.heap l1 l2).get? (zk4 s.heap l1 l2).objs.size=some _:=Heap.get?_push_size _ rfl
 have u4:(zk5 s.heap l1 l2).get? (zk3 s.heap l1 l2).objs.size=some _:=Heap.get?_push_of_some _ (Heap.get?_push_size _ rfl)
 have u3:(zk5 s.heap l1 l2).get? (zk2 s.heap l1 l2).objs.size=some _:=Heap.get?_push_of_some _ (Heap.get?_push_of_some _ (Heap.get?_push_size _ rfl))
 have u2:(zk5 s.heap l1 l2).get? (zk1 s.heap l1).objs.size=some _:=Heap.get?_push_of_some _ (Heap.get?_push_of_some _ (Heap.get?_push_of_some _ (Heap.get?_push_size _ rfl)))
 have u1:(zk5 s.heap l1 l2).get? s.heap.objs.size=some _:=Heap.get?_push_of_some _ (Heap.get?_push_of_some _ (Heap.get?_push_of_some _ (Heap.get?_push_of_some _ (Heap.get?_push_size _ rfl))))
 show _∧_
 rw [y2,y3,y4] at u5
 rw [y1,y2] at u3
 rw [y3] at u4
 rw [y1] at u2
 rw [y4]
 exact ⟨⟨_,u5,rfl⟩,h _ u5 u3 u4 ⟨_,u1,rfl,rfl⟩ ⟨_,u2,rfl,rfl⟩ y5 fun c o x=>Heap.get?_push_of_some _ (Heap.get?_push_of_some _ (Heap.get?_push_of_some _ (Heap.get?_push_of_some _ (Heap.get?_push_of_some _ x))))⟩
noncomputable def JZl (K:PySem.W.Frag) (H0:Hp) (z TI TO i1 i2 a b:Addr) (xs ys:List V):Nat→List V→Hp→Heap→Prop:=fun i zs H h =>
 ZpSt h z TI TO i1 i2 i∧(IsPair h TI (.ref i1) (.ref i2)∧∃ o,h.get? TO=some o)∧h.IsListIter i1 a i∧h.IsListIter i2 b i∧(∀ c∈[z,TI,TO,i1,i2],H c=none)∧zs.length=i∧ZPairs H xs ys zs∧Same H0 H
theorem src_zipl {X:Cx} {pins:List (Addr×Obj)} {σ:St} {H0:Hp} {z TI TO i1 i2 a b:Addr} {xs ys:List V} (fp:∀ c∈[z,TI,TO,i1,i2],FpOk X pins H0 c) (D:ZB z TI TO i1 i2 a b) (ha:SqL X.K H0 a xs) (hb:SqL X.K H0 b ys) :
  Src X pins σ z "zip" (min xs.length ys.length) H0 (JZl X.K H0 z TI TO i1 i2 a b xs ys) where
 ty:=fun i zs H h j=>by
  obtain ⟨vs,e⟩:=j.1.obj
  exact ⟨_,e,rfl⟩
 nl:=by decide
 nolen:=zp_nolen
 nohint:=zp_nohint
 self:=fun A s zs H Q E j q=>by
  rcases j.1 with ⟨_,e,_⟩ | ⟨z,_⟩
  ·exact wpAny_pyIter_zip e q
  ·exact absurd z (Nat.lt_irrefl _)
 keep:=fun i zs H h h' S us us' h0 hS j k al=>by
  obtain ⟨j1,⟨j2,jT⟩,j3,j4,j5,j6,j7,j8⟩:=j
  have ne:∀ c∈[z,TI,TO,i1,i2],c≠S:=fun c hc e=>by
   have:=j5 c hc
   rw [e,hS] at this
   cases this
  refine ⟨?_,⟨k _ _ (ne TI (by simp)) j2,let ⟨o,e⟩:=jT; ⟨o,k _ _ (ne TO (by simp)) e⟩⟩,j3.at fun o e=>k _ _ (ne i1 (by simp)) e,j4.at fun o e=>k _ _ (ne i2 (by simp)) e,fun c hc=>by rw [upd_ne (ne c hc)]; exact j5 c hc,j6,fun m y hy=>?_,j8.over h0⟩
  ·rcases j1 with ⟨z0,e,u,v,e2⟩ | ⟨z0,a0,oa,f1,e,ea,x1,x2,x3⟩
   ·exact .inl ⟨z0,k _ _ (ne z (by simp)) e,u,v,k _ _ (ne TO (by simp)) e2⟩
   ·by_cases hs:a0=S
    ·subst hs
     obtain ⟨o,eo⟩:=al
     exact .inr ⟨z0,a0,o,f1,k _ _ (ne z (by simp)) e,eo,x1,x2,x3⟩
    ·exact .inr ⟨z0,a0,oa,f1,k _ _ (ne z (by simp)) e,k _ _ hs ea,x1,x2,x3⟩
  ·obtain ⟨t,x,y',e1,e2,e3,e4⟩:=j7 m y hy
   exact ⟨t,x,y',e1,e2,e3,by rw [upd_ne (ne_of e4 hS (by intro z; cases z))]; exact e4⟩
 fresh:=fun i zs H h j=>j.2.2.2.2.1 z (by simp)
 item:=fun A i s H zs E hh hi I j=>by
  obtain ⟨j1,⟨j2,jT⟩,j3,j4,j5,j6,j7,j8⟩:=j
  obtain ⟨its,rv,p,hz⟩:=I.list (j8.seq ha)
  obtain ⟨its2,rv2,p2,hz2⟩:=I.list (j8.seq hb)
  have g1:=rv.length
  have g2:=rv2.length
  have l1:i < xs.length:=by omega
  have l2:i < ys.length:=by omega
  have D1:=Draws.list (prog:=X.prog) (w:=X.w) (A:=A.in1) hh i1 a D.a1 its.toArray
  have D2:=Draws.list (prog:=X.prog) (w:=X.w) (A:=A.in1) hh i2 b D.b2 its2.toArray
  refine zp_next D1 D2 D.za j1 j2 jT ⟨j3,p.isList⟩ ⟨j4,p2.isList⟩ (by rw [List.size_toArray]; omega) (by rw [List.size_toArray]; omega) fun x y h' tk px py a1 aT a2 a3 a4 a5 a6=>?_
  have hx':its[i]?=some x:=by simpa using px
  have hy':its2[i]?=some y:=by simpa using py
  obtain ⟨u1,hu1,ru1⟩:=rv.get (List.getElem?_eq_getElem l1)
  obtain ⟨u2,hu2,ru2⟩:=rv2.get (List.getElem?_eq_getElem l2)
  rw [hx'] at hu1
  cases hu1
  rw [hy'] at hu2
  cases hu2
  have hf:H s.heap.objs.size=none:=I.hok.fresh (Nat.le_refl _)
  have fpH:∀ c∈[z,TI,TO,i1,i2],FpOk X pins H c:=fun c hc=>(fp c hc).of (j5 c hc)
  have kk:∀ c o,c ∉ [z,TI,TO,i1,i2]→s.heap.get? c=some o→h'.get? c=some o:=fun c o hc e=>by
   simp only [List.mem_cons,List.not_mem_nil,or_false,not_or] at hc
   exact a6 c o hc.1 hc.2.2.1 hc.2.2.2.1 hc.2.2.2.2 e
  have I2:=I.pairL (tk:=tk) (T:=s.heap.objs.size) (xs:=[xs[i],ys[i]]) (its:=[x,y]) fpH kk (Nat.le_refl _) (.cons ru1 (.cons ru2 .nil)) (by show 2≤sizeLine; decide) ⟨_,a4,rfl,_,rfl⟩
  have sm:Same H (upd H s.heap.objs.size (.tup [xs[i],ys[i]])):=Same.upd hf
  have lt:∀ {c o},s.heap.get? c=some o→c≠s.heap.objs.size:=fun e=>Nat.ne_of_lt (Heap.lt_size e)
  have nw:∀ c∈[z,TI,TO,i1,i2],c≠s.heap.objs.size:=fun c hc=>by
   simp only [List.mem_cons,List.not_mem_nil,or_false] at hc
   rcases hc with rfl | rfl | rfl | rfl | rfl
   ·obtain ⟨_,e⟩:=j1.obj; exact lt e
   ·exact lt j2
   ·obtain ⟨_,e⟩:=jT; exact lt e
   ·obtain ⟨_,e,_⟩:=j3; exact lt e
   ·obtain ⟨_,e,_⟩:=j4; exact lt e
  refine ⟨_,.ref s.heap.objs.size,_,rfl,rfl,I2,⟨a1,⟨a6 _ _ D.TIz D.TITO D.TI1 D.TI2 j2,aT⟩,a2.1,a3.1,fun c hc=>by rw [upd_ne (nw c hc)]; exact j5 c hc,by simp [j6],fun m y hy=>?_,j8.trans sm⟩,fun S us e=>sm S _ e⟩
  by_cases hm:m < i
  ·rw [List.getElem?_append_left (by omega)] at hy
   obtain ⟨t,x,y',e1,e2,e3,e4⟩:=j7 m y hy
   exact ⟨t,x,y',e1,e2,e3,sm _ _ e4⟩
  ·have hlen:=(List.getElem?_eq_some_iff.mp hy).1
   rw [List.length_append,List.length_singleton] at hlen
   have:m=i:=by omega
   subst this
   rw [List.getElem?_append_right (by omega),j6,Nat.sub_self] at hy
   have hy:V.ref s.heap.objs.size=y:=by simpa using hy
   exact ⟨_,xs[m],ys[m],hy.symm,List.getElem?_eq_getElem l1,List.getElem?_eq_getElem l2,upd_same⟩
 done:=fun A s H zs E hh I j=>by
  obtain ⟨j1,⟨j2,jT⟩,j3,j4,j5,j6,j7,j8⟩:=j
  obtain ⟨its,rv,p,hz⟩:=I.list (j8.seq ha)
  obtain ⟨its2,rv2,p2,hz2⟩:=I.list (j8.seq hb)
  have g1:=rv.length
  have g2:=rv2.length
  have D1:=Draws.list (prog:=X.prog) (w:=X.w) (A:=A.in1) hh i1 a D.a1 its.toArray
  have D2:=Draws.list (prog:=X.prog) (w:=X.w) (A:=A.in1) hh i2 b D.b2 its2.toArray
  have fpH:∀ c∈[z,TI,TO,i1,i2],FpOk X pins H c:=fun c hc=>(fp c hc).of (j5 c hc)
  refine zp_end D1 D2 D.za j1 j2 ⟨j3,p.isList⟩ ⟨j4,p2.isList⟩ (by simp only [List.size_toArray]; omega) fun h' tk kk=>⟨rfl,I.turnedL (fun c o hc e=>?_) fpH⟩
  simp only [List.mem_cons,List.not_mem_nil,or_false,not_or] at hc
  exact kk c o hc.1 hc.2.2.1 hc.2.2.2.1 hc.2.2.2.2 e
section
variable {X:Cx}
noncomputable def tListZl (K:PySem.W.Frag) (ta:TA):TE:=fun σ H Q=>ta σ H fun vs H1=>∃ a b xs ys,vs=[.ref a,.ref b]∧SqL K H1 a xs∧SqL K H1 b ys ∧
 ∀ (S:Addr) (zs:List V) (H2:Hp),H1 S=none→Same H1 H2→zs.length=min xs.length ys.length→ZPairs H2 xs ys zs→H2 S=some (.lst zs)→Q (.ref S) H2
theorem qe_list_ziplK (K:PySem.W.Frag) {e e2:Expr} {ta:TA} {p p2 pos pos2:Pos} (hg:Gl X "list") (hm:X.mg "list" = none) (hg2:Gl X "zip") (hm2:X.mg "zip" = none) (ha:QA X [e,e2] ta) (hK:X.K=K:=by rfl) (hc:X.calm=true:=by rfl)
  (hs:starEach [.Call (.Name "zip" p2) [e,e2] [] pos2] X.env=[(false,eval (.Call (.Name "zip" p2) [e,e2] [] pos2) X.env)]:=by rfl) (hs2:starEach [e,e2] X.env=[(false,eval e X.env),(false,eval e2 X.env)]:=by rfl) (hs3:starEach [e2] X.env=[(false,eval e2 X.env)]:=by rfl) :
  QE X (.Call (.Name "list" p) [.Call (.Name "zip" p2) [e,e2] [] pos2] [] pos) (tListZl K ta):=by
 subst hK
 refine ⟨fun pins s σ H Q I h=>?_⟩
 refine Call_ (ld_blt I hg hm boot_list' (PyProof.Rows.callWith_type1 ?_ hs rfl))
 rw [hs]
 show wpAny _ _ (spliced ((false,eval (.Call (.Name "zip" p2) [e,e2] [] pos2) X.env) :: [])) _ _ s
 refine Calls.spliced_cons ?_
 refine Call_ (ld_blt I hg2 hm2 PyProof.Rows.boot_zip (PyProof.Rows.callWith_type1 (thn (ha.run pos2 pins s σ H _ I h) fun us s1 ⟨vs,H1,I1,r1,q1⟩=>?_) (by rw [hs2,hs3]) (by rw [hs3]; rfl)))
 obtain ⟨a,b,xs,ys,e1,hq,hq2,q⟩:=q1
 subst e1
 obtain ⟨u,v,rfl,ru,rv⟩:=r1.two
 cases ru
 cases rv
 obtain ⟨its,rv,pl,hz⟩:=I1.list hq
 obtain ⟨its2,rv2,pl2,hz2⟩:=I1.list hq2
 have lt1:a < s1.heap.objs.size:=by obtain ⟨o,e,_⟩:=pl.isList; exact Heap.lt_size e
 have lt2:b < s1.heap.objs.size:=by obtain ⟨o,e,_⟩:=pl2.isList; exact Heap.lt_size e
 refine call_zipLL pl.isList pl2.isList fun h' a1 a2 a3 a4 a5 a6 hk=>?_
 refine Calls.spliced_nil ?_
 have fr:∀ k,FpOk X pins H1 (s1.heap.objs.size + k):=fun k=>I1.fpOk (Nat.le_add_right _ _) (I1.hok.fresh (Nat.le_add_right _ _))
 have fp:∀ c∈[s1.heap.objs.size + 4,s1.heap.objs.size + 2,s1.heap.objs.size + 3,s1.heap.objs.size,s1.heap.objs.size + 1],FpOk X pins H1 c:=fun c hc=>by
  simp only [List.mem_cons,List.not_mem_nil,or_false] at hc
  rcases hc with rfl | rfl | rfl | rfl | rfl
  ·exact fr 4
  ·exact fr 2
  ·exact fr 3
  ·exact fr 0
  ·exact fr 1
 have C:=src_zipl (X:=X) (pins:=pins) (σ:=σ) (H0:=H1) fp (zb_new lt1 lt2) hq hq2
 have I2:Inv X pins σ H1 { s1 with heap:=h' }:=I1.kept (t':=s1.toks) hk
 refine call_list_src C (by omega) (I1.ok.hd hc) I2 ⟨.inl ⟨rfl,a1,_,_,a3⟩,⟨a2,_,a3⟩,a4,a5,fun c hc=>(fp c hc).1,rfl,fun j y hy=>by simp at hy,Same.refl _⟩ (fun S hge hS h2 k2=>?_) fun S H' zs hS hS' hl' hj=>?_
 ·have sm:Same H1 (upd H1 S (.lst [])):=Same.upd hS
  refine ⟨.inl ⟨rfl,k2 _ _ a1,_,_,k2 _ _ a3⟩,⟨k2 _ _ a2,_,k2 _ _ a3⟩,a4.at fun o e=>k2 _ _ e,a5.at fun o e=>k2 _ _ e,fun c hc=>?_,rfl,fun j y hy=>by simp at hy,sm⟩
  have hge:h'.objs.size≤S:=hge
  rw [upd_ne (show c≠S from fun z=>?_)]
  ·exact (fp c hc).1
  ·simp only [List.mem_cons,List.not_mem_nil,or_false] at hc
   rcases hc with rfl | rfl | rfl | rfl | rfl <;> exact absurd z (Nat.ne_of_lt (Nat.lt_of_lt_of_le (by omega) hge))
 ·obtain ⟨h,j⟩:=hj
  exact q S zs H' hS j.2.2.2.2.2.2.2 hl' j.2.2.2.2.2.2.1 hS'
theorem s_listzl {K:PySem.W.Frag} {ta:TA} {σ:St} {H:Hp} {Q:VK} (h:ta σ H fun vs H1=>∃ a b xs ys,vs=[.ref a,.ref b]∧SqL K H1 a xs∧SqL K H1 b ys ∧
 ∀ (S:Addr) (zs:List V) (H2:Hp),H1 S=none→Same H1 H2→zs.length=min xs.length ys.length→ZPairs H2 xs ys zs→H2 S=some (.lst zs)→Q (.ref S) H2):tListZl K ta σ H Q:=h
end
end L2
namespace L2
open PySem PySem.Spec PySem.Calls PySem.W PyProof.Rows
section
variable {X:Cx}
end
end L2
namespace L2
open PySem PySem.Spec PyProof.Rows
noncomputable def tTry0 (K:PySem.W.Frag) (C:Addr) (tb:TXS) (th:TS):TS:=fun D σ H=>tb D (fun σ1 cls od H2=>(∃ C',cls=.ref C'∧PySem.W.subIn K (.ref C') (.ref C)=some true)∧∀ a,H2 a=none→th D σ1 (upd H2 a (exk a cls od))) σ H
section
variable {X:Cx} {c n:Str} {np hpos pos:Pos} {body hbody:List Stmt} {b₀:Stmt} {tb:TXS} {th:TS} {i:Nat} {C:Addr}
theorem qs_try0 (hC:ExcC X.K C) (G:X.mg c=some (.ref C)) (hf:X.env.frame=some X.env.locals) (hst:X.stack=X.env :: X.outer) (hb:QXS X body tb) (hh:∀ e XE,QSs (X.to (X.A.mark (some e)) false XE) (b₀ :: hbody) th) (hg:Gl X c:=by rfl) (hdb:(c == ("__debug__" : Str))=false:=by decide) :
  QS X (.Try body [.ExceptHandler (some (.Name c np)) none (b₀ :: hbody) hpos] [] [] pos) (tTry0 X.K C tb th):=by
 refine ⟨fun pins s σ H D I h=>?_⟩
 refine wpAny_Try_except (wpAny_mono (hb.run pins s σ H D _ I h) (fun f s1 q=>?_) fun ev s1 q=>?_)
 ·cases f with
  | next=>exact wpAny_execs_nil q
  | ret v=>exact q
  | brk=>exact q
  | cont=>exact q
 ·obtain ⟨σ1,H0,s0,I0,e,T,cls,od,H',rfl,h1,h2,h3,h4,h5,h6,h7,h8,h9,⟨C',rfl,hsub⟩,h10⟩:=q
  have J:Inv X pins σ1 H' s1:=I0.call' (ch:=[]) h1 h3 h4 h2 (fun b z=>absurd z (by simp))
  have hfr:X.A.frames=some (X.env :: X.outer):=by rw [← hst]; exact J.ok.frames
  have hstk:=J.stack
  rw [hst] at hstk
  refine note_next (base:=X.base) hfr hstk hf h9 fun h' T' hT' y m=>flight_none (fs:=frs (X.env :: X.outer)) y fun h'' y' m'=>?_
  have M1:Mvd (frs X.stack) [e,T,T'] s1.heap h'':=by rw [hst]; exact (m.mono (by simp)).trans (m'.mono (by simp))
  have fT':s0.heap.get? T'=none:=by
   cases q:s0.heap.get? T' with
   | none=>rfl
   | some o =>
    obtain ⟨o',z⟩:=h3.there T' o q (by simp)
    exact absurd (Heap.lt_size z) (Nat.not_lt.mpr hT')
  have hT'n:H' T'=none:=J.hok.fresh hT'
  have fx:∀ b∈[e,T,T'],s0.heap.get? b=none∧H' b=none:=by
   intro b hb
   simp only [List.mem_cons,List.not_mem_nil,or_false] at hb
   rcases hb with rfl | rfl | rfl
   ·exact ⟨h5,h7⟩
   ·exact ⟨h6,h8⟩
   ·exact ⟨fT',hT'n⟩
  have land:∀ {h3':Heap},Mvd (frs X.stack) [e,T,T'] s1.heap h3'→Lies h3' e T' (.ref C') od→Inv X pins σ1 (upd H' e (exk e (.ref C') od)) { s1 with heap:=h3' }:=fun {h3'} mm ll =>
   I0.call' (s':={ s1 with heap:=h3' }) (ch:=[]) h1 (h3.land mm (fun b hb=>(fx b hb).1) h5 h7) (h4.land mm (fun b hb=>(fx b hb).2) (fun b hb=>J.stkFree b hb) h7 (exk_ok ll)) h2 (fun b z=>absurd z (by simp))
  have I1:=land M1 y'
  refine wpAny_handleBy_cons (codeAny_handlers_test ?_) (by intro q; cases q)
  have I1':Inv (X.to (X.A.mark (some (.ref e))) false (notedBy (model X.prog X.w) (X.A.mark (some (.ref e))) X.env fun x s₁=>True)) pins σ1 (upd H' e (exk e (.ref C') od)) { s1 with heap:=h'' }:=I1.to rfl (by simp)
  refine ld_glob I1' hg G ?_ hdb
  obtain ⟨oe,vs,oT,ts,a1,a2,a3,a4,a5,a6,a7,a8,a9⟩:=id y'
  refine exc_matches I1.kIn hC a1 a2 hsub ?_
  refine codeAny_handlers_suite (flight_none (fs:=frs X.stack) y' fun h4' y4 m4=>?_)
  have I2:=land (M1.trans (m4.mono (by simp))) y4
  refine wpAny_mono ((hh (.ref e) _).run pins _ _ _ D (I2.to rfl (by simp)) (h10 e h7)) (fun f s4 q=>?_) fun ev s4 q=>q
  cases f with
  | next =>
   obtain ⟨σ',H4,I4,q⟩:=q
   exact ⟨σ',H4,I4.back I.ok,q⟩
  | ret v =>
   obtain ⟨u,σ',H4,I4,r,q⟩:=q
   exact ⟨u,σ',H4,I4.back I.ok,r,q⟩
  | brk =>
   obtain ⟨σ',H4,I4,q⟩:=q
   exact ⟨σ',H4,I4.back I.ok,q⟩
  | cont =>
   obtain ⟨σ',H4,I4,q⟩:=q
   exact ⟨σ',H4,I4.back I.ok,q⟩
end
theorem vals_refs:∀ {Cs:List Addr} {its:List Value},Vals (Cs.map V.ref) its→its=Cs.map Value.ref
 | [],its,h=>by cases h; rfl
 | c :: r,its,h=>by
  cases h with
  | cons a b =>
   rw [vals_refs b]
   have a:_=Value.ref c:=a
   rw [a]
   rfl
noncomputable def rIsZ (K:PySem.W.Frag):List V→Hp→VK→Prop:=fun xs H Q=>∃ a tp C' od b,∃ Cs:List Addr,xs=[.ref a,.ref tp]∧SqT K H tp (Cs.map V.ref)∧H a=some (exk a (.ref C') od)∧(∀ d,od=some d→∃ fs,H d=some (.xd fs))∧ExN K C'∧PySem.W.kitAny K (.ref C') (Cs.map Value.ref)=some b∧Q (.bl b) H
theorem k_isZ {X:Cx} {K:PySem.W.Frag} (hK:X.K=K:=by rfl):CallR X (.builtin "isinstance") (rIsZ K):=by
 subst hK
 intro pins s σ H xs us Q I r h
 obtain ⟨a,tp,C',od,b,Cs,rfl,ht,ea,hd,c,e,q⟩:=h
 obtain ⟨u,v,rfl,ru,rv⟩:=r.two
 obtain rfl:u=Value.ref a:=ru
 obtain rfl:v=Value.ref tp:=rv
 obtain ⟨ox,oo,J⟩:=exk_inst I ea hd
 obtain ⟨its,r1,⟨o,h1,h2,n,h3⟩,_⟩:=I.tuple ht
 have e1:=vals_refs r1
 subst e1
 obtain ⟨oc,od',odt,osl⟩:=o
 have h2:oc=.type "tuple" := h2
 have h3:odt=.seq (Cs.map Value.ref).toArray n:=h3
 subst h2 h3
 exact PySem.W.kia_tup (kitx_exc (ox:=ox) (od:=oo) c) I.kIn J h1 e (fun z=>nomatch z) fun tk=>⟨.bl b,H,I.tok tk,rfl,q⟩
end L2
namespace K44
open PySem L2
noncomputable def top (i:Nat):Stmt:=PySem.Challenge.pw_gapscribe_k44_rec_and_steps.main.body.getD i (.Pass ⟨0,0,0,0⟩)
noncomputable abbrev s_placed_forms:Stmt:=top 7
noncomputable abbrev s_is_finished:Stmt:=top 9
noncomputable abbrev s_names_bound:Stmt:=top 11
noncomputable abbrev s_are_numbers:Stmt:=top 16
noncomputable abbrev s_reckoned:Stmt:=top 17
noncomputable abbrev s_Machine_init:Stmt:=match top 18 with
 | .ClassDef _ _ _ b _ _ _ _ _ _ _=>b.getD 0 (.Pass ⟨0,0,0,0⟩)
 | s=>s
noncomputable abbrev s_Machine_make_steps:Stmt:=match top 18 with
 | .ClassDef _ _ _ b _ _ _ _ _ _ _=>b.getD 1 (.Pass ⟨0,0,0,0⟩)
 | s=>s
noncomputable abbrev s_Machine_new_row:Stmt:=match top 18 with
 | .ClassDef _ _ _ b _ _ _ _ _ _ _=>b.getD 2 (.Pass ⟨0,0,0,0⟩)
 | s=>s
noncomputable abbrev s_Machine_thing_of_form:Stmt:=match top 18 with
 | .ClassDef _ _ _ b _ _ _ _ _ _ _=>b.getD 3 (.Pass ⟨0,0,0,0⟩)
 | s=>s
noncomputable abbrev s_Machine_thing_at_the_end:Stmt:=match top 18 with
 | .ClassDef _ _ _ b _ _ _ _ _ _ _=>b.getD 5 (.Pass ⟨0,0,0,0⟩)
 | s=>s
noncomputable abbrev s_Machine_come_to:Stmt:=match top 18 with
 | .ClassDef _ _ _ b _ _ _ _ _ _ _=>b.getD 6 (.Pass ⟨0,0,0,0⟩)
 | s=>s
noncomputable abbrev s_Machine_thing_of_leaf:Stmt:=match top 18 with
 | .ClassDef _ _ _ b _ _ _ _ _ _ _=>b.getD 7 (.Pass ⟨0,0,0,0⟩)
 | s=>s
noncomputable abbrev s_Machine_go_further:Stmt:=match top 18 with
 | .ClassDef _ _ _ b _ _ _ _ _ _ _=>b.getD 8 (.Pass ⟨0,0,0,0⟩)
 | s=>s
noncomputable abbrev s_Machine_taken_things:Stmt:=match top 18 with
 | .ClassDef _ _ _ b _ _ _ _ _ _ _=>b.getD 9 (.Pass ⟨0,0,0,0⟩)
 | s=>s
noncomputable abbrev s_Machine_is_function:Stmt:=match top 18 with
 | .ClassDef _ _ _ b _ _ _ _ _ _ _=>b.getD 10 (.Pass ⟨0,0,0,0⟩)
 | s=>s
noncomputable abbrev s_Machine_call:Stmt:=match top 18 with
 | .ClassDef _ _ _ b _ _ _ _ _ _ _=>b.getD 11 (.Pass ⟨0,0,0,0⟩)
 | s=>s
noncomputable abbrev s_Machine_go_within:Stmt:=match top 18 with
 | .ClassDef _ _ _ b _ _ _ _ _ _ _=>b.getD 12 (.Pass ⟨0,0,0,0⟩)
 | s=>s
noncomputable abbrev s_run:Stmt:=top 20
noncomputable abbrev s_law_cell:Stmt:=top 22
noncomputable abbrev s_law_mixed:Stmt:=top 23
noncomputable abbrev s_law_same:Stmt:=top 24
noncomputable abbrev s_law_names:Stmt:=top 25
noncomputable abbrev s_law_small:Stmt:=top 26
noncomputable abbrev s_law_tree:Stmt:=top 27
noncomputable abbrev s_law_endless:Stmt:=top 28
noncomputable abbrev s_law_due:Stmt:=top 29
noncomputable abbrev s_law_late:Stmt:=top 30
noncomputable abbrev s_law:Stmt:=top 31
structure Txt (K:W.Frag) (mg:Str→Option Value):Prop where
 reversed:mg "reversed" = none
 list:mg "list" = none
 enumerate:mg "enumerate" = none
 all:mg "all" = none
 len:mg "len" = none
 isinstance:mg "isinstance" = none
 bool:mg "bool" = none
 tuple:mg "tuple" = none
 range:mg "range" = none
 str:mg "str" = none
 int:mg "int" = none
 ValueError:mg "ValueError" = none
 max:mg "max" = none
 dict:mg "dict" = none
 zip:mg "zip" = none
end K44
namespace K44
open PySem L2
structure Script (K:W.Frag) (H:Hp) (a:Addr):Prop where
 ex:∃ ns:List Int,SqL K H a (ns.map V.int)∧ns.length≤63
theorem Script.same {K:W.Frag} {H H':Hp} {a:Addr} (S:Script K H a) (h:Same H H'):Script K H' a:=by
 obtain ⟨ns,q,l⟩:=S.ex
 exact ⟨ns,h.seq q,l⟩
theorem big:100000≤sizeLine:=by decide
end K44
local macro_rules | `(tactic| walk_at "r1")=>`(tactic| (first | (with_reducible first | refine L2.s_seq ?_ | refine L2.s_asg ?_ | refine L2.s_ret ?_ | refine L2.s_ifS ?_ | refine L2.s_test ?_ | refine L2.s_op ?_ | refine L2.s_c ?_ | refine L2.s_cons ?_ | refine L2.s_nil ?_ | refine L2.s_call ?_ | refine L2.s_cb ?_ | refine L2.s_gname ?_ | refine L2.s_ex ?_ | refine L2.s_exi ?_ | refine L2.s_drop ?_ | refine L2.s_next ?_ | refine L2.s_un ?_ | refine L2.s_tB ?_ | refine L2.s_not ?_ | refine L2.s_and ?_ | refine L2.s_or ?_ | refine L2.s_andV ?_ | refine L2.s_orV ?_ | refine L2.s_notV ?_ | refine L2.s_vals ?_ | refine L2.s_tup ?_ | refine L2.s_lst ?_ | refine L2.s_bm ?_ | refine L2.s_bm0 ?_ | refine L2.s_sl ?_ | refine L2.s_po ?_ | refine L2.s_po0 ?_ | refine L2.s_gcons ?_ | refine L2.s_gnil ?_ | refine L2.s_gsub ?_ | refine L2.s_isN ?_ | refine L2.s_notN ?_ | refine L2.s_rI0 ?_ | refine L2.s_rU ?_ | refine L2.s_add_int ?_ | refine L2.s_lt ?_ | refine L2.s_le ?_ | refine L2.iteT ?_ | refine L2.iteF ?_ | refine L2.s_comp ?_ | refine L2.s_for ?_ | refine L2.s_rng1 ?_ | refine L2.s_rng3 ?_ | refine L2.s_exr ?_ | refine L2.s_iany ?_ | refine L2.s_irev ?_ | refine L2.s_ienum ?_ | refine L2.s_listen ?_ | refine L2.s_listrev ?_ | refine L2.s_izip ?_ | refine L2.s_ienumT ?_ | refine L2.s_listzp ?_ | refine L2.s_ipI ?_ | refine L2.s_yes ?_ | refine L2.s_turn ?_ | refine L2.s_int_b ?_ | refine L2.s_intb ?_ | refine L2.s_truth ?_ | refine L2.s_chain ?_ | refine L2.s_nt ?_ | refine L2.s_nf ?_) | ((with_reducible refine' L2.s_var ?e ?_); (case e=>exact rfl)) | ((with_reducible refine' L2.s_aug ?e ?_); (case e=>exact rfl)) | ((with_reducible refine' L2.s_eq ?e ?_); (case e=>exact rfl)) | ((with_reducible refine' L2.s_ne ?e ?_); (case e=>exact rfl)) | ((with_reducible refine' L2.s_neb ?e ?_); (case e=>exact rfl)) | ((with_reducible refine' L2.s_rI ?c ?_); (case c=>first | decide | exact ⟨by decide,by decide⟩ | exact ⟨by decide,by decide,by decide⟩)) | ((with_reducible refine' L2.s_mul_r ?a ?b ?_); (case a=>decide); (case b=>decide)) | ((with_reducible refine' L2.s_mul_l ?a ?b ?_); (case a=>decide); (case b=>decide)) | ((with_reducible refine' L2.s_exr3 ?e ?_); (case e=>decide))))
local macro_rules | `(tactic| walk_at "r")=>`(tactic| (repeat walk_at "r1"))
namespace K44
open PySem L2
section
variable {P:Program} {w:World} {K:W.Frag} {mg:Str→Option Value} {base:Heap}
noncomputable def sp_cell (K:W.Frag):Sp:=fun vs H Q _=>∃ (a:Addr) (k:Int),vs=[.ref a,.int k]∧Script K H a∧0≤k∧k≤1000∧∀ z:Int,Q (.int z) H
theorem sc_law_cell:FnScope ["_law_script", "_law_k"] ["_law_script", "_law_k"] (defScope s_law_cell):=⟨rfl,rfl,rfl,by decide +kernel,rfl,by decide +kernel,by decide +kernel⟩
theorem ok_cell {f:Addr} {fd:FuncData} (F:Fun K "_law_cell" "_law_cell" s_law_cell f fd) (T:Txt K mg):FnOk P w K mg base CX0 1 f fd ["_law_script", "_law_k"] (sp_cell K):=by
 refine F.okq sc_law_cell (fun vs H Q E h=>?_) (fun cdv A outer s H vs Q E hr h=>?_)
 ·obtain ⟨a,k,rfl,_⟩:=h
  rfl
 ·obtain ⟨a,k,rfl,S,h0,h9,q⟩:=h
  obtain ⟨ns,hS,hl⟩:=S.ex
  refine ⟨_,qss_cons (qs_if (qt_cmpR op_ltA (qv 1) (qe_callB (k_len K) (by rfl) T.len (by decide +kernel) (qa_cons (qv 0) qa_nil)) (nomark _)) (qss_one (qs_ret (qe_ix (k_ix K) (qv 0) (qv 1) (fun _ _=>rfl)))) (qss_nil))
   (qss_one (qs_ret (qe_op (k_add K) (qe_op op_mulA (qv 1) (qe_int)) (qe_int)))),?_⟩
  walk_at "r"
  refine s_len_lst hS ?_
  walk_at "r"
  refine ite2 (fun h=>?_) (fun h=>?_)
  ·have h1:k < (ns.map V.int).length:=by simpa using h
   obtain ⟨v,hv,m⟩:=atI_in h0 h1
   obtain ⟨z,_,rfl⟩:=List.mem_map.mp m
   walk_at "r"
   exact s_ix_lst hS hv (q z)
  ·walk_at "r"
   exact q _
noncomputable def sp_mixed:Sp:=fun vs H Q _=>∃ (c k:Int),vs=[.int c,.int k]∧0≤k∧k≤1000∧∀ z:Int,0≤z→z < 999999999999999989→Q (.int z) H
theorem sc_law_mixed:FnScope ["_law_cell_here", "_law_k"] ["_law_cell_here", "_law_k"] (defScope s_law_mixed):=⟨rfl,rfl,rfl,by decide +kernel,rfl,by decide +kernel,by decide +kernel⟩
theorem ok_mixed {f:Addr} {fd:FuncData} (F:Fun K "_law_mixed" "_law_mixed" s_law_mixed f fd) (T:Txt K mg):FnOk P w K mg base CX0 1 f fd ["_law_cell_here", "_law_k"] sp_mixed:=by
 refine F.okq sc_law_mixed (fun vs H Q E h=>?_) (fun cdv A outer s H vs Q E hr h=>?_)
 ·obtain ⟨a,k,rfl,_⟩:=h
  rfl
 ·obtain ⟨a,k,rfl,h0,h9,q⟩:=h
  refine ⟨_,qss_one (qs_ret (qe_op op_mod (qe_op op_mulA (qe_op (k_add K) (qe_op (k_add K) (qv 0) (qe_op op_mulA (qe_int) (qv 1))) (qe_int)) (qe_int)) (qe_int))),?_⟩
  walk_at "r"
  exact q _ (Int.emod_nonneg _ (by decide)) (Int.emod_lt_of_pos _ (by decide))
noncomputable def sp_same (K:W.Frag) (n:Nat):Sp:=fun vs H Q _=>∃ (x y:V) (d:Dt) (m:Nat),vs=[x,y]∧m < n∧IsD K H m x d∧IsD K H m y d∧DOk d∧∀ H',Same H H'→Q (.bl true) H'
theorem sc_law_same:FnScope ["_law_found", "_law_due_here", "_law_k"] ["_law_found", "_law_due_here"] (defScope s_law_same):=⟨rfl,rfl,rfl,by decide +kernel,rfl,by decide +kernel,by decide +kernel⟩
theorem ok_same {n:Nat} {f:Addr} {fd:FuncData} (F:Fun K "_law_same" "_law_same" s_law_same f fd) (T:Txt K mg) (C__law_same:Callee P w K mg base (n + 1) "_law_same" ["_law_found", "_law_due_here"] (sp_same K n)):FnOk P w K mg base CX0 (n + 2) f fd ["_law_found", "_law_due_here"] (sp_same K (n + 1)):=by
 refine F.okq sc_law_same (fun vs H Q E h=>?_) (fun cdv A outer s H vs Q E hr h=>?_)
 ·obtain ⟨x,y,d,m,rfl,_⟩:=h
  rfl
 ·obtain ⟨x,y,d,m,rfl,hm,hx,hy,hd,q⟩:=h
  refine ⟨_,qss_cons (qs_if (QW.qt (qw_or (qt_val (qe_callB (k_isi K "bool") (by rfl) T.isinstance (by decide +kernel) (qa_cons (qv 0) (qa_cons (qe_bltn (v:=.ty "bool") (by rfl) T.bool (by decide +kernel) rfl) qa_nil)))) (qw_or1 (qt_val (qe_callB (k_isi K "bool") (by rfl) T.isinstance (by decide +kernel) (qa_cons (qv 1) (qa_cons (qe_bltn (v:=.ty "bool") (by rfl) T.bool (by decide +kernel) rfl) qa_nil))))))) (qss_one (qs_ret (qe_and (qe_callB (k_isi K "bool") (by rfl) T.isinstance (by decide +kernel) (qa_cons (qv 0) (qa_cons (qe_bltn (v:=.ty "bool") (by rfl) T.bool (by decide +kernel) rfl) qa_nil))) (qe_and (qe_callB (k_isi K "bool") (by rfl) T.isinstance (by decide +kernel) (qa_cons (qv 1) (qa_cons (qe_bltn (v:=.ty "bool") (by rfl) T.bool (by decide +kernel) rfl) qa_nil))) (qe_one (qe_cmpR (k_eq K hr.u200) (qv 0) (qv 1) (nomark _))))))) (qss_nil))
   (qss_cons (qs_if (QW.qt (qw_or (qt_val (qe_callB (k_isi K "list") (by rfl) T.isinstance (by decide +kernel) (qa_cons (qv 1) (qa_cons (qe_bltn (v:=.ty "list") (by rfl) T.list (by decide +kernel) rfl) qa_nil)))) (qw_or1 (qt_val (qe_callB (k_isi K "tuple") (by rfl) T.isinstance (by decide +kernel) (qa_cons (qv 1) (qa_cons (qe_bltn (v:=.ty "tuple") (by rfl) T.tuple (by decide +kernel) rfl) qa_nil))))))) (qss_cons (qs_if (QW.qt (qw_and (qt_not (qt_val (qe_callB (k_isi K "list") (by rfl) T.isinstance (by decide +kernel) (qa_cons (qv 0) (qa_cons (qe_bltn (v:=.ty "list") (by rfl) T.list (by decide +kernel) rfl) qa_nil))))) (qw_and1 (qt_not (qt_val (qe_callB (k_isi K "tuple") (by rfl) T.isinstance (by decide +kernel) (qa_cons (qv 0) (qa_cons (qe_bltn (v:=.ty "tuple") (by rfl) T.tuple (by decide +kernel) rfl) qa_nil)))))))) (qss_one (qs_ret (qe_bl))) (qss_nil))
   (qss_cons (qs_if (QW.qt (qw_or (qt_cmpR (k_ne K hr.u200) (qe_callB (k_isi K "list") (by rfl) T.isinstance (by decide +kernel) (qa_cons (qv 0) (qa_cons (qe_bltn (v:=.ty "list") (by rfl) T.list (by decide +kernel) rfl) qa_nil))) (qe_callB (k_isi K "list") (by rfl) T.isinstance (by decide +kernel) (qa_cons (qv 1) (qa_cons (qe_bltn (v:=.ty "list") (by rfl) T.list (by decide +kernel) rfl) qa_nil))) (nomark _)) (qw_or1 (qt_cmpR (k_ne K hr.u200) (qe_callB (k_len K) (by rfl) T.len (by decide +kernel) (qa_cons (qv 0) qa_nil)) (qe_callB (k_len K) (by rfl) T.len (by decide +kernel) (qa_cons (qv 1) qa_nil)) (nomark _))))) (qss_one (qs_ret (qe_bl))) (qss_nil))
   (qss_cons (qs_for PassesOwn.never rfl (qi_range1 rfl T.range (qa_cons (qe_callB (k_len K) (by rfl) T.len (by decide +kernel) (qa_cons (qv 1) qa_nil)) qa_nil)) (qg_name (i:=2) sc_law_same.nd rfl (Or.inl rfl)) (qss_one (qs_if (qt_not (qt_val (qe_fn C__law_same (hr.mono (by omega)) (qa_cons (qe_ix (k_ix K) (qv 0) (qv 2) (fun _ _=>rfl)) (qa_cons (qe_ix (k_ix K) (qv 1) (qv 2) (fun _ _=>rfl)) qa_nil))))) (qss_one (qs_ret (qe_bl))) (qss_nil))))
   (qss_one (qs_ret (qe_bl)))))) (qss_nil))
   (qss_cons (qs_if (qt_val (qe_callB (k_isi K "str") (by rfl) T.isinstance (by decide +kernel) (qa_cons (qv 1) (qa_cons (qe_bltn (v:=.ty "str") (by rfl) T.str (by decide +kernel) rfl) qa_nil)))) (qss_one (qs_ret (qe_and (qe_callB (k_isi K "str") (by rfl) T.isinstance (by decide +kernel) (qa_cons (qv 0) (qa_cons (qe_bltn (v:=.ty "str") (by rfl) T.str (by decide +kernel) rfl) qa_nil))) (qe_one (qe_cmpR (k_eq K hr.u200) (qv 0) (qv 1) (nomark _)))))) (qss_nil))
   (qss_cons (qs_if (qt_val (qe_callB (k_isi K "int") (by rfl) T.isinstance (by decide +kernel) (qa_cons (qv 1) (qa_cons (qe_bltn (v:=.ty "int") (by rfl) T.int (by decide +kernel) rfl) qa_nil)))) (qss_one (qs_ret (qe_and (qe_callB (k_isi K "int") (by rfl) T.isinstance (by decide +kernel) (qa_cons (qv 0) (qa_cons (qe_bltn (v:=.ty "int") (by rfl) T.int (by decide +kernel) rfl) qa_nil))) (qe_one (qe_cmpR (k_eq K hr.u200) (qv 0) (qv 1) (nomark _)))))) (qss_nil))
   (qss_one (qs_ret (qe_and (qe_cmp (qc_isN (qv 0))) (qe_one (qe_cmp (qc_isN (qv 1)))))))))),?_⟩
  have bg:=big
  cases hx with
  | flat hv =>
   cases hy with
   | flat _ =>
   cases x with
   | non =>
    walk_at "r"
    refine s_isi (b:=false) .non rfl ?_
    walk_at "r"
    refine s_isi (b:=false) .non rfl ?_
    walk_at "r"
    refine s_isi (b:=false) .non rfl ?_
    walk_at "r"
    refine s_isi (b:=false) .non rfl ?_
    walk_at "r"
    refine s_isi (b:=false) .non rfl ?_
    walk_at "r"
    refine s_isi (b:=false) .non rfl ?_
    walk_at "r"
    rw [decide_eq_true (Eq.refl _)]
    walk_at "r"
    rw [decide_eq_true (Eq.refl _)]
    walk_at "r"
    exact q H (Same.refl _)
   | bl b =>
    walk_at "r"
    refine s_isi (b:=true) (.bl b) rfl ?_
    walk_at "r"
    refine s_isi (b:=true) (.bl b) rfl ?_
    walk_at "r"
    refine s_isi (b:=true) (.bl b) rfl ?_
    walk_at "r"
    rw [decide_eq_true (Eq.refl _)]
    walk_at "r"
    exact q H (Same.refl _)
   | int b =>
    walk_at "r"
    refine s_isi (b:=false) (.int b) rfl ?_
    walk_at "r"
    refine s_isi (b:=false) (.int b) rfl ?_
    walk_at "r"
    refine s_isi (b:=false) (.int b) rfl ?_
    walk_at "r"
    refine s_isi (b:=false) (.int b) rfl ?_
    walk_at "r"
    refine s_isi (b:=false) (.int b) rfl ?_
    walk_at "r"
    refine s_isi (b:=true) (.int b) rfl ?_
    walk_at "r"
    refine s_isi (b:=true) (.int b) rfl ?_
    walk_at "r"
    rw [decide_eq_true (Eq.refl _)]
    walk_at "r"
    exact q H (Same.refl _)
   | str b =>
    walk_at "r"
    refine s_isi (b:=false) (.str b) rfl ?_
    walk_at "r"
    refine s_isi (b:=false) (.str b) rfl ?_
    walk_at "r"
    refine s_isi (b:=false) (.str b) rfl ?_
    walk_at "r"
    refine s_isi (b:=false) (.str b) rfl ?_
    walk_at "r"
    refine s_isi (b:=true) (.str b) rfl ?_
    walk_at "r"
    refine s_isi (b:=true) (.str b) rfl ?_
    walk_at "r"
    rw [decide_eq_true (Eq.refl _)]
    walk_at "r"
    exact q H (Same.refl _)
   | _=>exact absurd hv (by simp [flatV])
  | @tup k a vs ds qa la ha =>
   cases hy with
   | @tup _ c ws _ qc lc hc =>
   cases hd with
   | tup hl hds =>
   walk_at "r"
   refine s_isiT (b:=false) qa rfl ?_
   walk_at "r"
   refine s_isiT (b:=false) qc rfl ?_
   walk_at "r"
   refine s_isiT (b:=false) qc rfl ?_
   walk_at "r"
   refine s_isiT (b:=true) qc rfl ?_
   walk_at "r"
   refine s_isiT (b:=false) qa rfl ?_
   walk_at "r"
   refine s_isiT (b:=true) qa rfl ?_
   walk_at "r"
   refine s_isiT (b:=false) qa rfl ?_
   walk_at "r"
   refine s_isiT (b:=false) qc rfl ?_
   walk_at "r"
   rw [decide_eq_true (Eq.refl _)]
   walk_at "r"
   refine s_len_tup qa ?_
   walk_at "r"
   refine s_len_tup qc ?_
   walk_at "r"
   rw [la,lc,decide_eq_true (Eq.refl _)]
   walk_at "r"
   refine s_len_tup qc ?_
   walk_at "r"
   rw [lc]
   refine ⟨by omega,by omega,?_⟩
   refine for_range (n:=(ds.length:Int).toNat) (fun i σ' H'=>∃ v2,σ'=[some (.ref a),some (.ref c),v2]∧Same H H') ⟨none,rfl,Same.refl _⟩ ?_ ?_
   ·rintro i σ' H' hi ⟨v2,rfl,sm⟩
    have hi:i < ds.length:=by omega
    have e0:(0:Int) + (i:Int)=((i:Nat):Int):=by omega
    rw [e0]
    have hiv:i < vs.length:=by omega
    have hiw:i < ws.length:=by omega
    walk_at "r"
    refine s_ix_tup (sm.tup qa) (atI_nat (List.getElem?_eq_getElem hiv)) ?_
    walk_at "r"
    refine s_ix_tup (sm.tup qc) (atI_nat (List.getElem?_eq_getElem hiw)) ?_
    walk_at "r"
    refine ⟨vs[i],ws[i],ds[i],k,rfl,by omega,(ha i _ _ (List.getElem?_eq_getElem hiv) (List.getElem?_eq_getElem hi)).same sm,(hc i _ _ (List.getElem?_eq_getElem hiw) (List.getElem?_eq_getElem hi)).same sm,hds _ (List.getElem_mem hi),fun H2 s2=>?_⟩
    walk_at "r"
    exact ⟨_,rfl,sm.trans s2⟩
   ·rintro σ' H' ⟨v2,rfl,sm⟩
    walk_at "r"
    exact q H' sm
  | @lst k a vs ds qa la ha =>
   cases hy with
   | @lst _ c ws _ qc lc hc =>
   cases hd with
   | lst hl hds =>
   walk_at "r"
   refine s_isiL (b:=false) qa rfl ?_
   walk_at "r"
   refine s_isiL (b:=false) qc rfl ?_
   walk_at "r"
   refine s_isiL (b:=true) qc rfl ?_
   walk_at "r"
   refine s_isiL (b:=true) qa rfl ?_
   walk_at "r"
   refine s_isiL (b:=true) qa rfl ?_
   walk_at "r"
   refine s_isiL (b:=true) qc rfl ?_
   walk_at "r"
   rw [decide_eq_true (Eq.refl _)]
   walk_at "r"
   refine s_len_lst qa ?_
   walk_at "r"
   refine s_len_lst qc ?_
   walk_at "r"
   rw [la,lc,decide_eq_true (Eq.refl _)]
   walk_at "r"
   refine s_len_lst qc ?_
   walk_at "r"
   rw [lc]
   refine ⟨by omega,by omega,?_⟩
   refine for_range (n:=(ds.length:Int).toNat) (fun i σ' H'=>∃ v2,σ'=[some (.ref a),some (.ref c),v2]∧Same H H') ⟨none,rfl,Same.refl _⟩ ?_ ?_
   ·rintro i σ' H' hi ⟨v2,rfl,sm⟩
    have hi:i < ds.length:=by omega
    have e0:(0:Int) + (i:Int)=((i:Nat):Int):=by omega
    rw [e0]
    have hiv:i < vs.length:=by omega
    have hiw:i < ws.length:=by omega
    walk_at "r"
    refine s_ix_lst (sm.seq qa) (atI_nat (List.getElem?_eq_getElem hiv)) ?_
    walk_at "r"
    refine s_ix_lst (sm.seq qc) (atI_nat (List.getElem?_eq_getElem hiw)) ?_
    walk_at "r"
    refine ⟨vs[i],ws[i],ds[i],k,rfl,by omega,(ha i _ _ (List.getElem?_eq_getElem hiv) (List.getElem?_eq_getElem hi)).same sm,(hc i _ _ (List.getElem?_eq_getElem hiw) (List.getElem?_eq_getElem hi)).same sm,hds _ (List.getElem_mem hi),fun H2 s2=>?_⟩
    walk_at "r"
    exact ⟨_,rfl,sm.trans s2⟩
   ·rintro σ' H' ⟨v2,rfl,sm⟩
    walk_at "r"
    exact q H' sm
noncomputable def LETS:Str := "abcdefghijklmnopqrstuvwxyz_"
theorem lets_len:LETS.cps.toList.length=27:=by decide +kernel
theorem lets_size:LETS.length≤sizeLine:=by decide +kernel
theorem catlen (u v:Str):(u++v).length=u.length + v.length:=by
 show (u.cps++v.cps).size=_
 simp [Str.length]
theorem one_len (c:Nat):(⟨#[c]⟩:Str).length=1:=rfl
noncomputable def sp_names:Sp:=fun vs H Q _=>∃ (a:Int),vs=[.int a,.int 2]∧∀ (p:Addr) (t0 t1:Str) (H':Hp),Same H H'→H p=none→t0≠t1→H' p=some (.lst [.str t0,.str t1])→Q (.ref p) H'
theorem sc_law_names:FnScope ["_law_cell_here", "_law_many", "_law_signs", "_law_kept", "_law_size", "_law_at", "_law_names_here", "_law_k", "_law_word", "_law_j", "_law_step"] ["_law_cell_here", "_law_many"] (defScope s_law_names):=⟨rfl,rfl,rfl,by decide +kernel,rfl,by decide +kernel,by decide +kernel⟩
theorem twoX {α:Type} {xs:List α} (h:xs.length=2):∃ a b,xs=[a,b]:=by
 match xs,h with
 | [a,b],_=>exact ⟨a,b,rfl⟩
noncomputable def atN (a:Int):Int:=a / 8 % (1 + a % 8)
noncomputable def LetJ (a:Int) (j:Nat) (t:Str):Prop:=∃ c,t.cps.toList[(atN a).toNat]?=some c∧atI LETS.cps.toList ((a / 64 / (atN a + 1) + 5 * atN a + (0 + (j:Int)) * 1) % 27)=some c
theorem cat_cps (t u:Str):(t++u).cps.toList=t.cps.toList++u.cps.toList:=by
 show (t.cps++u.cps).toList=_
 simp
theorem LetJ.app {a:Int} {j:Nat} {t:Str} (h:LetJ a j t) (u:Str):LetJ a j (t++u):=by
 obtain ⟨c,h1,h2⟩:=h
 refine ⟨c,?_,h2⟩
 rw [cat_cps,List.getElem?_append_left (List.getElem?_eq_some_iff.mp h1).1]
 exact h1
theorem lets_inj:∀ i,i < 27→∀ j,j < 27→LETS.cps.toList[i]?=LETS.cps.toList[j]?→i=j:=by decide +kernel
theorem atI_inv {α:Type} {xs:List α} {i:Int} {x:α} (h0:0≤i) (h:atI xs i=some x):xs[i.toNat]?=some x:=by
 unfold atI ixN at h
 rw [if_pos h0] at h
 by_cases hl:i < (xs.length:Int)
 ·rw [if_pos hl] at h
  simpa using h
 ·rw [if_neg hl] at h
  simp at h
theorem LetJ.ne {a:Int} {t0 t1:Str} (h0:LetJ a 0 t0) (h1:LetJ a 1 t1):t0≠t1:=by
 rintro rfl
 obtain ⟨c,g,e⟩:=h0
 obtain ⟨c',g',e'⟩:=h1
 rw [g] at g'
 cases g'
 generalize a / 64 / (atN a + 1) + 5 * atN a=E at e e'
 have b0:=Int.emod_nonneg (E + (0 + ((0:Nat):Int)) * 1) (show (27:Int)≠0 by decide)
 have b1:=Int.emod_lt_of_pos (E + (0 + ((0:Nat):Int)) * 1) (show (0:Int) < 27 by decide)
 have c0:=Int.emod_nonneg (E + (0 + ((1:Nat):Int)) * 1) (show (27:Int)≠0 by decide)
 have c1:=Int.emod_lt_of_pos (E + (0 + ((1:Nat):Int)) * 1) (show (0:Int) < 27 by decide)
 have:=lets_inj _ (by omega) _ (by omega) ((atI_inv b0 e).trans (atI_inv c0 e').symm)
 omega
noncomputable def KEPT:List V:=[.str "let",.str "in",.str "if",.str "then",.str "else",.str "fn",.str "rec",.str "yes",.str "no"]
noncomputable def NmJ (H:Hp) (a:Int) (D p:Addr) (j:Nat) (σ':St) (H':Hp):Prop:=∃ (v7 v8 v9 v10:Option V) (ts:List Str),σ'=[some (.int a),some (.int 2),some (.str LETS),some (.ref D),some (.int (1 + a % 8)),some (.int (a / 8 % (1 + a % 8))),some (.ref p),v7,v8,v9,v10]∧H' D=some (.lst KEPT)∧H' p=some (.lst (ts.map V.str))∧ts.length=j∧Same H H'∧∀ (i:Nat) (x:Str),ts[i]?=some x→LetJ a i x
theorem ok_names {f:Addr} {fd:FuncData} (F:Fun K "_law_names" "_law_names" s_law_names f fd) (T:Txt K mg) (C__law_mixed:Callee P w K mg base 1 "_law_mixed" ["_law_cell_here", "_law_k"] sp_mixed):FnOk P w K mg base CX0 2 f fd ["_law_cell_here", "_law_many"] sp_names:=by
 refine F.okq sc_law_names (fun vs H Q E h=>?_) (fun cdv A outer s H vs Q E hr h=>?_)
 ·obtain ⟨a,rfl,_⟩:=h
  rfl
 ·obtain ⟨a0,rfl,q⟩:=h
  refine ⟨_,qss_cons (qs_set (i:=2) sc_law_names.nd rfl (Or.inl rfl) (qe_str))
   (qss_cons (qs_set (i:=3) sc_law_names.nd rfl (Or.inl rfl) (qe_lst (qa_consts (xs:=[.str "let",.str "in",.str "if",.str "then",.str "else",.str "fn",.str "rec",.str "yes",.str "no"]) rfl)))
   (qss_cons (qs_set (i:=0) sc_law_names.nd rfl (Or.inl rfl) (qe_fn C__law_mixed (hr.mono (by decide)) (qa_cons (qv 0) (qa_cons (qe_int) qa_nil))))
   (qss_cons (qs_set (i:=4) sc_law_names.nd rfl (Or.inl rfl) (qe_op (k_add K) (qe_int) (qe_op op_mod (qv 0) (qe_int))))
   (qss_cons (qs_set (i:=5) sc_law_names.nd rfl (Or.inl rfl) (qe_op op_mod (qe_op op_fdiv (qv 0) (qe_int)) (qv 4)))
   (qss_cons (qs_set (i:=6) sc_law_names.nd rfl (Or.inl rfl) (qe_lst (qa_nil)))
   (qss_cons (qs_for PassesOwn.never rfl (qi_range1 rfl T.range (qa_cons (qv 1) qa_nil)) (qg_name (i:=7) sc_law_names.nd rfl (Or.inl rfl)) (qss_cons (qs_set (i:=8) sc_law_names.nd rfl (Or.inl rfl) (qe_str))
   (qss_cons (qs_for PassesOwn.never rfl (qi_range1 rfl T.range (qa_cons (qv 4) qa_nil)) (qg_name (i:=9) sc_law_names.nd rfl (Or.inl rfl)) (qss_cons (qs_set (i:=10) sc_law_names.nd rfl (Or.inl rfl) (qe_op (k_add K) (qe_op op_fdiv (qe_op op_fdiv (qv 0) (qe_int)) (qe_op (k_add K) (qv 9) (qe_int))) (qe_op op_mulA (qe_int) (qv 9))))
   (qss_one (qs_set (i:=8) sc_law_names.nd rfl (Or.inl rfl) (qe_op (k_add K) (qv 8) (qe_ix (k_ix K) (qv 2) (qe_op op_mod (qe_op (k_add K) (qv 10) (qe_op op_mulA (qv 7) (qe_callTy k_int (by rfl) T.int (by decide +kernel) (qa_cons (qe_cmpR (k_eq K hr.u200) (qv 9) (qv 5) (nomark _)) qa_nil)))) (qe_int)) (fun _ _=>rfl)))))))
   (qss_cons (qs_if (qt_cmpR (k_in K) (qv 8) (qv 3) (by rfl)) (qss_one (qs_set (i:=8) sc_law_names.nd rfl (Or.inl rfl) (qe_op (k_add K) (qv 8) (qe_str)))) (qss_nil))
   (qss_one (qs_expr (qe_bmK K PySem.F.plainAttrs_list PySem.F.slot_list_append PySem.F.type_list_append mt_append (qv 6) (qa_cons (qv 8) qa_nil))))))))
   (qss_one (qs_ret (qv 6))))))))),?_⟩
  have bg:=big
  walk_at "r"
  refine ⟨by show 9≤sizeLine; decide,fun D hD=>?_⟩
  walk_at "r"
  refine ⟨a0,3,rfl,by decide,by decide,fun a ha0 ha1=>?_⟩
  have hs0:0≤a % 8:=Int.emod_nonneg a (by decide)
  have hs1:a % 8 < 8:=Int.emod_lt_of_pos a (by decide)
  walk_at "r"
  refine s_rI (by show (0:Int) < 1 + a % 8; omega) ?_
  walk_at "r"
  refine ⟨by show 0≤sizeLine; decide,fun p hp=>?_⟩
  have hpD:D≠p:=fun z=>by rw [← z,upd_same] at hp; cases hp
  have hp0:H p=none:=(Same.upd hD).free hp
  have sm0:Same H (upd (upd H D (.lst KEPT)) p (.lst [])):=(Same.upd (o:=.lst KEPT) hD).put hp
  have hD0:upd (upd H D (.lst KEPT)) p (.lst []) D=some (.lst KEPT):=by rw [upd_ne hpD]; exact upd_same
  walk_at "r"
  refine ⟨by decide,by decide,?_⟩
  have hat:0≤atN a∧atN a < 1 + a % 8:=⟨Int.emod_nonneg _ (by omega),Int.emod_lt_of_pos _ (by omega)⟩
  refine for_range (n:=2) (NmJ H a D p) ⟨_,_,_,_,[],rfl,hD0,upd_same,rfl,sm0,fun i x h=>by simp at h⟩ ?_ ?_
  ·rintro j σ' H2 hj ⟨v7,v8,v9,v10,ts,rfl,hD2,hp2,hl2,sm2,lt2⟩
   walk_at "r"
   refine ⟨by omega,by omega,?_⟩
   refine for_range (n:=(1 + a % 8).toNat) (fun k σ' H'=>∃ v9 v10 t,σ'=[some (.int a),some (.int 2),some (.str LETS),some (.ref D),some (.int (1 + a % 8)),some (.int (a / 8 % (1 + a % 8))),some (.ref p),some (.int (0 + j)),some (.str t),v9,v10]∧t.length=k∧((atN a).toNat < k→LetJ a j t)∧H'=H2) ⟨_,_,Str.empty,rfl,rfl,(fun h=>absurd h (Nat.not_lt_zero _)),rfl⟩ ?_ ?_
   ·rintro k σ' H3 hk ⟨v9',v10',t,rfl,hl3,lt3,rfl⟩
    walk_at "r"
    refine s_rI (by show (0:Int) < 0 + k + 1∧(0:Int) + k + 1 < 1073741824; omega) ?_
    walk_at "r"
    refine s_mul_r (by split <;> decide) (by split <;> decide) ?_
    walk_at "r"
    obtain ⟨c,hc,_⟩:=atI_in (xs:=LETS.cps.toList) (i:=(a / 64 / (0 + (k:Int) + 1) + 5 * (0 + (k:Int)) + (0 + (j:Int)) * (if decide (V.int (0 + (k:Int))=V.int (a / 8 % (1 + a % 8)))=true then 1 else 0)) % 27) (Int.emod_nonneg _ (by decide)) (by rw [lets_len]; exact Int.emod_lt_of_pos _ (by decide))
    refine s_ix_str lets_size hc ?_
    refine s_add_str (by rw [one_len]; omega) ?_
    refine ⟨_,_,_,rfl,by rw [catlen,one_len]; omega,fun hlt=>?_,rfl⟩
    by_cases hk2:(atN a).toNat < k
    ·exact (lt3 hk2).app _
    ·have ek:(0:Int) + (k:Int)=atN a:=by omega
     have en:(atN a).toNat=t.cps.toList.length:=by
      have:t.cps.toList.length=t.length:=by simp [Str.length]
      omega
     refine ⟨c,?_,?_⟩
     ·rw [cat_cps,en]
      simp
     ·rw [← hc,ek,decide_eq_true (show V.int (atN a)=V.int (a / 8 % (1 + a % 8)) from rfl),if_pos rfl]
   ·rintro σ' H3 ⟨v9',v10',t,rfl,hl3,lt3,rfl⟩
    walk_at "r"
    refine s_in_seq (.inl (SqL.of hD2)) rfl rfl ?_
    have ltE:LetJ a j t:=lt3 (by omega)
    have fin:∀ (t':Str),LetJ a j t'→NmJ H a D p (j + 1) [some (.int a),some (.int 2),some (.str LETS),some (.ref D),some (.int (1 + a % 8)),some (.int (a / 8 % (1 + a % 8))),some (.ref p),some (.int (0 + (j:Int))),some (.str t'),v9',v10'] (upd H3 p (.lst (ts.map V.str++[.str t']))):=fun t' lt' =>
     ⟨_,_,_,_,ts++[t'],rfl,by rw [upd_ne hpD]; exact hD2,by rw [upd_same,List.map_append]; rfl,by simp [hl2],sm2.over hp0,fun i x hx=>by
      by_cases hi:i < ts.length
      ·rw [List.getElem?_append_left hi] at hx
       exact lt2 i x hx
      ·have hi2:i < (ts++[t']).length:=(List.getElem?_eq_some_iff.mp hx).1
       rw [List.length_append,List.length_singleton] at hi2
       have ei:i=ts.length:=by omega
       rw [ei,List.getElem?_concat_length] at hx
       cases hx
       rw [ei,hl2]
       exact lt'⟩
    walk_at "r"
    refine ite2 (fun _=>?_) (fun _=>?_)
    ·walk_at "r"
     have l1:(Str.ofString "_").length=1:=by decide +kernel
     refine s_add_str (by rw [l1]; omega) ?_
     walk_at "r"
     refine s_tyL (SqL.of hp2) ?_
     walk_at "r"
     refine s_app hp2 (by rw [List.length_map]; omega) ?_
     exact fin _ (ltE.app _)
    ·walk_at "r"
     refine s_tyL (SqL.of hp2) ?_
     walk_at "r"
     refine s_app hp2 (by rw [List.length_map]; omega) ?_
     exact fin _ ltE
  ·rintro σ' H2 ⟨v7,v8,v9,v10,ts,rfl,hD2,hp2,hl2,sm2,lt2⟩
   obtain ⟨t0,t1,rfl⟩:=twoX hl2
   walk_at "r"
   exact q p _ _ _ sm2 hp0 ((lt2 0 t0 rfl).ne (lt2 1 t1 rfl)) hp2
noncomputable def sp_small:Sp:=fun vs H Q _=>∃ c m:Int,vs=[.int c,.int m]∧0 < m∧∀ z:Int,0 < z→Q (.int z) H
theorem sc_law_small:FnScope ["_law_cell_here", "_law_many"] ["_law_cell_here", "_law_many"] (defScope s_law_small):=⟨rfl,rfl,rfl,by decide +kernel,rfl,by decide +kernel,by decide +kernel⟩
theorem ok_small {f:Addr} {fd:FuncData} (F:Fun K "_law_small" "_law_small" s_law_small f fd) (T:Txt K mg):FnOk P w K mg base CX0 1 f fd ["_law_cell_here", "_law_many"] sp_small:=by
 refine F.okq sc_law_small (fun vs H Q E h=>?_) (fun cdv A outer s H vs Q E hr h=>?_)
 ·obtain ⟨c,m,rfl,_⟩:=h
  rfl
 ·obtain ⟨c,m,rfl,hm,q⟩:=h
  refine ⟨_,qss_cons (qs_if (qt_cmpR (k_eq K hr.u200) (qe_op op_mod (qv 0) (qe_int)) (qe_int) (nomark _)) (qss_one (qs_ret (qe_op (k_add K) (qe_int) (qe_op op_mod (qe_op op_fdiv (qv 0) (qe_int)) (qe_int))))) (qss_nil))
   (qss_one (qs_ret (qe_op (k_add K) (qe_int) (qe_op op_mod (qe_op op_mulA (qv 0) (qe_int)) (qv 1))))),?_⟩
  walk_at "r"
  refine ite2 (fun h=>?_) (fun h=>?_)
  ·walk_at "r"
   have:=Int.emod_nonneg (c / 3) (show (3:Int)≠0 by decide)
   exact q _ (by omega)
  walk_at "r"
  refine s_rI hm ?_
  walk_at "r"
  have:=Int.emod_nonneg (c * 2862933555777941757) (show m≠0 by omega)
  exact q _ (by omega)
end
end K44
namespace K44
open PySem L2
noncomputable def partsA (wd:Str):Option (List Int):=if wd∈(["plus", "minus", "less", "call"]:List Str) then some [1,0] else if wd∈(["if", "let"]:List Str) then some [0] else none
noncomputable def WA:List Str:=["gap", "fn", "rec", "if"]
structure Mc (K:W.Frag) (C:Addr):Prop where
 cl:Cls K C
 nf:NoAttr K C "forms"
 nr:NoAttr K C "rows"
 nw:NoAttr K C "waiting"
 nt:NoAttr K C "things"
 ns:NoAttr K C "steps"
theorem fs_forms (L:Ml) (n:Int):(L.fs n).lookup ("forms" : Str)=some (V.ref L.fd):=rfl
theorem fs_rows (L:Ml) (n:Int):(L.fs n).lookup ("rows" : Str)=some (V.ref L.rd):=rfl
theorem fs_wait (L:Ml) (n:Int):(L.fs n).lookup ("waiting" : Str)=some (V.ref L.wd):=rfl
theorem fs_things (L:Ml) (n:Int):(L.fs n).lookup ("things" : Str)=some (V.ref L.td):=rfl
theorem fs_steps (L:Ml) (n:Int):(L.fs n).lookup ("steps" : Str)=some (V.int n):=rfl
theorem fs_put (L:Ml) (n k:Int):putF "steps" (.int k) (L.fs n)=L.fs k:=rfl
theorem fs_td (L:Ml) (n:Int) (t:Addr):putF "things" (.ref t) (L.fs n)=(L.with t).fs n:=rfl
theorem fs_no (L:Ml) (n:Int):(L.fs n).lookup ("make_steps" : Str)=none∧(L.fs n).lookup ("new_row" : Str)=none∧(L.fs n).lookup ("thing_of_leaf" : Str)=none∧(L.fs n).lookup ("come_to" : Str)=none∧(L.fs n).lookup ("go_further" : Str)=none∧(L.fs n).lookup ("taken_things" : Str)=none∧(L.fs n).lookup ("thing_at_the_end" : Str)=none∧(L.fs n).lookup ("thing_of_form" : Str)=none:=⟨rfl,rfl,rfl,rfl,rfl,rfl,rfl,rfl⟩
theorem flat_strs {ws:List Str}:(ws.map V.str).all flatV=true:=by rw [List.all_map]; exact List.all_eq_true.mpr fun _ _=>rfl
theorem in_dec {t:Str} {ws:List Str}:inV (.str t) (ws.map V.str)=decide (t∈ws):=by
 unfold inV
 rw [List.any_map]
 by_cases hm:t∈ws
 ·rw [decide_eq_true hm]
  exact List.any_eq_true.mpr ⟨t,hm,by show (t == t)=true; simp⟩
 ·rw [decide_eq_false hm]
  exact Bool.eq_false_iff.mpr fun h=>by
   obtain ⟨x,hx,e⟩:=List.any_eq_true.mp h
   have e:(x == t)=true:=e
   have e:x=t:=by simpa using e
   exact hm (by rw [← e]; exact hx)
end K44
namespace K44
open PySem L2
section
variable {P:Program} {w:World} {K:W.Frag} {mg:Str→Option Value} {base:Heap}
noncomputable def sp_make (K:W.Frag) (C:Addr):Sp:=fun vs H Q _=>∃ (n:Int) (HB:Hp) (kvs:List (List Key×V)) (L:Ml) (S:MS),vs=[.ref L.m,.int n]∧MAt K HB C kvs L H S∧S.steps + n≤500∧∀ H',SameM L H H'→MAt K HB C kvs L H' { S with steps:=S.steps + n }→Q .non H'
theorem sc_Machine_make_steps:FnScope ["self", "many"] ["self", "many"] (defScope s_Machine_make_steps):=⟨rfl,rfl,rfl,by decide +kernel,rfl,by decide +kernel,by decide +kernel⟩
theorem ok_make {C:Addr} {f:Addr} {fd:FuncData} (F:Fun K "make_steps" "Machine.make_steps" s_Machine_make_steps f fd) (T:Txt K mg) (O:Mc K C) (G_MOST_STEPS:Glob mg "MOST_STEPS" (.int 500)):FnOk P w K mg base CX0 1 f fd ["self", "many"] (sp_make K C):=by
 refine F.okq sc_Machine_make_steps (fun vs H Q E h=>?_) (fun cdv A outer s H vs Q E hr h=>?_)
 ·obtain ⟨n,HB,kvs,L,S,rfl,_⟩:=h
  rfl
 ·obtain ⟨n,HB,kvs,L,S,rfl,M,hn,q⟩:=h
  refine ⟨_,qss_cons (qs_fldaugK K (qv 0) (qv 1) in_add)
   (qss_one (qs_if (qt_cmpR op_gt (qe_fldK K (qv 0)) (qe_gl G_MOST_STEPS) (nomark _)) (qss_one (qs_dead)) (qss_nil))),?_⟩
  walk_at "r"
  refine ⟨_,rfl,L.m,C,L.dx,_,_,rfl,M.ins,O.cl,O.ns,fs_steps L S.steps,_,rfl,?_⟩
  refine ⟨_,_,rfl,rfl,L.dx,_,M.ins,by show 5 < 1000; decide,?_⟩
  rw [fs_put]
  have M1:=M.setSteps (S.steps + n)
  have e1:SameM L H (upd H L.m (.ins C L.dx (L.fs (S.steps + n)))):=SameM.upd (.inl rfl)
  revert M1 e1
  generalize upd H L.m (.ins C L.dx (L.fs (S.steps + n)))=H1
  intro M1 e1
  walk_at "r"
  refine ⟨_,rfl,L.m,C,L.dx,_,_,rfl,M1.ins,O.cl,O.ns,fs_steps L (S.steps + n),?_⟩
  walk_at "r"
  rw [decide_eq_false (by omega)]
  walk_at "r"
  exact q _ e1 M1
noncomputable def sp_newrow (K:W.Frag) (C:Addr):Sp:=fun vs H Q _=>∃ (wd:Str) (p o e:Addr) (pl:List Nat) (ov ev:List V) (ops:List (Str×V)) (ar:List (Str×Str×V)) (HB:Hp) (kvs:List (List Key×V)) (L:Ml) (S:MS),vs=[.ref L.m,.str wd,.ref p,.ref o,.ref e]∧MAt K HB C kvs L H S∧H p=some (.tup (plV pl))∧SqL K H o ov∧Al (ThAt K H) ov ops∧SqL K H e ev∧Al (PrAt K H) ev ar∧S.rows.length < 10000 ∧
 ∀ v H',SameM L H H'→MAt K HB C kvs L H' { S with rows:=S.rows++[⟨wd,plI pl,ops,if wd∈WA then ar else []⟩] }→ThAt K H' v ("row",.int (S.rows.length:Nat))→Q v H'
theorem sc_Machine_new_row:FnScope ["self", "word", "place", "operands", "around", "kept"] ["self", "word", "place", "operands", "around"] (defScope s_Machine_new_row):=⟨rfl,rfl,rfl,by decide +kernel,rfl,by decide +kernel,by decide +kernel⟩
theorem viaV {t:TE} {σ:St} {H:Hp} {Q:VK} (R:V→Hp→Prop) (h2:∀ x H',R x H'→Q x H') (h1:∀ Q':VK,(∀ x H',R x H'→Q' x H')→t σ H Q'):t σ H Q:=h1 Q h2
theorem ok_newrow {C:Addr} {f:Addr} {fd:FuncData} (F:Fun K "new_row" "Machine.new_row" s_Machine_new_row f fd) (T:Txt K mg) (O:Mc K C) {aw:Addr} (G_WORDS_WITH_AROUND:Glob mg "WORDS_WITH_AROUND" (.ref aw)) (hwa:∀ H,SqT K H aw (WA.map V.str)):FnOk P w K mg base CX0 1 f fd ["self", "word", "place", "operands", "around"] (sp_newrow K C):=by
 refine F.okq sc_Machine_new_row (fun vs H Q E h=>?_) (fun cdv A outer s H vs Q E hr h=>?_)
 ·obtain ⟨wd,p,o,e,pl,ov,ev,ops,ar,HB,kvs,L,S,rfl,_⟩:=h
  rfl
 ·obtain ⟨wd,p,o,e,pl,ov,ev,ops,ar,HB,kvs,L,S,rfl,M,hp,ho,alo,he,ale,hz,q⟩:=h
  refine ⟨_,qss_cons (qs_set (i:=5) sc_Machine_new_row.nd rfl (Or.inl rfl) (qe_ifExp (qt_cmpR (k_in K) (qv 1) (qe_gl G_WORDS_WITH_AROUND) (by rfl)) (qe_callTy (k_list K) (by rfl) T.list (by decide +kernel) (qa_cons (qv 4) qa_nil)) (qe_lst (qa_nil))))
   (qss_cons (qs_expr (qe_bmK K PySem.F.plainAttrs_list PySem.F.slot_list_append PySem.F.type_list_append mt_append (qe_fldK K (qv 0)) (qa_cons (qe_tup (qa_cons (qv 1) (qa_cons (qv 2) (qa_cons (qe_callTy (k_list K) (by rfl) T.list (by decide +kernel) (qa_cons (qv 3) qa_nil)) (qa_cons (qv 5) qa_nil))))) qa_nil)))
   (qss_one (qs_ret (qe_tup (qa_cons (qe_str) (qa_cons (qe_op op_sub (qe_callB (k_len K) (by rfl) T.len (by decide +kernel) (qa_cons (qe_fldK K (qv 0)) qa_nil)) (qe_int)) qa_nil)))))),?_⟩
  have bg:=big
  walk_at "r"
  have kept:Al (PrAt K H) (if wd∈WA then ev else []) (if wd∈WA then ar else []):=by
   by_cases hw:wd∈WA
   ·rw [if_pos hw,if_pos hw]; exact ale
   ·rw [if_neg hw,if_neg hw]; exact .nil
  refine viaV (R:=fun x H'=>∃ k,x=.ref k∧H k=none∧H'=upd H k (.lst (if wd∈WA then ev else []))) ?_ (fun Q' hQ=>?_)
  ·rintro _ _ ⟨k,rfl,hk,rfl⟩
   have s1:Same H (upd H k (.lst (if wd∈WA then ev else []))):=Same.upd hk
   have e1:upd H k (.lst (if wd∈WA then ev else [])) k=some (.lst (if wd∈WA then ev else [])):=upd_same
   revert s1 e1 kept
   generalize (if wd∈WA then ev else [])=kv
   generalize (if wd∈WA then ar else [])=ka at q ⊢
   generalize upd H k (.lst kv)=H1
   intro kept s1 e1
   have M1:=M.new s1
   obtain ⟨rv,er,arr,spr⟩:=M1.rows
   walk_at "r"
   refine ⟨_,rfl,L.m,C,L.dx,_,_,rfl,M1.ins,O.cl,O.nr,fs_rows L S.steps,?_⟩
   refine s_tyL (SqL.of er) ?_
   walk_at "r"
   refine ⟨_,ov,rfl,.inl (s1.seq ho),fun o2 ho2=>?_⟩
   have s2:Same H1 (upd H1 o2 (.lst ov)):=Same.upd ho2
   have e2:upd H1 o2 (.lst ov) o2=some (.lst ov):=upd_same
   have e12:=s2 _ _ e1
   revert s2 e2 e12
   generalize upd H1 o2 (.lst ov)=H2
   intro s2 e2 e12
   walk_at "r"
   refine ⟨by show 4≤sizeLine; decide,fun r hr=>?_⟩
   have s3:Same H2 (upd H2 r (.tup [.str wd,.ref p,.ref o2,.ref k])):=Same.upd hr
   have e3:upd H2 r (.tup [.str wd,.ref p,.ref o2,.ref k]) r=some (.tup [.str wd,.ref p,.ref o2,.ref k]):=upd_same
   revert s3 e3
   generalize upd H2 r (.tup [.str wd,.ref p,.ref o2,.ref k])=H3
   intro s3 e3
   have s13:=s2.trans s3
   have s03:=s1.trans s13
   have M3:=M.new s03
   have hrl:rv.length=S.rows.length:=arr.1
   walk_at "r"
   refine s_app (s13 _ _ er) (by omega) ?_
   obtain ⟨rv0,er0,_,sp0⟩:=M.rows
   obtain ⟨wv0,ew0,_⟩:=M.wait
   obtain ⟨tv0,et0,_⟩:=M.things
   have nb:∀ b,H b=none→¬ (L.A b∨HB b≠none):=by
    intro b hb hx
    rcases hx with (z | z | z) | z
    ·rw [z,er0] at hb; cases hb
    ·rw [z,ew0] at hb; cases hb
    ·rw [z,et0] at hb; cases hb
    ·cases h:HB b with
     | none=>exact z h
     | some ob=>rw [M.base _ _ h] at hb; cases hb
   have rw4:RwO K (fun b=>L.A b∨HB b≠none) H3 (.ref r) (⟨wd,plI pl,ops,ka⟩,o2,k):=⟨r,p,ov,kv,rfl,SqT.of e3,by rw [plV_plI]; exact SqT.of (s03 _ _ hp),s3 _ _ e2,alo.mono (ThAt.same s03.t),s3 _ _ e12,kept.mono (PrAt.same s03.t),nb _ (s1.free ho2),nb _ hk⟩
   have sp4:SepR K (fun b=>L.A b∨HB b≠none) H3 (rv++[.ref r]) (S.rows++[⟨wd,plI pl,ops,ka⟩]):=SepR.add (H:=H) (by rw [show rv=rv0 from by have h:=s1 _ _ er0; rw [er] at h; cases h; rfl]; exact sp0) s03 (s1.free ho2) hk rw4
   have M4:=M3.setRows (rv:=rv++[.ref r]) (rs:=S.rows++[⟨wd,plI pl,ops,ka⟩]) ((arr.mono (RwX.same s13.a)).snoc ⟨⟨r,p,o2,k,ov,kv,rfl,SqT.of e3,by rw [plV_plI]; exact SqT.of (s03 _ _ hp),s3 _ _ e2,alo.mono (ThAt.same s03.t),s3 _ _ e12,kept.mono (PrAt.same s03.t),nb _ (s1.free ho2),nb _ hk⟩,r,p,o2,k,rfl,SqT.of e3,by rw [plV_plI]; exact s03 _ _ hp⟩) sp4
   have e4:SameM L H (upd H3 L.rd (.lst (rv++[.ref r]))):=(s03.m L).trans (SameM.upd (.inr (.inl rfl)))
   have er4:upd H3 L.rd (.lst (rv++[.ref r])) L.rd=some (.lst (rv++[.ref r])):=upd_same
   revert M4 e4 er4
   generalize upd H3 L.rd (.lst (rv++[.ref r]))=H4
   intro M4 e4 er4
   walk_at "r"
   refine ⟨_,rfl,L.m,C,L.dx,_,_,rfl,M4.ins,O.cl,O.nr,fs_rows L S.steps,?_⟩
   walk_at "r"
   refine s_len_lst (SqL.of er4) ?_
   walk_at "r"
   refine ⟨by show 2≤sizeLine; decide,fun t ht=>?_⟩
   have e5:(((rv++[V.ref r]).length:Nat):Int) - 1=((S.rows.length:Nat):Int):=by rw [List.length_append,List.length_singleton]; omega
   rw [e5]
   have s5:Same H4 (upd H4 t (.tup [.str "row",.int (S.rows.length:Nat)])):=Same.upd ht
   exact q _ _ (e4.trans (s5.m L)) (M4.new s5) ⟨rfl,t,rfl,SqT.of upd_same⟩
  ·unfold tIf
   walk_at "r"
   refine s_in_seq (.inr (hwa _)) rfl flat_strs ?_
   rw [if_neg Bool.false_ne_true,in_dec]
   refine ⟨_,rfl,?_⟩
   refine ite2 (fun h=>?_) (fun h=>?_)
   ·have h:wd∈WA:=of_decide_eq_true h
    walk_at "r"
    refine ⟨_,ev,rfl,.inl he,fun k hk=>?_⟩
    exact hQ _ _ ⟨k,rfl,hk,by rw [if_pos h]⟩
   ·have h:¬ wd∈WA:=fun x=>h (decide_eq_true x)
    walk_at "r"
    refine ⟨by show 0≤sizeLine; decide,fun k hk=>?_⟩
    exact hQ _ _ ⟨k,rfl,hk,by rw [if_neg h]⟩
noncomputable def leafS (S:MS) (wd:Str) (nv:V) (pl:List Nat) (ar:List (Str×Str×V)):(Str×V)×MS :=
 if wd∈(["num", "truth"]:List Str) then ((wd,nv),S)
 else match (match nv with | .str z=>if wd = "name" then lookA ar z else none | _=>none) with
  | some th=>(th,S)
  | none=>(("row",.int (S.rows.length:Nat)),{ S with rows:=S.rows++[⟨wd,plI pl,[],if wd∈WA then ar else []⟩] })
noncomputable def sp_leaf (K:W.Frag) (C:Addr):Sp:=fun vs H Q _=>∃ (wd:Str) (nv:V) (p e:Addr) (pl:List Nat) (ev:List V) (ar:List (Str×Str×V)) (HB:Hp) (kvs:List (List Key×V)) (L:Ml) (S:MS),vs=[.ref L.m,.str wd,nv,.ref p,.ref e]∧MAt K HB C kvs L H S∧H p=some (.tup (plV pl))∧SqL K H e ev∧Al (PrAt K H) ev ar∧S.rows.length < 10000∧(wd∈(["num", "truth"]:List Str)→flatV nv=true)∧(wd = "name" → ∃ z,nv=.str z) ∧
 ∀ v H',SameM L H H'→MAt K HB C kvs L H' (leafS S wd nv pl ar).2→ThAt K H' v (leafS S wd nv pl ar).1→Q v H'
theorem sc_Machine_thing_of_leaf:FnScope ["self", "word", "note", "place", "around", "bound"] ["self", "word", "note", "place", "around"] (defScope s_Machine_thing_of_leaf):=⟨rfl,rfl,rfl,by decide +kernel,rfl,by decide +kernel,by decide +kernel⟩
theorem ok_leaf {C:Addr} {f:Addr} {fd:FuncData} (F:Fun K "thing_of_leaf" "Machine.thing_of_leaf" s_Machine_thing_of_leaf f fd) (T:Txt K mg) (O:Mc K C) (MR:MethX CX0 P w K mg base 1 C "new_row" ["self", "word", "place", "operands", "around"] (sp_newrow K C)):FnOk P w K mg base CX0 2 f fd ["self", "word", "note", "place", "around"] (sp_leaf K C):=by
 refine F.okq sc_Machine_thing_of_leaf (fun vs H Q E h=>?_) (fun cdv A outer s H vs Q E hr h=>?_)
 ·obtain ⟨wd,nv,p,e,pl,ev,ar,HB,kvs,L,S,rfl,_⟩:=h
  rfl
 ·obtain ⟨wd,nv,p,e,pl,ev,ar,HB,kvs,L,S,rfl,M,hp,he,ale,hz,hf,hnm,q⟩:=h
  refine ⟨_,qss_cons (qs_if (qt_cmpR (k_in K) (qv 1) (qe_tup (qa_cons (qe_str) (qa_cons (qe_str) qa_nil))) (by rfl)) (qss_one (qs_ret (qe_tup (qa_cons (qv 1) (qa_cons (qv 2) qa_nil))))) (qss_nil))
   (qss_cons (qs_set (i:=5) sc_Machine_thing_of_leaf.nd rfl (Or.inl rfl) (qe_callTy (k_dict K hr.u200 rfl) (by rfl) T.dict (by decide +kernel) (qa_cons (qv 4) qa_nil)))
   (qss_cons (qs_if (QW.qt (qw_and (qt_cmpR (k_eq K hr.u200) (qv 1) (qe_str) (nomark _)) (qw_and1 (qt_cmp (qc_din hr.u1 (qv 2) (qv 5)))))) (qss_one (qs_ret (qe_dget hr.u1 (qv 5) (qv 2) (fun _ _=>rfl)))) (qss_nil))
   (qss_one (qs_ret (qe_methD (k:=1) K CX0 ["self", "word", "place", "operands", "around"] (qv 0) (hr.mono (by decide)) pass0 (qa_cons (qv 1) (qa_cons (qv 3) (qa_cons (qe_lst (qa_nil)) (qa_cons (qv 4) qa_nil))))))))),?_⟩
  have bg:=big
  unfold leafS at q
  walk_at "r"
  refine ⟨by show 2≤sizeLine; decide,fun p1 h1=>?_⟩
  refine s_in_seq (.inr (SqT.of upd_same)) rfl rfl ?_
  have s1:Same H (upd H p1 (.tup [.str "num",.str "truth"])):=Same.upd h1
  rw [if_neg Bool.false_ne_true,show inV (.str wd) [.str "num",.str "truth"]=decide (wd∈(["num", "truth"]:List Str)) from in_dec (ws:=["num", "truth"])]
  revert s1
  generalize upd H p1 (.tup [.str "num",.str "truth"])=H1
  intro s1
  walk_at "r"
  refine ite2 (fun h=>?_) (fun h=>?_)
  ·have h:wd∈(["num", "truth"]:List Str):=of_decide_eq_true h
   rw [if_pos h] at q
   walk_at "r"
   refine ⟨by show 2≤sizeLine; decide,fun p2 h2=>?_⟩
   have s2:=s1.put (o:=.tup [.str wd,nv]) h2
   exact q _ _ (s2.m L) (M.new s2) ⟨hf h,p2,rfl,SqT.of upd_same⟩
  have h:¬ wd∈(["num", "truth"]:List Str):=fun x=>h (decide_eq_true x)
  rw [if_neg h] at q
  walk_at "r"
  obtain ⟨bk,alk,look⟩:=bound_of (K:=K) (H:=H1) ev ar (ale.mono (PrAt.same s1.t))
  refine ⟨e,ev,rfl,s1.seq he,.inl ⟨bk,alk,fun d hd=>?_⟩⟩
  have s2:Same H1 (upd H1 d (.dK (putAll [] bk))):=Same.upd hd
  have e2:upd H1 d (.dK (putAll [] bk)) d=some (.dK (putAll [] bk)):=upd_same
  revert s2 e2
  generalize upd H1 d (.dK (putAll [] bk))=H2
  intro s2 e2
  have s02:=s1.trans s2
  have M2:=M.new s02
  have row:(match nv with | .str z=>if wd = "name" then lookA ar z else none | _=>none)=none→∀ l,H2 l=none→sp_newrow K C [.ref L.m,.str wd,.ref p,.ref l,.ref e] (upd H2 l (.lst [])) Q E0:=by
   intro hn l hl
   rw [hn] at q
   have s3:=s02.put (o:=.lst []) hl
   refine ⟨wd,p,l,e,pl,[],ev,[],ar,HB,kvs,L,S,rfl,M.new s3,s3 _ _ hp,SqL.of upd_same,.nil,s3.seq he,ale.mono (PrAt.same s3.t),hz,fun v H' e' M' t'=>q v H' ((s3.m L).trans e') M' t'⟩
  walk_at "r"
  by_cases hw:wd = "name"
  ·subst hw
   obtain ⟨z,rfl⟩:=hnm rfl
   rw [decide_eq_true (Eq.refl _)]
   refine iteT ?_
   refine ⟨_,rfl,_,rfl,d,_,rfl,DGet.k (k:=Sum.inr z) e2,?_⟩
   rw [valV_putAll]
   rcases look z with ⟨l1,l2⟩ | ⟨u,th,l1,l2,t⟩
   ·rw [l1]
    refine ⟨false,rfl,?_⟩
    refine iteF ?_
    walk_at "r"
    refine ⟨_,rfl,L.m,C,L.dx,_,_,rfl,M2.ins,(fs_no L S.steps).2.1,MR,?_⟩
    walk_at "r"
    refine ⟨by show 0≤sizeLine; decide,fun l hl=>?_⟩
    walk_at "r"
    exact row (by simp [l2]) l hl
   ·rw [l1]
    refine ⟨true,rfl,?_⟩
    refine iteT ?_
    walk_at "r"
    refine ⟨_,rfl,_,rfl,d,u,rfl,?_,?_⟩
    ·rw [← l1,← valV_putAll]
     exact DGet.k (k:=Sum.inr z) e2
    ·have e:(match V.str z with | .str z=>if ("name" : Str) = "name" then lookA ar z else none | _=>none)=some th:=by simp [l2]
     rw [e] at q
     exact q _ _ (s02.m L) M2 (ThAt.same s2.t _ _ t)
  ·rw [decide_eq_false (fun h=>hw (V.str.inj h))]
   walk_at "r"
   refine ⟨_,rfl,L.m,C,L.dx,_,_,rfl,M2.ins,(fs_no L S.steps).2.1,MR,?_⟩
   walk_at "r"
   refine ⟨by show 0≤sizeLine; decide,fun l hl=>?_⟩
   walk_at "r"
   refine row ?_ l hl
   cases nv <;> simp [hw]
noncomputable def dtV:Dt→V
 | .flat v=>v
 | _=>.non
noncomputable def comeS (S:MS) (wd:Str) (d:Dt) (pl:List Nat) (ar:List (Str×Str×V)):MS :=
 let S1:=if wd = "gap" then S else { S with steps:=S.steps + 1 }
 match partsA wd with
 | some ns=>{ S1 with wait:=(S1.wait++[⟨pl,ar,true⟩])++ns.map fun n=>⟨pl++[n.toNat],ar,false⟩ }
 | none=>{ (leafS S1 wd (dtV d) pl ar).2 with things:=(leafS S1 wd (dtV d) pl ar).2.things++[(leafS S1 wd (dtV d) pl ar).1] }
noncomputable def NoteOk (wd:Str) (d:Dt):Prop:=(wd∈(["num", "truth"]:List Str)→∃ v,d=.flat v)∧(wd = "name" → ∃ z,d=.flat (.str z))
noncomputable def sp_come (K:W.Frag) (C:Addr):Sp:=fun vs H Q _=>∃ (p e:Addr) (pl:List Nat) (ev:List V) (ar:List (Str×Str×V)) (HB:Hp) (kvs:List (List Key×V)) (L:Ml) (S:MS) (v:V) (wd:Str) (d:Dt) (ts:List Tr),vs=[.ref L.m,.ref p,.ref e]∧MAt K HB C kvs L H S∧H p=some (.tup (plV pl))∧H e=some (.lst ev)∧Al (PrAt K H) ev ar∧¬ L.A e∧valV kvs (plK pl)=some v∧TrAt K H v (.mk wd d ts)∧NoteOk wd d∧pl.length≤2000∧S.rows.length < 9000∧S.wait.length < 9000∧S.things.length < 9000∧(wd ≠ "gap" → S.steps + 1≤500) ∧
 ∀ H',SameM L H H'→MAt K HB C kvs L H' (comeS S wd d pl ar)→Q .non H'
theorem nd_Machine_come_to_1:(["number", "around", "place"]:List Str).Nodup:=by decide +kernel
theorem sc_Machine_come_to:FnScope ["self", "place", "around", "word", "note"] ["self", "place", "around"] (defScope s_Machine_come_to):=⟨rfl,rfl,rfl,by decide +kernel,rfl,by decide +kernel,by decide +kernel⟩
theorem partsA_nn {wd:Str} {ns:List Int} (h:partsA wd=some ns):ns.length≤2∧∀ n∈ns,0≤n:=by
 unfold partsA at h
 split at h
 ·cases h; exact ⟨by decide,by decide⟩
 split at h
 ·cases h; exact ⟨by decide,by decide⟩
 ·cases h
theorem leaf_note {K:W.Frag} {H:Hp} {S:MS} {wd:Str} {nv:V} {d:Dt} {pl:List Nat} {ar:List (Str×Str×V)} (h:IsN K H nv d) (hn:NoteOk wd d):leafS S wd nv pl ar=leafS S wd (dtV d) pl ar:=by
 rcases h with ⟨_,rfl⟩ | ⟨a,vs,rfl,_,_,rfl⟩
 ·rfl
 ·have h1:¬ wd∈(["num", "truth"]:List Str):=fun x=>by obtain ⟨v,e⟩:=hn.1 x; cases e
  unfold leafS
  rw [if_neg h1,if_neg h1]
  rfl
theorem leaf_things (S:MS) (wd:Str) (nv:V) (pl:List Nat) (ar:List (Str×Str×V)):(leafS S wd nv pl ar).2.things=S.things:=by
 unfold leafS
 split
 ·rfl
 split <;> rfl
theorem ok_come {C:Addr} {f:Addr} {fd:FuncData} (F:Fun K "come_to" "Machine.come_to" s_Machine_come_to f fd) (T:Txt K mg) (O:Mc K C) {ap:Addr} {pk:List (Str×V)} (G_PARTS_AWAITED:Glob mg "PARTS_AWAITED" (.ref ap)) (hpa:DkK P w K ap pk) (hpk:∀ wd,(lookD pk wd).isSome=(partsA wd).isSome∧∀ ns,partsA wd=some ns→∃ b,lookD pk wd=some (.ref b)∧∀ H,SqT K H b (ns.map V.int))
  (MS_:MethX CX0 P w K mg base 1 C "make_steps" ["self", "many"] (sp_make K C)) (MLf:MethX CX0 P w K mg base 2 C "thing_of_leaf" ["self", "word", "note", "place", "around"] (sp_leaf K C)):FnOk P w K mg base CX0 3 f fd ["self", "place", "around"] (sp_come K C):=by
 refine F.okq sc_Machine_come_to (fun vs H Q E h=>?_) (fun cdv A outer s H vs Q E hr h=>?_)
 ·obtain ⟨p,e,pl,ev,ar,HB,kvs,L,S,v,wd,d,ts,rfl,_⟩:=h
  rfl
 ·obtain ⟨p,e,pl,ev,ar,HB,kvs,L,S,v,wd,d,ts,rfl,M,hp,he,ale,nA,hv,ht,nok,hpl,z1,z2,z3,z4,q⟩:=h
  refine ⟨_,qss_cons (qs_asg (qe_slice (k_sl K) (qe_dget hr.u1 (qe_fldK K (qv 0)) (qv 1) (fun _ _=>rfl)) (qo_none) (qo_some (qe_int))) (qg_tupK K (n:=2) rfl (qgs_cons (qg_name (i:=3) sc_Machine_come_to.nd rfl (Or.inl rfl)) (qgs_cons (qg_name (i:=4) sc_Machine_come_to.nd rfl (Or.inl rfl)) (qgs_nil)))))
   (qss_cons (qs_if (qt_cmpR (k_ne K hr.u200) (qv 3) (qe_str) (nomark _)) (qss_one (qs_expr (qe_methD (k:=1) K CX0 ["self", "many"] (qv 0) (hr.mono (by decide)) pass0 (qa_cons (qe_int) qa_nil)))) (qss_nil))
   (qss_one (qs_if (qt_cmpR (k_inD P w K) (qv 3) (qe_gl G_PARTS_AWAITED) (by rfl)) (qss_cons (qs_expr (qe_bmK K PySem.F.plainAttrs_list PySem.F.slot_list_append PySem.F.type_list_append mt_append (qe_fldK K (qv 0)) (qa_cons (qe_tup (qa_cons (qv 1) (qa_cons (qv 2) (qa_cons (qe_bl) qa_nil)))) qa_nil)))
   (qss_one (qs_expr (qe_bmK K PySem.F.plainAttrs_list PySem.F.slot_list_extend PySem.F.type_list_extend mt_extend (qe_fldK K (qv 0)) (qa_cons (qe_comp (N:=["number", "around", "place"]) (σ0:=capSt 1 [2,1]) rfl (cscope_fn rfl (by decide +kernel) (by decide +kernel) (by decide +kernel)) (qi_anyK K (qe_ix (k_ixD P w K) (qe_gl G_PARTS_AWAITED) (qv 3) (fun _ _=>rfl))) (takes_in rfl (by rfl)) (fun _ _ _ _=>qg_name (i:=0) nd_Machine_come_to_1 rfl (Or.inl rfl)) (fun _ _ _ _=>qts_nil) (fun _ _ _ _=>qe_tup (qa_cons (qe_op (k_addP K) (qv 2) (qe_tup (qa_cons (qv 0) qa_nil))) (qa_cons (qv 1) (qa_cons (qe_bl) qa_nil))))) qa_nil))))) (qss_one (qs_expr (qe_bmK K PySem.F.plainAttrs_list PySem.F.slot_list_append PySem.F.type_list_append mt_append (qe_fldK K (qv 0)) (qa_cons (qe_methD (k:=2) K CX0 ["self", "word", "note", "place", "around"] (qv 0) (hr.mono (by decide)) pass0 (qa_cons (qv 3) (qa_cons (qv 4) (qa_cons (qv 1) (qa_cons (qv 2) qa_nil))))) qa_nil))))))),?_⟩
  have bg:=big
  cases ht with
  | @mk b pp _ nv _ vs _ qb hn qpp hl hch =>
  walk_at "r"
  refine ⟨_,rfl,L.m,C,L.dx,_,_,rfl,M.ins,O.cl,O.nf,fs_forms L S.steps,_,rfl,L.fd,.ref b,rfl,?_,?_⟩
  ·rw [← hv]
   refine DGet.t M.frm ?_
   rw [plK_kV]
   exact hp
  walk_at "r"
  refine .inr (.inr ⟨b,_,rfl,qb,by show ¬(HT.sIx 3 0 none=0∧HT.sIx 3 3 (some 2)=3); decide,fun p1 h1=>?_⟩)
  rw [show cutV [V.str wd,nv,.ref pp] none (some 2)=[V.str wd,nv] from rfl]
  have s1:Same H (upd H p1 (.tup [.str wd,nv])):=Same.upd h1
  have e1:upd H p1 (.tup [.str wd,nv]) p1=some (.tup [.str wd,nv]):=upd_same
  have hp1:=s1 _ _ hp
  have he1:=s1 _ _ he
  have M1:=M.new s1
  have hn1:IsN K (upd H p1 (.tup [.str wd,nv])) nv d:=hn.same s1.t
  revert s1 e1 hp1 he1 M1 hn1
  generalize upd H p1 (.tup [.str wd,nv])=H1
  intro s1 e1 hp1 he1 M1 hn1
  refine s_gtup (SqT.of e1) rfl ?_
  refine s_gcons ?_
  refine s_gname ?_
  refine s_gcons ?_
  refine s_gname ?_
  refine s_gnil ?_
  with_reducible refine s_seq ?_
  obtain ⟨S1,hS1⟩:∃ S1,S1=(if wd = "gap" then S else { S with steps:=S.steps + 1 }):=⟨_,rfl⟩
  refine via (t:=tIfS _ _ _) (R:=fun H2=>SameM L H1 H2∧MAt K HB C kvs L H2 S1) ?_ (fun Y hY=>?_)
  ·rintro H2 ⟨m2,M2⟩
   have a2:=M1.a m2
   have t2:=M1.t m2
   have hp2:=(t2 p).1 _ hp1
   have he2:=a2.2 _ _ nA he1
   have ale2:Al (PrAt K H2) ev ar:=ale.mono (PrAt.same (s1.t.trans t2))
   have m02:SameM L H H2:=(s1.m L).trans m2
   have hn2:IsN K H2 nv d:=hn1.same t2
   obtain ⟨y1,y2,y3⟩:S1.rows=S.rows∧S1.wait=S.wait∧S1.things=S.things:=by
    rw [hS1]
    split <;> exact ⟨rfl,rfl,rfl⟩
   have q:∀ H',SameM L H H'→MAt K HB C kvs L H' (match partsA wd with
    | some ns=>{ S1 with wait:=(S1.wait++[⟨pl,ar,true⟩])++ns.map fun n=>⟨pl++[n.toNat],ar,false⟩ }
    | none=>{ (leafS S1 wd (dtV d) pl ar).2 with things:=(leafS S1 wd (dtV d) pl ar).2.things++[(leafS S1 wd (dtV d) pl ar).1] })→Q .non H':=by
    intro H' e' M'
    refine q H' e' ?_
    unfold comeS
    rw [← hS1]
    exact M'
   walk_at "r"
   refine ⟨wd,ap,pk,rfl,rfl,hpa,?_⟩
   rw [(hpk wd).1]
   cases hpw:partsA wd with
   | none =>
    rw [hpw] at q
    walk_at "r"
    refine iteF ?_
    walk_at "r"
    obtain ⟨tv,et,att⟩:=M2.things
    refine ⟨_,rfl,L.m,C,L.dx,_,_,rfl,M2.ins,O.cl,O.nt,fs_things L S1.steps,?_⟩
    refine s_tyL (SqL.of et) ?_
    walk_at "r"
    refine ⟨_,rfl,L.m,C,L.dx,_,_,rfl,M2.ins,(fs_no L S1.steps).2.2.1,MLf,?_⟩
    walk_at "r"
    refine ⟨wd,nv,p,e,pl,ev,ar,HB,kvs,L,S1,rfl,M2,hp2,SqL.of he2,ale2,by rw [y1]; omega,(fun x=>by
     obtain ⟨v,rfl⟩:=nok.1 x
     rcases hn2 with ⟨h,_⟩ | ⟨a,vs,_,_,_,h⟩
     ·exact h
     ·cases h),(fun x=>by
     obtain ⟨z,rfl⟩:=nok.2 x
     rcases hn2 with ⟨_,h⟩ | ⟨a,vs,_,_,_,h⟩
     ·injection h with h; exact ⟨z,h.symm⟩
     ·cases h),fun v H3 e3 M3 t3=>?_⟩
    rw [leaf_note hn2 nok] at M3 t3
    obtain ⟨tv3,et3,at3⟩:=M3.things
    have hl3:tv3.length=S.things.length:=by rw [at3.1,leaf_things,y3]
    walk_at "r"
    refine s_app et3 (by omega) ?_
    have M4:=M3.setThings (at3.snoc t3)
    walk_at "r"
    exact q _ (m02.trans (e3.trans (SameM.upd (.inr (.inr (.inr rfl)))))) M4
   | some ns =>
    rw [hpw] at q
    obtain ⟨nl,nn⟩:=partsA_nn hpw
    obtain ⟨bt,hbt,qbt⟩:=(hpk wd).2 ns hpw
    walk_at "r"
    refine iteT ?_
    walk_at "r"
    obtain ⟨wv,ew,aw⟩:=M2.wait
    have hwl:wv.length=S.wait.length:=by rw [aw.1,y2]
    refine ⟨_,rfl,L.m,C,L.dx,_,_,rfl,M2.ins,O.cl,O.nw,fs_wait L S1.steps,?_⟩
    refine s_tyL (SqL.of ew) ?_
    walk_at "r"
    refine ⟨by show 3≤sizeLine; decide,fun r hr'=>?_⟩
    have s3:Same H2 (upd H2 r (.tup [.ref p,.ref e,.bl true])):=Same.upd hr'
    have e3:upd H2 r (.tup [.ref p,.ref e,.bl true]) r=some (.tup [.ref p,.ref e,.bl true]):=upd_same
    revert s3 e3
    generalize upd H2 r (.tup [.ref p,.ref e,.bl true])=H3
    intro s3 e3
    walk_at "r"
    refine s_app (s3 _ _ ew) (by omega) ?_
    have M3:=M2.new s3
    have M4:=M3.setWait (wv:=wv++[.ref r]) (ws:=S1.wait++[⟨pl,ar,true⟩]) ((aw.mono (WtAt.same s3.a)).snoc ⟨r,p,e,ev,rfl,SqT.of e3,s3 _ _ hp2,s3 _ _ he2,ale2.mono (PrAt.same s3.t),nA⟩)
    have m34:SameM L H3 (upd H3 L.wd (.lst (wv++[.ref r]))):=SameM.upd (.inr (.inr (.inl rfl)))
    have ew4:upd H3 L.wd (.lst (wv++[.ref r])) L.wd=some (.lst (wv++[.ref r])):=upd_same
    revert M4 m34 ew4
    generalize upd H3 L.wd (.lst (wv++[.ref r]))=H4
    intro M4 m34 ew4
    have t4:=M3.t m34
    have hp4:=(t4 p).1 _ (s3 _ _ hp2)
    have he4:=(M3.a m34).2 _ _ nA (s3 _ _ he2)
    have ale4:Al (PrAt K H4) ev ar:=ale2.mono (PrAt.same (s3.t.trans t4))
    have m04:SameM L H H4:=m02.trans ((s3.m L).trans m34)
    walk_at "r"
    refine ⟨_,rfl,L.m,C,L.dx,_,_,rfl,M4.ins,O.cl,O.nw,fs_wait L S1.steps,?_⟩
    refine s_tyL (SqL.of ew4) ?_
    walk_at "r"
    refine ⟨ap,pk,wd,.ref bt,rfl,rfl,hpa,hbt,.inr (.inl ⟨bt,rfl,⟨_,qbt _⟩,fun D hD=>?_⟩)⟩
    obtain ⟨rv4,er4,_⟩:=M4.rows
    obtain ⟨tv4,et4,_⟩:=M4.things
    have nD:¬ L.A D:=by
     rintro (z | z | z)
     ·rw [z,er4] at hD; cases hD
     ·rw [z,ew4] at hD; cases hD
     ·rw [z,et4] at hD; cases hD
    refine comp_tup (K:=K) (a:=bt) (xs:=ns.map V.int) (Pv:=fun i ys σ' H'=>∃ kv,σ'=[kv,some (.ref e),some (.ref p)]∧Al (WtAt K (fun b=>L.A b∨b=D) H') ys ((ns.take i).map fun n=>⟨pl++[n.toNat],ar,false⟩)∧Same H4 H') ⟨none,rfl,.nil,Same.upd hD⟩ (fun i ys σ' H' _ _=>qbt _) ?_ ?_
    ·rintro i x ys σ' H5 hx hys ⟨kv,rfl,al5,s5⟩
     rw [List.getElem?_map] at hx
     obtain ⟨n,hni,rfl⟩:=Option.map_eq_some_iff.mp hx
     have hin:i < ns.length:=(List.getElem?_eq_some_iff.mp hni).1
     have n0:=nn n (List.mem_of_getElem? hni)
     obtain ⟨k,rfl⟩:∃ k:Nat,n=(k:Int):=⟨n.toNat,by omega⟩
     have hyl:ys.length≤2:=by rw [al5.1,List.length_map,List.length_take]; omega
     walk_at "r"
     refine ⟨by show 1≤sizeLine; decide,fun p6 h6=>?_⟩
     have s6:Same H5 (upd H5 p6 (.tup [.int (k:Nat)])):=Same.upd h6
     have e6:upd H5 p6 (.tup [.int (k:Nat)]) p6=some (.tup [.int (k:Nat)]):=upd_same
     revert s6 e6
     generalize upd H5 p6 (.tup [.int (k:Nat)])=H6
     intro s6 e6
     refine s_addp (s6 _ _ (s5 _ _ hp4)) e6 (by unfold plV; rw [List.length_map,List.length_singleton]; omega) fun p7 H7 s7 e7=>?_
     walk_at "r"
     refine ⟨by show 3≤sizeLine; decide,fun p8 h8=>?_⟩
     have s8:Same H7 (upd H7 p8 (.tup [.ref p7,.ref e,.bl false])):=Same.upd h8
     have e8:upd H7 p8 (.tup [.ref p7,.ref e,.bl false]) p8=some (.tup [.ref p7,.ref e,.bl false]):=upd_same
     revert s8 e8
     generalize upd H7 p8 (.tup [.ref p7,.ref e,.bl false])=H8
     intro s8 e8
     have s58:=s6.trans (s7.trans s8)
     have s48:=s5.trans s58
     refine ⟨_,s58 _ _ hys,by omega,_,upd_same,?_⟩
     have hD8:=s58 _ _ hys
     have sA:SameA (fun b=>L.A b∨b=D) H8 (upd H8 D (.lst (ys++[.ref p8]))):=SameA.set hD8 (.inr rfl)
     have nED:e≠D:=fun z=>by rw [← z,he4] at hD; cases hD
     ·refine ⟨_,rfl,?_,s48.over hD⟩
      rw [List.take_add_one,hni,Option.toList_some,List.map_append,List.map_singleton]
      refine (al5.mono fun v x h=>WtAt.same sA v x (WtAt.same s58.a v x h)).snoc (WtAt.same sA _ _ ⟨p8,p7,e,ev,rfl,SqT.of e8,?_,s48 _ _ he4,ale4.mono (PrAt.same s48.t),fun h=>h.elim nA nED⟩)
      have e9:=s8 _ _ e7
      show H8 p7=some (.tup (plV (pl++[((k:Nat):Int).toNat])))
      rw [show plV (pl++[((k:Nat):Int).toNat])=plV pl++[.int ((k:Nat):Int)] by unfold plV; rw [List.map_append]; simp]
      exact e9
    ·rintro ys σ' H5 hys ⟨kv,rfl,al5,s5⟩
     rw [List.length_map,List.take_length] at al5
     have al5:=al5.mono (WtAt.mono (B:=L.A) fun b hb _=>.inl hb)
     walk_at "r"
     have hyl:ys.length≤2:=by rw [al5.1,List.length_map]; omega
     refine ⟨L.wd,D,_,ys,rfl,rfl,s5 _ _ ew4,hys,by rw [List.length_append,List.length_singleton]; omega,?_⟩
     have M5:=M4.new s5
     obtain ⟨wv5,ew5,aw5⟩:=M5.wait
     have ew5':wv5=wv++[.ref r]:=by rw [s5 _ _ ew4] at ew5; cases ew5; rfl
     subst ew5'
     have M6:=M5.setWait (aw5.append al5)
     walk_at "r"
     exact q _ (m04.trans ((s5.m L).trans (SameM.upd (.inr (.inr (.inl rfl)))))) M6
  ·walk_at "r"
   by_cases hg:wd = "gap"
   ·rw [decide_eq_true (by rw [hg])]
    walk_at "r"
    exact hY _ ⟨SameM.refl _ _,by rw [hS1,if_pos hg]; exact M1⟩
   ·rw [decide_eq_false (fun h=>hg (V.str.inj h))]
    walk_at "r"
    refine ⟨_,rfl,L.m,C,L.dx,_,_,rfl,M1.ins,(fs_no L S.steps).1,MS_,?_⟩
    walk_at "r"
    refine ⟨1,HB,kvs,L,S,rfl,M1,z4 hg,fun H2 e2 M2=>?_⟩
    walk_at "r"
    exact hY _ ⟨e2,by rw [hS1,if_neg hg]; exact M2⟩
theorem cutV_back (xs:List V) (n:Nat) (h0:0 < n) (h:n≤xs.length):cutV xs (some (-(n:Int))) none=xs.drop (xs.length - n)∧cutV xs none (some (-(n:Int)))=xs.take (xs.length - n):=by
 unfold cutV
 have e:∀ d,HT.sIx xs.length d (some (-(n:Int)))=xs.length - n:=by
  intro d
  show (if (-(n:Int)) < 0 then ((-(n:Int)) + (xs.length:Int)).toNat else min (-(n:Int)).toNat xs.length)=_
  rw [if_pos (by omega)]
  omega
 rw [e,e,HT.sIx_none,HT.sIx_none,Nat.sub_zero,List.drop_zero]
 refine ⟨?_,rfl⟩
 rw [List.take_of_length_le (by rw [List.length_drop]; omega)]
noncomputable def sp_taken (K:W.Frag) (C:Addr):Sp:=fun vs H Q _=>∃ (n:Nat) (th last:List (Str×V)) (HB:Hp) (kvs:List (List Key×V)) (L:Ml) (S:MS),vs=[.ref L.m,.int (n:Nat)]∧MAt K HB C kvs L H S∧0 < n∧S.things=th++last∧last.length=n ∧
 ∀ (l t:Addr) (lv:List V) (H':Hp),SameM L H H'→MAt K HB C kvs (L.with t) H' { S with things:=th }→H t=none→H' l=some (.lst lv)→Al (ThAt K H') lv last→H l=none→l≠t→Q (.ref l) H'
theorem sc_Machine_taken_things:FnScope ["self", "many", "taken"] ["self", "many"] (defScope s_Machine_taken_things):=⟨rfl,rfl,rfl,by decide +kernel,rfl,by decide +kernel,by decide +kernel⟩
theorem ok_taken {C:Addr} {f:Addr} {fd:FuncData} (F:Fun K "taken_things" "Machine.taken_things" s_Machine_taken_things f fd) (T:Txt K mg) (O:Mc K C):FnOk P w K mg base CX0 1 f fd ["self", "many"] (sp_taken K C):=by
 refine F.okq sc_Machine_taken_things (fun vs H Q E h=>?_) (fun cdv A outer s H vs Q E hr h=>?_)
 ·obtain ⟨n,th,last,HB,kvs,L,S,rfl,_⟩:=h
  rfl
 ·obtain ⟨n,th,last,HB,kvs,L,S,rfl,M,n0,hS,hln,q⟩:=h
  refine ⟨_,qss_cons (qs_set (i:=2) sc_Machine_taken_things.nd rfl (Or.inl rfl) (qe_slice (k_sl K) (qe_fldK K (qv 0)) (qo_some (qe_un un_neg (qv 1))) (qo_none)))
   (qss_cons (qs_fldK K (qv 0) (qe_slice (k_sl K) (qe_fldK K (qv 0)) (qo_none) (qo_some (qe_un un_neg (qv 1)))))
   (qss_one (qs_ret (qv 2)))),?_⟩
  obtain ⟨tv,et,att⟩:=M.things
  have hlt:tv.length=th.length + n:=by rw [att.1,hS,List.length_append,hln]
  obtain ⟨c1,c2⟩:=cutV_back tv n n0 (by omega)
  have e0:tv.length - n=th.length:=by omega
  rw [e0] at c1 c2
  rw [hS] at att
  walk_at "r"
  refine ⟨_,rfl,L.m,C,L.dx,_,_,rfl,M.ins,O.cl,O.nt,fs_things L S.steps,?_⟩
  walk_at "r"
  refine s_sl_lst (SqL.of et) fun l hl=>?_
  rw [c1]
  have s1:Same H (upd H l (.lst (tv.drop th.length))):=Same.upd hl
  have e1:upd H l (.lst (tv.drop th.length)) l=some (.lst (tv.drop th.length)):=upd_same
  revert s1 e1
  generalize upd H l (.lst (tv.drop th.length))=H1
  intro s1 e1
  have M1:=M.new s1
  walk_at "r"
  refine ⟨_,rfl,L.m,C,L.dx,_,_,rfl,M1.ins,O.cl,O.nt,fs_things L S.steps,?_⟩
  walk_at "r"
  refine s_sl_lst (SqL.of (s1 _ _ et)) fun t ht=>?_
  rw [c2]
  have s2:Same H1 (upd H1 t (.lst (tv.take th.length))):=Same.upd ht
  have e2:upd H1 t (.lst (tv.take th.length)) t=some (.lst (tv.take th.length)):=upd_same
  revert s2 e2
  generalize upd H1 t (.lst (tv.take th.length))=H2
  intro s2 e2
  have s02:=s1.trans s2
  have M2:=M.new s02
  have hlt':l≠t:=fun z=>by rw [← z,e1] at ht; cases ht
  have ht0:=s1.free ht
  have a1:Al (ThAt K H2) (tv.take th.length) th:=⟨by rw [List.length_take]; omega,fun j v x f1 f2=>by
   have hj:j < th.length:=(List.getElem?_eq_some_iff.mp f2).1
   rw [List.getElem?_take_of_lt hj] at f1
   exact ThAt.same s02.t _ _ (att.2 j v x f1 (by rw [List.getElem?_append_left hj]; exact f2))⟩
  have a2:Al (ThAt K H2) (tv.drop th.length) last:=⟨by rw [List.length_drop]; omega,fun j v x f1 f2=>by
   rw [List.getElem?_drop] at f1
   exact ThAt.same s02.t _ _ (att.2 (th.length + j) v x f1 (by rw [List.getElem?_append_right (by omega),Nat.add_sub_cancel_left]; exact f2))⟩
  obtain ⟨M3,e3⟩:=M.swap s02 ht0 e2 a1
  refine ⟨_,rfl,L.m,C,L.dx,_,rfl,M2.ins,O.cl,O.nt,by show 5 < 1000; decide,?_⟩
  rw [fs_td]
  have nlm:l≠L.m:=fun z=>by rw [z,M.ins] at hl; cases hl
  walk_at "r"
  refine q l t _ _ e3 M3 ht0 ((upd_ne nlm).trans (s2 _ _ e1)) (a2.mono (ThAt.same ?_)) hl hlt'
  exact M2.t (SameM.upd (.inl rfl))
theorem dec_str (a b:Str):decide (V.str a=V.str b)=decide (a=b):=by
 by_cases h:a=b
 ·rw [decide_eq_true h,decide_eq_true (by rw [h])]
 ·rw [decide_eq_false h,decide_eq_false (fun x=>h (V.str.inj x))]
noncomputable def numsB (ops:List (Str×V)):Bool:=ops.all fun x=>decide (x.1=("num" : Str))
noncomputable def sp_nums (K:W.Frag):Sp:=fun vs H Q _=>∃ (o:Addr) (ov:List V) (ops:List (Str×V)),vs=[.ref o]∧H o=some (.lst ov)∧Al (ThAt K H) ov ops∧ops.length≤1000∧∀ H',Same H H'→Q (.bl (numsB ops)) H'
theorem nd_are_numbers_1:(["thing"]:List Str).Nodup:=by decide +kernel
theorem sc_are_numbers:FnScope ["things"] ["things"] (defScope s_are_numbers):=⟨rfl,rfl,rfl,by decide +kernel,rfl,by decide +kernel,by decide +kernel⟩
theorem ok_nums {f:Addr} {fd:FuncData} (F:Fun K "are_numbers" "are_numbers" s_are_numbers f fd) (T:Txt K mg):FnOk P w K mg base CX0 1 f fd ["things"] (sp_nums K):=by
 refine F.okq sc_are_numbers (fun vs H Q E h=>?_) (fun cdv A outer s H vs Q E hr h=>?_)
 ·obtain ⟨o,ov,ops,rfl,_⟩:=h
  rfl
 ·obtain ⟨o,ov,ops,rfl,ho,al,hl,q⟩:=h
  refine ⟨_,qss_one (qs_ret (qe_callB (k_all K rfl) (by rfl) T.all (by decide +kernel) (qa_cons (qe_comp (N:=["thing"]) (σ0:=capSt 1 []) rfl (cscope_fn rfl (by decide +kernel) (by decide +kernel) (by decide +kernel)) (qi_anyK K (qv 0)) (takes_in rfl (by rfl)) (fun _ _ _ _=>qg_name (i:=0) nd_are_numbers_1 rfl (Or.inl rfl)) (fun _ _ _ _=>qts_nil) (fun _ _ _ _=>qe_cmpR (k_eq K hr.u200) (qe_ix (k_ix K) (qv 0) (qe_int) (fun _ _=>rfl)) (qe_str) (nomark _))) qa_nil))),?_⟩
  have bg:=big
  have hlen:=al.1
  walk_at "r"
  refine .inl ⟨o,rfl,⟨_,SqL.of ho⟩,fun D hD=>?_⟩
  refine comp_list (K:=K) (a:=o) (xs:=ov) (Pv:=fun i ys σ' H'=>∃ kv,σ'=[kv]∧ys=((ops.take i).map fun x:Str×V=>decide (x.1=("num" : Str))).map V.bl∧Same H H') ⟨none,rfl,rfl,Same.upd hD⟩ ?_ ?_ ?_
  ·rintro i ys σ' H' _ ⟨kv,_,_,sm⟩
   exact SqL.of (sm _ _ ho)
  ·rintro i x ys σ' H' hx hys ⟨kv,rfl,rfl,sm⟩
   obtain ⟨y,hy,_,a,rfl,qa⟩:=al.get hx
   have hi:i < ov.length:=(List.getElem?_eq_some_iff.mp hx).1
   walk_at "r"
   refine s_ix_tup (sm.tup qa) rfl ?_
   walk_at "r"
   rw [dec_str]
   refine ⟨_,hys,by rw [List.length_map,List.length_map,List.length_take]; omega,_,upd_same,_,rfl,?_,sm.over hD⟩
   rw [List.take_add_one,hy,Option.toList_some,List.map_append,List.map_append]
   rfl
  ·rintro ys σ' H' hys ⟨kv,rfl,rfl,sm⟩
   walk_at "r"
   refine ⟨D,_,rfl,SqL.of hys,?_⟩
   walk_at "r"
   have q':=q H' sm
   rw [hlen,List.take_length]
   unfold numsB at q'
   rw [List.all_map]
   exact q'
noncomputable def recT (wd:Str) (i j:Int):Str×V:=if wd = "plus" then ("num",.int (i + j)) else if wd = "minus" then ("num",.int (i - j)) else ("truth",.bl (decide (i < j)))
noncomputable def sp_reck (K:W.Frag):Sp:=fun vs H Q _=>∃ (wd:Str) (i j:Int),vs=[.str wd,.int i,.int j]∧∀ v H',Same H H'→ThAt K H' v (recT wd i j)→Q v H'
theorem sc_reckoned:FnScope ["word", "left", "right"] ["word", "left", "right"] (defScope s_reckoned):=⟨rfl,rfl,rfl,by decide +kernel,rfl,by decide +kernel,by decide +kernel⟩
theorem ok_reck {f:Addr} {fd:FuncData} (F:Fun K "reckoned" "reckoned" s_reckoned f fd) (T:Txt K mg):FnOk P w K mg base CX0 1 f fd ["word", "left", "right"] (sp_reck K):=by
 refine F.okq sc_reckoned (fun vs H Q E h=>?_) (fun cdv A outer s H vs Q E hr h=>?_)
 ·obtain ⟨wd,i,j,rfl,_⟩:=h
  rfl
 ·obtain ⟨wd,i,j,rfl,q⟩:=h
  refine ⟨_,qss_cons (qs_if (qt_cmpR (k_eq K hr.u200) (qv 0) (qe_str) (nomark _)) (qss_one (qs_ret (qe_tup (qa_cons (qe_str) (qa_cons (qe_op (k_add K) (qv 1) (qv 2)) qa_nil))))) (qss_nil))
   (qss_cons (qs_if (qt_cmpR (k_eq K hr.u200) (qv 0) (qe_str) (nomark _)) (qss_one (qs_ret (qe_tup (qa_cons (qe_str) (qa_cons (qe_op op_sub (qv 1) (qv 2)) qa_nil))))) (qss_nil))
   (qss_one (qs_ret (qe_tup (qa_cons (qe_str) (qa_cons (qe_cmpR op_ltA (qv 1) (qv 2) (nomark _)) qa_nil)))))),?_⟩
  unfold recT at q
  walk_at "r"
  rw [dec_str]
  refine ite2 (fun h=>?_) (fun h=>?_)
  ·have h:wd = "plus" := of_decide_eq_true h
   rw [if_pos h] at q
   walk_at "r"
   refine ⟨by show 2≤sizeLine; decide,fun p hp=>?_⟩
   exact q _ _ (Same.upd hp) ⟨rfl,p,rfl,SqT.of upd_same⟩
  have h:¬ wd = "plus" := fun x=>h (decide_eq_true x)
  rw [if_neg h] at q
  walk_at "r"
  rw [dec_str]
  refine ite2 (fun h=>?_) (fun h=>?_)
  ·have h:wd = "minus" := of_decide_eq_true h
   rw [if_pos h] at q
   walk_at "r"
   refine ⟨by show 2≤sizeLine; decide,fun p hp=>?_⟩
   exact q _ _ (Same.upd hp) ⟨rfl,p,rfl,SqT.of upd_same⟩
  have h:¬ wd = "minus" := fun x=>h (decide_eq_true x)
  rw [if_neg h] at q
  walk_at "r"
  refine ⟨by show 2≤sizeLine; decide,fun p hp=>?_⟩
  exact q _ _ (Same.upd hp) ⟨rfl,p,rfl,SqT.of upd_same⟩
theorem fn_cx {CX:CXT} {k:Nat} {f:Addr} {fd:FuncData} {ps:List Str} {sp:Sp} (F:FnOk P w K mg base CX0 k f fd ps sp):FnOk P w K mg base CX k f fd ps sp:=⟨F.len,fun A outer s H args us vs Q E hr he hb hv hs=>codeAny_mono (F.run A outer s H args us vs Q E hr he hb hv hs) fun r s' h=>by
 cases r with
 | ok f=>cases f <;> exact h
 | error e=>exact False.elim h⟩
theorem fn_or {CX:CXT} {k:Nat} {f:Addr} {fd:FuncData} {ps:List Str} {sp1 sp2:Sp} (F1:FnOk P w K mg base CX k f fd ps sp1) (F2:FnOk P w K mg base CX k f fd ps sp2):FnOk P w K mg base CX k f fd ps (fun vs H Q E=>sp1 vs H Q E∨sp2 vs H Q E) :=
 ⟨fun vs H Q E h=>h.elim (F1.len vs H Q E) (F2.len vs H Q E),fun A outer s H args us vs Q E hr he hb hv hs=>hs.elim (F1.run A outer s H args us vs Q E hr he hb hv) (F2.run A outer s H args us vs Q E hr he hb hv)⟩
noncomputable def sp_makeL (K:W.Frag) (C TL:Addr):Sp:=fun vs H _ E=>∃ (n:Int) (HB:Hp) (kvs:List (List Key×V)) (L:Ml) (S:MS),vs=[.ref L.m,.int n]∧MAt K HB C kvs L H S∧500 < S.steps + n∧∀ H',SameM L H H'→E (.ref TL) none H'
theorem ok_makeL {C N_TooLong:Addr} {f:Addr} {fd:FuncData} (F:Fun K "make_steps" "Machine.make_steps" s_Machine_make_steps f fd) (T:Txt K mg) (O:Mc K C) (G_MOST_STEPS:Glob mg "MOST_STEPS" (.int 500)) (R_TooLong:W.excIn K N_TooLong VE "ValueError.__new__" = true) (G_TooLong:mg "TooLong" = some (.ref N_TooLong)):FnOk P w K mg base (CXR P w) 1 f fd ["self", "many"] (sp_makeL K C N_TooLong):=by
 refine F.okx sc_Machine_make_steps (fun vs H Q E h=>?_) (fun cdv A outer s H vs Q E hr h=>?_)
 ·obtain ⟨n,HB,kvs,L,S,rfl,_⟩:=h
  rfl
 ·obtain ⟨n,HB,kvs,L,S,rfl,M,hn,q⟩:=h
  refine ⟨_,qss_cons (qs_fldaugK K (qv 0) (qv 1) in_add)
   (qss_one (qs_if (qt_cmpR op_gt (qe_fldK K (qv 0)) (qe_gl G_MOST_STEPS) (nomark _)) (qss_one (qs_raise rfl R_TooLong G_TooLong (qa_cons (qe_str) qa_nil) (fun _ _ _ _ _ _ _ I x h0 hn he=>raises_cx I x h0 hn he) rfl)) (qss_nil))),?_⟩
  walk_at "r"
  refine ⟨_,rfl,L.m,C,L.dx,_,_,rfl,M.ins,O.cl,O.ns,fs_steps L S.steps,_,rfl,?_⟩
  refine ⟨_,_,rfl,rfl,L.dx,_,M.ins,by show 5 < 1000; decide,?_⟩
  rw [fs_put]
  have M1:=M.setSteps (S.steps + n)
  have e1:SameM L H (upd H L.m (.ins C L.dx (L.fs (S.steps + n)))):=SameM.upd (.inl rfl)
  revert M1 e1
  generalize upd H L.m (.ins C L.dx (L.fs (S.steps + n)))=H1
  intro M1 e1
  walk_at "r"
  refine ⟨_,rfl,L.m,C,L.dx,_,_,rfl,M1.ins,O.cl,O.ns,fs_steps L (S.steps + n),?_⟩
  walk_at "r"
  rw [decide_eq_true (by omega)]
  walk_at "r"
  exact ⟨by show 1≤sizeLine; decide,q _ e1⟩
noncomputable def sp_comeL (K:W.Frag) (C TL:Addr):Sp:=fun vs H _ E=>∃ (p e:Addr) (pl:List Nat) (ev:List V) (ar:List (Str×Str×V)) (HB:Hp) (kvs:List (List Key×V)) (L:Ml) (S:MS) (v:V) (wd:Str) (d:Dt) (ts:List Tr),vs=[.ref L.m,.ref p,.ref e]∧MAt K HB C kvs L H S∧H p=some (.tup (plV pl))∧H e=some (.lst ev)∧Al (PrAt K H) ev ar∧¬ L.A e∧valV kvs (plK pl)=some v∧TrAt K H v (.mk wd d ts)∧wd ≠ "gap" ∧ 500 < S.steps + 1 ∧
 ∀ H',SameM L H H'→E (.ref TL) none H'
theorem ok_comeL {C TL:Addr} {f:Addr} {fd:FuncData} (F:Fun K "come_to" "Machine.come_to" s_Machine_come_to f fd) (T:Txt K mg) (O:Mc K C) {ap:Addr} {pk:List (Str×V)} (G_PARTS_AWAITED:Glob mg "PARTS_AWAITED" (.ref ap)) (hpa:DkK P w K ap pk) (hpk:∀ wd,(lookD pk wd).isSome=(partsA wd).isSome∧∀ ns,partsA wd=some ns→∃ b,lookD pk wd=some (.ref b)∧∀ H,SqT K H b (ns.map V.int))
  (MS_:MethX (CXR P w) P w K mg base 1 C "make_steps" ["self", "many"] (sp_makeL K C TL)) (MLf:MethX CX0 P w K mg base 2 C "thing_of_leaf" ["self", "word", "note", "place", "around"] (sp_leaf K C)):FnOk P w K mg base (CXR P w) 3 f fd ["self", "place", "around"] (sp_comeL K C TL):=by
 refine F.okx sc_Machine_come_to (fun vs H Q E h=>?_) (fun cdv A outer s H vs Q E hr h=>?_)
 ·obtain ⟨p,e,pl,ev,ar,HB,kvs,L,S,v,wd,d,ts,rfl,_⟩:=h
  rfl
 ·obtain ⟨p,e,pl,ev,ar,HB,kvs,L,S,v,wd,d,ts,rfl,M,hp,he,ale,nA,hv,ht,hg,h5,q⟩:=h
  refine ⟨_,qss_cons (qs_asg (qe_slice (k_sl K) (qe_dget hr.u1 (qe_fldK K (qv 0)) (qv 1) (fun _ _=>rfl)) (qo_none) (qo_some (qe_int))) (qg_tupK K (n:=2) rfl (qgs_cons (qg_name (i:=3) sc_Machine_come_to.nd rfl (Or.inl rfl)) (qgs_cons (qg_name (i:=4) sc_Machine_come_to.nd rfl (Or.inl rfl)) (qgs_nil)))))
   (qss_cons (qs_if (qt_cmpR (k_ne K hr.u200) (qv 3) (qe_str) (nomark _)) (qss_one (qs_expr (qe_methD (k:=1) K (CXR P w) ["self", "many"] (qv 0) (hr.mono (by decide)) (passes_cx (fun _ _ _ h=>h)) (qa_cons (qe_int) qa_nil)))) (qss_nil))
   (qss_one (qs_if (qt_cmpR (k_inD P w K) (qv 3) (qe_gl G_PARTS_AWAITED) (by rfl)) (qss_cons (qs_expr (qe_bmK K PySem.F.plainAttrs_list PySem.F.slot_list_append PySem.F.type_list_append mt_append (qe_fldK K (qv 0)) (qa_cons (qe_tup (qa_cons (qv 1) (qa_cons (qv 2) (qa_cons (qe_bl) qa_nil)))) qa_nil)))
   (qss_one (qs_expr (qe_bmK K PySem.F.plainAttrs_list PySem.F.slot_list_extend PySem.F.type_list_extend mt_extend (qe_fldK K (qv 0)) (qa_cons (qe_comp (N:=["number", "around", "place"]) (σ0:=capSt 1 [2,1]) rfl (cscope_fn rfl (by decide +kernel) (by decide +kernel) (by decide +kernel)) (qi_anyK K (qe_ix (k_ixD P w K) (qe_gl G_PARTS_AWAITED) (qv 3) (fun _ _=>rfl))) (takes_in rfl (by rfl)) (fun _ _ _ _=>qg_name (i:=0) nd_Machine_come_to_1 rfl (Or.inl rfl)) (fun _ _ _ _=>qts_nil) (fun _ _ _ _=>qe_tup (qa_cons (qe_op (k_addP K) (qv 2) (qe_tup (qa_cons (qv 0) qa_nil))) (qa_cons (qv 1) (qa_cons (qe_bl) qa_nil))))) qa_nil))))) (qss_one (qs_expr (qe_bmK K PySem.F.plainAttrs_list PySem.F.slot_list_append PySem.F.type_list_append mt_append (qe_fldK K (qv 0)) (qa_cons (qe_methD (k:=2) K CX0 ["self", "word", "note", "place", "around"] (qv 0) (hr.mono (by decide)) pass0 (qa_cons (qv 3) (qa_cons (qv 4) (qa_cons (qv 1) (qa_cons (qv 2) qa_nil))))) qa_nil))))))),?_⟩
  have bg:=big
  cases ht with
  | @mk b pp _ nv _ vs _ qb hn qpp hl hch =>
  walk_at "r"
  refine ⟨_,rfl,L.m,C,L.dx,_,_,rfl,M.ins,O.cl,O.nf,fs_forms L S.steps,_,rfl,L.fd,.ref b,rfl,?_,?_⟩
  ·rw [← hv]
   refine DGet.t M.frm ?_
   rw [plK_kV]
   exact hp
  walk_at "r"
  refine .inr (.inr ⟨b,_,rfl,qb,by show ¬(HT.sIx 3 0 none=0∧HT.sIx 3 3 (some 2)=3); decide,fun p1 h1=>?_⟩)
  rw [show cutV [V.str wd,nv,.ref pp] none (some 2)=[V.str wd,nv] from rfl]
  have s1:Same H (upd H p1 (.tup [.str wd,nv])):=Same.upd h1
  have e1:upd H p1 (.tup [.str wd,nv]) p1=some (.tup [.str wd,nv]):=upd_same
  have hp1:=s1 _ _ hp
  have he1:=s1 _ _ he
  have M1:=M.new s1
  have hn1:IsN K (upd H p1 (.tup [.str wd,nv])) nv d:=hn.same s1.t
  revert s1 e1 hp1 he1 M1 hn1
  generalize upd H p1 (.tup [.str wd,nv])=H1
  intro s1 e1 hp1 he1 M1 hn1
  refine s_gtup (SqT.of e1) rfl ?_
  refine s_gcons ?_
  refine s_gname ?_
  refine s_gcons ?_
  refine s_gname ?_
  refine s_gnil ?_
  with_reducible refine s_seq ?_
  walk_at "r"
  rw [decide_eq_false (fun h=>hg (V.str.inj h))]
  walk_at "r"
  refine ⟨_,rfl,L.m,C,L.dx,_,_,rfl,M1.ins,(fs_no L S.steps).1,MS_,?_⟩
  walk_at "r"
  exact ⟨1,HB,kvs,L,S,rfl,M1,h5,fun H2 e2=>q _ ((s1.m L).trans e2)⟩
noncomputable def sp_placed (K:W.Frag):Sp:=fun vs H Q _=>∃ (v:V) (t:Tr),vs=[v]∧TrAt K H v t∧t.size≤2000∧∀ (p:Addr) (rows:List V) (H':Hp),Same H H'→H p=none→H' p=some (.lst rows)→Al (RowT K H') rows (walk [] t)→Q (.ref p) H'
theorem sc_placed_forms:FnScope ["tree", "told", "waiting", "pair", "number", "part"] ["tree"] (defScope s_placed_forms):=⟨rfl,rfl,rfl,by decide +kernel,rfl,by decide +kernel,by decide +kernel⟩
noncomputable def PlJ (K:W.Frag) (H:Hp) (v:V) (t:Tr) (pt pw:Addr) (m:Nat) (σ:St) (H':Hp):Prop:=∃ (v3 v4 v5:Option V) (tv wv:List V) (dn st:List (List Nat×Tr)),σ=[some v,some (.ref pt),some (.ref pw),v3,v4,v5]∧H' pt=some (.lst tv)∧H' pw=some (.lst wv) ∧
 Al (RowT K H') tv dn∧Al (RowT K H') wv st∧dn++todo st=walk [] t∧m=load st∧Same H H'
theorem ok_placed {f:Addr} {fd:FuncData} (F:Fun K "placed_forms" "placed_forms" s_placed_forms f fd) (T:Txt K mg):FnOk P w K mg base CX0 1 f fd ["tree"] (sp_placed K):=by
 refine F.okq sc_placed_forms (fun vs H Q E h=>?_) (fun cdv A outer s H vs Q E hr h=>?_)
 ·obtain ⟨v,t,rfl,_⟩:=h
  rfl
 ·obtain ⟨v,t,rfl,ht,hz,q⟩:=h
  refine ⟨_,qss_cons (qs_set (i:=1) sc_placed_forms.nd rfl (Or.inl rfl) (qe_lst (qa_nil)))
   (qss_cons (qs_set (i:=2) sc_placed_forms.nd rfl (Or.inl rfl) (qe_lst (qa_cons (qe_tup (qa_cons (qe_tup (qa_nil)) (qa_cons (qv 0) qa_nil))) qa_nil)))
   (qss_cons (qs_while PassesOwn.never (qt_truthK K (qv 2) (by intro _; rfl)) (qss_cons (qs_set (i:=3) sc_placed_forms.nd rfl (Or.inl rfl) (qe_bm0K K PySem.F.plainAttrs_list PySem.F.slot_list_pop PySem.F.type_list_pop mt_pop (qv 2)))
   (qss_cons (qs_expr (qe_bmK K PySem.F.plainAttrs_list PySem.F.slot_list_append PySem.F.type_list_append mt_append (qv 1) (qa_cons (qv 3) qa_nil)))
   (qss_one (qs_for PassesOwn.never rfl (qi_revK K rfl T.reversed (qa_cons (qe_list_enumerateK K (by rfl) T.list (by rfl) T.enumerate (qa_cons (qe_ix (k_ix K) (qe_ix (k_ix K) (qv 3) (qe_int) (fun _ _=>rfl)) (qe_int) (fun _ _=>rfl)) qa_nil)) qa_nil)) (qg_tupK K (n:=2) rfl (qgs_cons (qg_name (i:=4) sc_placed_forms.nd rfl (Or.inl rfl)) (qgs_cons (qg_name (i:=5) sc_placed_forms.nd rfl (Or.inl rfl)) (qgs_nil)))) (qss_one (qs_expr (qe_bmK K PySem.F.plainAttrs_list PySem.F.slot_list_append PySem.F.type_list_append mt_append (qv 2) (qa_cons (qe_tup (qa_cons (qe_op (k_addP K) (qe_ix (k_ix K) (qv 3) (qe_int) (fun _ _=>rfl)) (qe_tup (qa_cons (qv 4) qa_nil))) (qa_cons (qv 5) qa_nil))) qa_nil)))))))))
   (qss_one (qs_ret (qv 1))))),?_⟩
  have bg:=big
  walk_at "r"
  refine ⟨by show 0≤sizeLine; decide,fun pt hpt=>?_⟩
  walk_at "r"
  refine ⟨by show 0≤sizeLine; decide,fun p0 hp0=>?_⟩
  walk_at "r"
  refine ⟨by show 2≤sizeLine; decide,fun p1 hp1=>?_⟩
  walk_at "r"
  refine ⟨by show 1≤sizeLine; decide,fun pw hpw=>?_⟩
  walk_at "r"
  have s0:Same (upd H pt (.lst [])) _:=((Same.upd (o:=.tup []) hp0).put (o:=.tup [.ref p0,v]) hp1).put (o:=.lst [.ref p1]) hpw
  have s1:Same (upd (upd H pt (.lst [])) p0 (.tup [])) _:=(Same.upd (o:=.tup [.ref p0,v]) hp1).put (o:=.lst [.ref p1]) hpw
  have s2:=Same.upd (o:=.lst [.ref p1]) hpw
  have sH:=(Same.upd (o:=.lst []) hpt).trans s0
  have ept:=s0 pt _ upd_same
  have epw:upd (upd (upd (upd H pt (.lst [])) p0 (.tup [])) p1 (.tup [.ref p0,v])) pw (.lst [.ref p1]) pw=some (.lst [.ref p1]):=upd_same
  have ep0:=s1 p0 _ upd_same
  have ep1:=s2 p1 _ upd_same
  have npw:pt≠pw:=fun z=>by rw [z] at ept; rw [upd_same] at ept; cases ept
  have hpw0:H pw=none:=((Same.upd (o:=.lst []) hpt).trans ((Same.upd (o:=.tup []) hp0).put (o:=.tup [.ref p0,v]) hp1)).free hpw
  refine ⟨PlJ K H v t pt pw,⟨_,none,none,none,[],[.ref p1],[],[([],t)],rfl,ept,epw,.nil,Al.nil.snoc ⟨p1,p0,v,rfl,SqT.of ep1,ep0,ht.same sH⟩,by simp [todo],rfl,sH⟩,?_⟩
  rintro m σ' H' ⟨v3,v4,v5,tv,wv,dn,st,rfl,et,ew,al1,al2,hw,rfl,sm⟩
  have hdl:dn.length + load st=t.size:=by
   have:=congrArg List.length hw
   rw [List.length_append,walk_len] at this
   exact this
  have htl:tv.length=dn.length:=al1.1
  walk_at "r"
  refine s_tru_lst (SqL.of ew) ?_
  by_cases hwv:wv=[]
  ·subst hwv
   have hst:st=[]:=List.eq_nil_of_length_eq_zero al2.1.symm
   subst hst
   refine iteF ?_
   walk_at "r"
   rw [todo_nil,List.append_nil] at hw
   rw [hw] at al1
   exact q pt tv H' sm hpt et al1
  obtain ⟨wv',tp,st',x,rfl,rfl,al3,hrow⟩:=al2.last hwv
  have hne:(!(wv'++[tp]).isEmpty)=true:=by simp
  rw [hne]
  refine iteT ?_
  obtain ⟨pl,tx⟩:=x
  have hx:(pl,tx)∈walk [] t:=by rw [← hw,todo_pop]; simp
  have hpl:pl.length≤2000:=by have:=walk_depth [] t _ hx; simp at this; omega
  have hload:=load_pop st' (pl,tx)
  have hll:=load_len (st'++(kids pl 0 tx.ps).reverse)
  refine ⟨fun σ2 H2=>∃ m',m' < load (st'++[(pl,tx)])∧PlJ K H v t pt pw m' σ2 H2,fun _ _ h=>h,?_⟩
  walk_at "r"
  refine s_tyL (SqL.of ew) ?_
  refine s_pop ew ?_
  have t1:SameT H' (upd H' pw (.lst wv')):=SameT.set ew
  have et2:upd H' pw (.lst wv') pt=some (.lst tv):=by rw [upd_ne npw]; exact et
  walk_at "r"
  refine s_tyL (SqL.of et2) ?_
  walk_at "r"
  refine s_app et2 (by omega) ?_
  have t2:SameT H' (upd (upd H' pw (.lst wv')) pt (.lst (tv++[tp]))):=t1.trans (SameT.set et2)
  have et3:upd (upd H' pw (.lst wv')) pt (.lst (tv++[tp])) pt=some (.lst (tv++[tp])):=upd_same
  have ew3:upd (upd H' pw (.lst wv')) pt (.lst (tv++[tp])) pw=some (.lst wv'):=by rw [upd_ne npw.symm,upd_same]
  have sm3:Same H (upd (upd H' pw (.lst wv')) pt (.lst (tv++[tp]))):=(sm.over hpw0).over hpt
  revert t2 et3 ew3 sm3
  generalize upd (upd H' pw (.lst wv')) pt (.lst (tv++[tp]))=H3
  intro t2 et3 ew3 sm3
  have hrow3:=RowT.same t2 _ _ hrow
  obtain ⟨a,p,u,rfl,qa,qp,hu⟩:=id hrow3
  cases hu with
  | @mk b pp wd nv n vs ts qb hn qpp hl hch =>
  walk_at "r"
  refine s_ix_tup qa rfl ?_
  walk_at "r"
  refine s_ix_tup qb rfl ?_
  walk_at "r"
  refine ⟨pp,vs,rfl,qpp,fun S ys H4 hS s4 hl4 hpairs hS4=>?_⟩
  walk_at "r"
  refine ⟨S,ys,rfl,SqL.of hS4,?_⟩
  have nSp:pw≠S:=ne_of_none ew3 hS
  have nSt:pt≠S:=ne_of_none et3 hS
  have al4:Al (RowT K H4) wv' st':=al3.mono (RowT.same (t2.trans s4.t))
  have hkl:(kids pl 0 ts).length=ys.length:=by rw [kids_len]; omega
  refine for_rev (K:=K) (a:=S) (xs:=ys) (fun j σ5 H5=>∃ (v4 v5:Option V) (wv5:List V),σ5=[some v,some (.ref pt),some (.ref pw),some (.ref a),v4,v5]∧H5 pt=some (.lst (tv++[.ref a]))∧H5 pw=some (.lst wv5)∧H5 S=some (.lst ys)∧Al (RowT K H5) wv5 (st'++((kids pl 0 ts).drop (ys.length - j)).reverse)∧SameT H4 H5∧Same H H5)
   ⟨_,_,wv',rfl,s4 _ _ et3,s4 _ _ ew3,hS4,by rw [Nat.sub_zero,List.drop_of_length_le (by omega)]; simpa using al4,SameT.refl _,sm3.trans s4⟩ ?_ ?_ ?_
  ·rintro j σ5 H5 _ ⟨_,_,_,_,_,_,e,_⟩
   exact SqL.of e
  ·rintro i y σ5 H5 hi hy ⟨v4',v5',wv5,rfl,e5t,e5w,e5s,al5,t5,sm5⟩
   obtain ⟨tt,xw,rfl,hxw,htt⟩:=hpairs _ _ hy
   have htt5:=(t5 tt).1 _ htt
   walk_at "r"
   refine s_gtup (SqT.of htt5) rfl ?_
   walk_at "r"
   refine s_tyL (SqL.of e5w) ?_
   walk_at "r"
   have T5:SameT H3 H5:=s4.t.trans t5
   refine s_ix_tup (T5.tup qa) rfl ?_
   walk_at "r"
   refine ⟨by show 1≤sizeLine; decide,fun p6 h6=>?_⟩
   refine s_addp (((T5.trans (SameT.new h6)) p).1 _ qp) upd_same (by show (plV pl).length + 1≤sizeLine; unfold plV; rw [List.length_map]; omega) fun r H7 s7 q7=>?_
   walk_at "r"
   refine ⟨by show 2≤sizeLine; decide,fun p7 h7=>?_⟩
   walk_at "r"
   have s57:Same H5 H7:=(Same.upd h6).trans s7
   have s58:=s57.put (o:=.tup [.ref r,xw]) h7
   have hlw:wv5.length=st'.length + ((kids pl 0 ts).drop (ys.length - i)).length:=by have:=al5.1; simp at this ⊢; omega
   have hlk:(st'++(kids pl 0 ts).reverse).length=st'.length + ys.length:=by rw [List.length_append,List.length_reverse,hkl]
   have hll':(st'++(kids pl 0 ts).reverse).length≤2000:=by
    have h1:load (st'++(kids pl 0 (Tr.mk wd n ts).ps).reverse) < load (st'++[(pl,Tr.mk wd n ts)]):=hload
    have h2:(st'++(kids pl 0 (Tr.mk wd n ts).ps).reverse).length≤load (st'++(kids pl 0 (Tr.mk wd n ts).ps).reverse):=hll
    have h3:(Tr.mk wd n ts).ps=ts:=rfl
    rw [h3] at h1 h2
    omega
   have hdr:((kids pl 0 ts).drop (ys.length - i)).length≤ys.length:=by rw [List.length_drop]; omega
   refine s_app (s58 _ _ e5w) (by omega) ?_
   have e8w:=s58 _ _ e5w
   have t9:SameT H5 (upd (upd H7 p7 (.tup [.ref r,xw])) pw (.lst (wv5++[.ref p7]))):=s58.t.trans (SameT.set e8w)
   obtain ⟨tk,htk,hat⟩:∃ tk,ts[ys.length - 1 - i]?=some tk∧TrAt K H3 xw tk:=by
    have hj:=(List.getElem?_eq_some_iff.mp hxw).1
    have hj':ys.length - 1 - i < ts.length:=by omega
    exact ⟨_,List.getElem?_eq_getElem hj',hch _ _ _ hxw (List.getElem?_eq_getElem hj')⟩
   have hkid:(kids pl 0 ts)[ys.length - 1 - i]?=some (pl++[ys.length - 1 - i],tk):=by
    rw [kids_get,htk]
    simp
   refine ⟨_,_,wv5++[.ref p7],rfl,?_,upd_same,?_,?_,t5.trans t9,(sm5.trans s58).over hpw0⟩
   ·rw [upd_ne npw]; exact s58 _ _ e5t
   ·rw [upd_ne nSp.symm]; exact s58 _ _ e5s
   ·rw [drop_step hkl hi hkid,← List.append_assoc]
    refine (al5.mono (RowT.same t9)).snoc ⟨p7,r,xw,rfl,(SameT.set e8w).tup (SqT.of upd_same),?_,hat.sameT (T5.trans t9)⟩
    have q9:=(((SameT.new (o:=.tup [.ref r,xw]) h7).trans (SameT.set (o:=.lst (wv5++[.ref p7])) e8w)) r).1 _ q7
    have e:plV (pl++[ys.length - 1 - i])=plV pl++[.int ((ys.length - 1 - i:Nat):Int)]:=by unfold plV; rw [List.map_append]; rfl
    show upd _ _ _ r=some (.tup (plV (pl++[ys.length - 1 - i])))
    rw [e]
    exact q9
  ·rintro σ5 H5 ⟨v4',v5',wv5,rfl,e5t,e5w,e5s,al5,t5,sm5⟩
   rw [Nat.sub_self,List.drop_zero] at al5
   refine ⟨_,hload,_,_,_,tv++[.ref a],wv5,dn++[(pl,.mk wd n ts)],_,rfl,e5t,e5w,?_,al5,?_,rfl,sm5⟩
   ·exact (al1.mono (RowT.same (t2.trans (s4.t.trans t5)))).snoc (RowT.same (s4.t.trans t5) _ _ hrow3)
   ·rw [← hw,todo_pop,List.append_assoc]
    rfl
noncomputable def isFnT (rs:List Rx) (x:Str×V):Bool:=match x with
 | (w,.int k)=>decide (w = "row") && (match rs[k.toNat]? with | some r=>decide (r.wd∈(["fn", "rec"]:List Str)) | none=>false)
 | _=>false
noncomputable def RowOk (rs:List Rx) (x:Str×V):Prop:=x.1 = "row" → ∃ k:Nat,x.2=.int (k:Nat)∧k < rs.length
noncomputable def sp_fin (K:W.Frag):Sp:=fun vs H Q _=>∃ (v:V) (x:Str×V) (r:Addr) (rv:List V) (A:Addr→Prop) (rs:List Rx),vs=[v,.ref r]∧ThAt K H v x∧x.1 = "row" ∧ RowOk rs x∧H r=some (.lst rv)∧Al (RwAt K A H) rv rs∧∀ H',Same H H'→Q (.bl (isFnT rs x)) H'
theorem sc_is_finished:FnScope ["thing", "rows"] ["thing", "rows"] (defScope s_is_finished):=⟨rfl,rfl,rfl,by decide +kernel,rfl,by decide +kernel,by decide +kernel⟩
theorem ok_fin {f:Addr} {fd:FuncData} (F:Fun K "is_finished" "is_finished" s_is_finished f fd) (T:Txt K mg):FnOk P w K mg base CX0 1 f fd ["thing", "rows"] (sp_fin K):=by
 refine F.okq sc_is_finished (fun vs H Q E h=>?_) (fun cdv A outer s H vs Q E hr h=>?_)
 ·obtain ⟨v,x,r,rv,A,rs,rfl,_⟩:=h
  rfl
 ·obtain ⟨v,x,r,rv,B,rs,rfl,hx,hw,ok,er,al,q⟩:=h
  refine ⟨_,qss_one (qs_ret (qe_or (qe_cmpR (k_ne K hr.u200) (qe_ix (k_ix K) (qv 0) (qe_int) (fun _ _=>rfl)) (qe_str) (nomark _)) (qe_one (qe_cmpR (k_in K) (qe_ix (k_ix K) (qe_ix (k_ix K) (qv 1) (qe_ix (k_ix K) (qv 0) (qe_int) (fun _ _=>rfl)) (fun _ _=>rfl)) (qe_int) (fun _ _=>rfl)) (qe_tup (qa_cons (qe_str) (qa_cons (qe_str) qa_nil))) (by rfl))))),?_⟩
  obtain ⟨hf,a,rfl,qa⟩:=hx
  obtain ⟨k,ek,hk⟩:=ok hw
  obtain ⟨xw,xv⟩:=x
  have hw:xw = "row" := hw
  have ek:xv=.int (k:Nat):=ek
  subst hw ek
  have hkr:k < rv.length:=by rw [al.1]; exact hk
  obtain ⟨y,hy,a2,p2,o2,e2,ov,ev,h1,h2,_⟩:=al.get (List.getElem?_eq_getElem hkr)
  have ef:isFnT rs ("row",.int (k:Nat))=decide (y.wd∈(["fn", "rec"]:List Str)):=by
   unfold isFnT
   simp only [Int.toNat_natCast,hy,decide_true,Bool.true_and]
  rw [ef] at q
  walk_at "r"
  refine s_ix_tup qa rfl ?_
  walk_at "r"
  rw [decide_eq_true (Eq.refl _)]
  walk_at "r"
  refine s_ix_tup qa rfl ?_
  walk_at "r"
  refine s_ix_lst (SqL.of er) (atI_nat (List.getElem?_eq_getElem hkr)) ?_
  rw [h1]
  walk_at "r"
  refine s_ix_tup h2 rfl ?_
  walk_at "r"
  refine ⟨by show 2≤sizeLine; decide,fun p1 hp1=>?_⟩
  refine s_in_seq (.inr (SqT.of upd_same)) rfl rfl ?_
  rw [if_neg Bool.false_ne_true,show inV (.str y.wd) [.str "fn",.str "rec"]=decide (y.wd∈(["fn", "rec"]:List Str)) from in_dec (ws:=["fn", "rec"])]
  exact q _ (Same.upd hp1)
noncomputable def boundN (wd:Str) (d:Dt) (n:Int):List Str :=
 if wd = "fn" then (match d with | .flat (.str z)=>[z] | _=>[])
 else if wd = "rec" then (match d with | .tup [.flat (.str y),.flat (.str z)]=>[y,z] | _=>[])
 else if wd = "let" ∧ n=1 then (match d with | .flat (.str z)=>[z] | _=>[])
 else []
noncomputable def BindOk (wd:Str) (d:Dt):Prop:=(wd = "fn" ∨ wd = "let" → ∃ z,d=.flat (.str z))∧(wd = "rec" → ∃ y z,d=.tup [.flat (.str y),.flat (.str z)])
noncomputable def sp_bound (K:W.Frag):Sp:=fun vs H Q _=>∃ (v:V) (wd:Str) (d:Dt) (ts:List Tr) (n:Int),vs=[v,.int n]∧TrAt K H v (.mk wd d ts)∧BindOk wd d∧∀ l H',Same H H'→H l=none→H' l=some (.lst ((boundN wd d n).map V.str))→Q (.ref l) H'
theorem sc_names_bound:FnScope ["form", "number"] ["form", "number"] (defScope s_names_bound):=⟨rfl,rfl,rfl,by decide +kernel,rfl,by decide +kernel,by decide +kernel⟩
theorem ok_bound {f:Addr} {fd:FuncData} (F:Fun K "names_bound" "names_bound" s_names_bound f fd) (T:Txt K mg):FnOk P w K mg base CX0 1 f fd ["form", "number"] (sp_bound K):=by
 refine F.okq sc_names_bound (fun vs H Q E h=>?_) (fun cdv A outer s H vs Q E hr h=>?_)
 ·obtain ⟨v,wd,d,ts,n,rfl,_⟩:=h
  rfl
 ·obtain ⟨v,wd,d,ts,n,rfl,ht,ok,q⟩:=h
  refine ⟨_,qss_cons (qs_if (qt_cmpR (k_eq K hr.u200) (qe_ix (k_ix K) (qv 0) (qe_int) (fun _ _=>rfl)) (qe_str) (nomark _)) (qss_one (qs_ret (qe_lst (qa_cons (qe_ix (k_ix K) (qv 0) (qe_int) (fun _ _=>rfl)) qa_nil)))) (qss_nil))
   (qss_cons (qs_if (qt_cmpR (k_eq K hr.u200) (qe_ix (k_ix K) (qv 0) (qe_int) (fun _ _=>rfl)) (qe_str) (nomark _)) (qss_one (qs_ret (qe_callTy (k_list K) (by rfl) T.list (by decide +kernel) (qa_cons (qe_ix (k_ix K) (qv 0) (qe_int) (fun _ _=>rfl)) qa_nil)))) (qss_nil))
   (qss_cons (qs_if (QW.qt (qw_and (qt_cmpR (k_eq K hr.u200) (qe_ix (k_ix K) (qv 0) (qe_int) (fun _ _=>rfl)) (qe_str) (nomark _)) (qw_and1 (qt_cmpR (k_eq K hr.u200) (qv 1) (qe_int) (nomark _))))) (qss_one (qs_ret (qe_lst (qa_cons (qe_ix (k_ix K) (qv 0) (qe_int) (fun _ _=>rfl)) qa_nil)))) (qss_nil))
   (qss_one (qs_ret (qe_lst (qa_nil)))))),?_⟩
  cases ht with
  | @mk b pp _ nv _ vs _ qb hn qpp hl hch =>
  have flat:∀ z,d=.flat (.str z)→nv=.str z:=by
   intro z e
   rcases hn with ⟨_,h⟩ | ⟨_,_,_,_,_,h⟩
   ·rw [e] at h; injection h with h; exact h.symm
   ·rw [e] at h; cases h
  unfold boundN at q
  walk_at "r"
  refine s_ix_tup qb rfl ?_
  walk_at "r"
  rw [dec_str]
  refine ite2 (fun h=>?_) (fun h=>?_)
  ·have h:wd = "fn" := of_decide_eq_true h
   obtain ⟨z,rfl⟩:=ok.1 (.inl h)
   have:=flat z rfl
   subst this
   rw [if_pos h] at q
   walk_at "r"
   refine s_ix_tup qb rfl ?_
   walk_at "r"
   refine ⟨by show 1≤sizeLine; decide,fun l hl'=>?_⟩
   exact q l _ (Same.upd hl') hl' upd_same
  have h:¬ wd = "fn" := fun x=>h (decide_eq_true x)
  rw [if_neg h] at q
  walk_at "r"
  refine s_ix_tup qb rfl ?_
  walk_at "r"
  rw [dec_str]
  refine ite2 (fun h=>?_) (fun h=>?_)
  ·have h:wd = "rec" := of_decide_eq_true h
   obtain ⟨y,z,rfl⟩:=ok.2 h
   rw [if_pos h] at q
   obtain ⟨a,us,rfl,qa,hus⟩:∃ a us,nv=.ref a∧SqT K H a us∧us=[.str y,.str z]:=by
    rcases hn with ⟨_,h⟩ | ⟨a,us,e,qa,_,h⟩
    ·cases h
    ·refine ⟨a,us,e,qa,?_⟩
     injection h with h
     match us,h with
     | [u1,u2],h =>
      simp only [List.map_cons,List.map_nil,List.cons.injEq,Dt.flat.injEq,and_true] at h
      rw [h.1,h.2]
   subst hus
   walk_at "r"
   refine s_ix_tup qb rfl ?_
   walk_at "r"
   refine ⟨a,_,rfl,.inr qa,fun l hl'=>?_⟩
   exact q l _ (Same.upd hl') hl' upd_same
  have h:¬ wd = "rec" := fun x=>h (decide_eq_true x)
  rw [if_neg h] at q
  walk_at "r"
  refine s_ix_tup qb rfl ?_
  walk_at "r"
  rw [dec_str]
  by_cases hlet:wd = "let"
  ·rw [decide_eq_true hlet]
   walk_at "r"
   by_cases hn1:n=1
   ·rw [decide_eq_true (by rw [hn1])]
    obtain ⟨z,rfl⟩:=ok.1 (.inr hlet)
    have:=flat z rfl
    subst this
    rw [if_pos ⟨hlet,hn1⟩] at q
    walk_at "r"
    refine s_ix_tup qb rfl ?_
    walk_at "r"
    refine ⟨by show 1≤sizeLine; decide,fun l hl'=>?_⟩
    exact q l _ (Same.upd hl') hl' upd_same
   ·rw [decide_eq_false (fun h=>hn1 (V.int.inj h))]
    rw [if_neg (fun h=>hn1 h.2)] at q
    walk_at "r"
    refine ⟨by show 0≤sizeLine; decide,fun l hl'=>?_⟩
    exact q l _ (Same.upd hl') hl' upd_same
  ·rw [decide_eq_false hlet]
   rw [if_neg (fun h=>hlet h.1)] at q
   walk_at "r"
   refine ⟨by show 0≤sizeLine; decide,fun l hl'=>?_⟩
   exact q l _ (Same.upd hl') hl' upd_same
noncomputable def sp_isfn (K:W.Frag) (C:Addr):Sp:=fun vs H Q _=>∃ (v:V) (x:Str×V) (HB:Hp) (kvs:List (List Key×V)) (L:Ml) (S:MS),vs=[.ref L.m,v]∧MAt K HB C kvs L H S∧ThAt K H v x∧RowOk S.rows x∧∀ H',Same H H'→Q (.bl (isFnT S.rows x)) H'
theorem sc_Machine_is_function:FnScope ["self", "thing"] ["self", "thing"] (defScope s_Machine_is_function):=⟨rfl,rfl,rfl,by decide +kernel,rfl,by decide +kernel,by decide +kernel⟩
theorem ok_isfn {C:Addr} {f:Addr} {fd:FuncData} (F:Fun K "is_function" "Machine.is_function" s_Machine_is_function f fd) (T:Txt K mg) (O:Mc K C) (C_is_finished:Callee P w K mg base 1 "is_finished" ["thing", "rows"] (sp_fin K)):FnOk P w K mg base CX0 2 f fd ["self", "thing"] (sp_isfn K C):=by
 refine F.okq sc_Machine_is_function (fun vs H Q E h=>?_) (fun cdv A outer s H vs Q E hr h=>?_)
 ·obtain ⟨v,x,HB,kvs,L,S,rfl,_⟩:=h
  rfl
 ·obtain ⟨v,x,HB,kvs,L,S,rfl,M,hx,ok,q⟩:=h
  refine ⟨_,qss_one (qs_ret (qe_and (qe_cmpR (k_eq K hr.u200) (qe_ix (k_ix K) (qv 1) (qe_int) (fun _ _=>rfl)) (qe_str) (nomark _)) (qe_one (qe_fn C_is_finished (hr.mono (by decide)) (qa_cons (qv 1) (qa_cons (qe_fldK K (qv 0)) qa_nil)))))),?_⟩
  obtain ⟨hf,a,rfl,qa⟩:=id hx
  obtain ⟨rv,er,ar,spr⟩:=M.rows
  walk_at "r"
  refine s_ix_tup qa rfl ?_
  walk_at "r"
  rw [dec_str]
  by_cases hw:x.1 = "row"
  ·rw [decide_eq_true hw]
   walk_at "r"
   refine ⟨_,rfl,L.m,C,L.dx,_,_,rfl,M.ins,O.cl,O.nr,fs_rows L S.steps,?_⟩
   walk_at "r"
   exact ⟨_,x,L.rd,rv,_,S.rows,rfl,hx,hw,ok,er,ar.mono fun v x h=>h.1,q⟩
  ·rw [decide_eq_false hw]
   have e:isFnT S.rows x=false:=by
    unfold isFnT
    split
    ·simp only at hw
     rw [decide_eq_false hw]
     rfl
    ·rfl
   rw [e] at q
   walk_at "r"
   exact q H (Same.refl _)
noncomputable def zipA (ns:List Str) (xs:List (Str×V)):List (Str×Str×V):=ns.zip xs
noncomputable def inS (S:MS) (wd:Str) (d:Dt) (pl:List Nat) (n:Nat) (ar:List (Str×Str×V)) (xs:List (Str×V)):MS:={ S with wait:=S.wait++[⟨pl++[n],ar++zipA (boundN wd d n) xs,false⟩] }
noncomputable def sp_within (K:W.Frag) (C:Addr):Sp:=fun vs H Q _=>∃ (p e o:Addr) (n:Nat) (pl:List Nat) (ev ov:List V) (ar:List (Str×Str×V)) (xs:List (Str×V)) (HB:Hp) (kvs:List (List Key×V)) (L:Ml) (S:MS) (v:V) (wd:Str) (d:Dt) (ts:List Tr),vs=[.ref L.m,.ref p,.int (n:Nat),.ref e,.ref o]∧MAt K HB C kvs L H S∧H p=some (.tup (plV pl))∧H e=some (.lst ev)∧Al (PrAt K H) ev ar∧H o=some (.lst ov)∧Al (ThAt K H) ov xs∧valV kvs (plK pl)=some v∧TrAt K H v (.mk wd d ts)∧BindOk wd d∧pl.length≤2000∧ar.length≤9000∧S.wait.length < 9000 ∧
 ∀ H',SameM L H H'→MAt K HB C kvs L H' (inS S wd d pl n ar xs)→Q .non H'
theorem sc_Machine_go_within:FnScope ["self", "place", "number", "around", "things", "names"] ["self", "place", "number", "around", "things"] (defScope s_Machine_go_within):=⟨rfl,rfl,rfl,by decide +kernel,rfl,by decide +kernel,by decide +kernel⟩
theorem boundN_le (wd:Str) (d:Dt) (n:Int):(boundN wd d n).length≤2:=by
 unfold boundN
 repeat' split
 all_goals simp
theorem ok_within {C:Addr} {f:Addr} {fd:FuncData} (F:Fun K "go_within" "Machine.go_within" s_Machine_go_within f fd) (T:Txt K mg) (O:Mc K C) (C_names_bound:Callee P w K mg base 1 "names_bound" ["form", "number"] (sp_bound K)):FnOk P w K mg base CX0 2 f fd ["self", "place", "number", "around", "things"] (sp_within K C):=by
 refine F.okq sc_Machine_go_within (fun vs H Q E h=>?_) (fun cdv A outer s H vs Q E hr h=>?_)
 ·obtain ⟨p,e,o,n,pl,ev,ov,ar,xs,HB,kvs,L,S,v,wd,d,ts,rfl,_⟩:=h
  rfl
 ·obtain ⟨p,e,o,n,pl,ev,ov,ar,xs,HB,kvs,L,S,v,wd,d,ts,rfl,M,hp,he,ale,ho,alo,hv,ht,bk,hpl,hal,hwl,q⟩:=h
  refine ⟨_,qss_cons (qs_set (i:=5) sc_Machine_go_within.nd rfl (Or.inl rfl) (qe_fn C_names_bound (hr.mono (by decide)) (qa_cons (qe_dget hr.u1 (qe_fldK K (qv 0)) (qv 1) (fun _ _=>rfl)) (qa_cons (qv 2) qa_nil))))
   (qss_one (qs_expr (qe_bmK K PySem.F.plainAttrs_list PySem.F.slot_list_append PySem.F.type_list_append mt_append (qe_fldK K (qv 0)) (qa_cons (qe_tup (qa_cons (qe_op (k_addP K) (qv 1) (qe_tup (qa_cons (qv 2) qa_nil))) (qa_cons (qe_op (k_add K) (qv 3) (qe_list_ziplK K (by rfl) T.list (by rfl) T.zip (qa_cons (qv 5) (qa_cons (qv 4) qa_nil)))) (qa_cons (qe_bl) qa_nil)))) qa_nil)))),?_⟩
  have bg:=big
  have bn:=boundN_le wd d n
  walk_at "r"
  refine ⟨_,rfl,L.m,C,L.dx,_,_,rfl,M.ins,O.cl,O.nf,fs_forms L S.steps,_,rfl,L.fd,v,rfl,?_,?_⟩
  ·rw [← hv]
   refine DGet.t M.frm ?_
   rw [plK_kV]
   exact hp
  walk_at "r"
  refine ⟨v,wd,d,ts,n,rfl,ht,bk,fun l H1 s1 hl e1=>?_⟩
  have M1:=M.new s1
  obtain ⟨wv,ew,aw⟩:=M1.wait
  have hwv:=aw.1
  walk_at "r"
  refine ⟨_,rfl,L.m,C,L.dx,_,_,rfl,M1.ins,O.cl,O.nw,fs_wait L S.steps,?_⟩
  refine s_tyL (SqL.of ew) ?_
  walk_at "r"
  refine ⟨by show 1≤sizeLine; decide,fun p2 hp2=>?_⟩
  have s2:Same H1 (upd H1 p2 (.tup [.int (n:Nat)])):=Same.upd hp2
  have e2:upd H1 p2 (.tup [.int (n:Nat)]) p2=some (.tup [.int (n:Nat)]):=upd_same
  revert s2 e2
  generalize upd H1 p2 (.tup [.int (n:Nat)])=H2
  intro s2 e2
  refine s_addp (s2 _ _ (s1 _ _ hp)) e2 (by unfold plV; rw [List.length_map,List.length_singleton]; omega) fun p3 H3 s3 e3=>?_
  have s03:=s1.trans (s2.trans s3)
  walk_at "r"
  refine s_listzl ?_
  walk_at "r"
  refine ⟨l,o,_,ov,rfl,SqL.of (s3 _ _ (s2 _ _ e1)),SqL.of (s03 _ _ ho),fun z zs H4 hz0 s4 hzl hzp ez=>?_⟩
  have s04:=s03.trans s4
  have he4:=s04 _ _ he
  have alz:Al (PrAt K H4) zs (zipA (boundN wd d n) xs):=by
   have hlo:=alo.1
   refine ⟨by unfold zipA; rw [hzl,List.length_map,List.length_zip,hlo],fun j y x f1 f2=>?_⟩
   obtain ⟨t,u1,u2,rfl,g1,g2,g3⟩:=hzp j y f1
   unfold zipA at f2
   rw [List.getElem?_zip_eq_some] at f2
   rw [List.getElem?_map,f2.1] at g1
   cases g1
   exact ⟨t,u2,rfl,SqT.of g3,ThAt.same s04.t _ _ (alo.2 j _ _ g2 f2.2)⟩
  have hzl2:zs.length≤2:=by rw [hzl,List.length_map]; omega
  have hel:=ale.1
  refine s_add_lst he4 ez (by omega) fun e5 he5=>?_
  have s5:Same H4 (upd H4 e5 (.lst (ev++zs))):=Same.upd he5
  have ee5:upd H4 e5 (.lst (ev++zs)) e5=some (.lst (ev++zs)):=upd_same
  have nA5:¬ L.A e5:=by
   have M4:=M.new s04
   obtain ⟨rv,er,_⟩:=M4.rows
   obtain ⟨wv',ew',_⟩:=M4.wait
   obtain ⟨tv,et,_⟩:=M4.things
   rintro (y | y | y)
   ·rw [y,er] at he5; cases he5
   ·rw [y,ew'] at he5; cases he5
   ·rw [y,et] at he5; cases he5
  revert s5 ee5
  generalize upd H4 e5 (.lst (ev++zs))=H5
  intro s5 ee5
  have s05:=s04.trans s5
  walk_at "r"
  refine ⟨by show 3≤sizeLine; decide,fun r hr'=>?_⟩
  have s6:Same H5 (upd H5 r (.tup [.ref p3,.ref e5,.bl false])):=Same.upd hr'
  have e6:upd H5 r (.tup [.ref p3,.ref e5,.bl false]) r=some (.tup [.ref p3,.ref e5,.bl false]):=upd_same
  revert s6 e6
  generalize upd H5 r (.tup [.ref p3,.ref e5,.bl false])=H6
  intro s6 e6
  have s06:=s05.trans s6
  have s16:=s2.trans (s3.trans (s4.trans (s5.trans s6)))
  walk_at "r"
  refine s_app (s16 _ _ ew) (by omega) ?_
  have M6:=M.new s06
  have M7:=M6.setWait (wv:=wv++[.ref r]) (ws:=S.wait++[⟨pl++[n],ar++zipA (boundN wd d n) xs,false⟩]) ((aw.mono (WtAt.same s16.a)).snoc ⟨r,p3,e5,ev++zs,rfl,SqT.of e6,?_,s6 _ _ ee5,?_,nA5⟩)
  ·walk_at "r"
   exact q _ ((s06.m L).trans (SameM.upd (.inr (.inr (.inl rfl))))) M7
  ·have e9:=s6 _ _ (s5 _ _ (s4 _ _ e3))
   rw [e9]
   unfold plV
   rw [List.map_append]
   rfl
  ·exact (ale.mono (PrAt.same s06.t)).append (alz.mono (PrAt.same (s5.trans s6).t))
theorem fs_no2 (L:Ml) (n:Int):(L.fs n).lookup ("go_within" : Str)=none∧(L.fs n).lookup ("is_function" : Str)=none∧(L.fs n).lookup ("call" : Str)=none:=⟨rfl,rfl,rfl⟩
noncomputable def sp_call (K:W.Frag) (C:Addr):Sp:=fun vs H Q _=>∃ (o:Addr) (ov:List V) (k:Nat) (xs:List (Str×V)) (r:Rx) (pl:List Nat) (HB:Hp) (kvs:List (List Key×V)) (L:Ml) (S:MS) (v:V) (wd:Str) (d:Dt) (ts:List Tr),vs=[.ref L.m,.ref o]∧MAt K HB C kvs L H S∧H o=some (.lst ov)∧Al (ThAt K H) ov (("row",.int (k:Nat)) :: xs)∧S.rows[k]?=some r∧r.pl=plI pl∧valV kvs (plK pl)=some v∧TrAt K H v (.mk wd d ts)∧BindOk wd d∧pl.length≤2000∧r.ar.length≤9000∧S.wait.length < 9000∧xs.length≤1000 ∧
 ∀ H',SameM L H H'→MAt K HB C kvs L H' (inS S wd d pl 0 r.ar (if r.wd = "rec" then ("row",.int (k:Nat)) :: xs else xs))→Q .non H'
theorem sc_Machine_call:FnScope ["self", "operands", "row"] ["self", "operands"] (defScope s_Machine_call):=⟨rfl,rfl,rfl,by decide +kernel,rfl,by decide +kernel,by decide +kernel⟩
theorem ok_call {C:Addr} {f:Addr} {fd:FuncData} (F:Fun K "call" "Machine.call" s_Machine_call f fd) (T:Txt K mg) (O:Mc K C) (MW:MethX CX0 P w K mg base 2 C "go_within" ["self", "place", "number", "around", "things"] (sp_within K C)):FnOk P w K mg base CX0 3 f fd ["self", "operands"] (sp_call K C):=by
 refine F.okq sc_Machine_call (fun vs H Q E h=>?_) (fun cdv A outer s H vs Q E hr h=>?_)
 ·obtain ⟨o,ov,k,xs,r,pl,HB,kvs,L,S,v,wd,d,ts,rfl,_⟩:=h
  rfl
 ·obtain ⟨o,ov,k,xs,r,pl,HB,kvs,L,S,v,wd,d,ts,rfl,M,ho,alo,hr1,hpl,hv,ht,bk,hpn,har,hwl,hxl,q⟩:=h
  refine ⟨_,qss_cons (qs_set (i:=2) sc_Machine_call.nd rfl (Or.inl rfl) (qe_ix (k_ix K) (qe_fldK K (qv 0)) (qe_ix (k_ix K) (qe_ix (k_ix K) (qv 1) (qe_int) (fun _ _=>rfl)) (qe_int) (fun _ _=>rfl)) (fun _ _=>rfl)))
   (qss_one (qs_expr (qe_methD (k:=2) K CX0 ["self", "place", "number", "around", "things"] (qv 0) (hr.mono (by decide)) pass0 (qa_cons (qe_ix (k_ix K) (qv 2) (qe_int) (fun _ _=>rfl)) (qa_cons (qe_int) (qa_cons (qe_ix (k_ix K) (qv 2) (qe_int) (fun _ _=>rfl)) (qa_cons (qe_ifExp (qt_cmpR (k_eq K hr.u200) (qe_ix (k_ix K) (qv 2) (qe_int) (fun _ _=>rfl)) (qe_str) (nomark _)) (qv 1) (qe_slice (k_sl K) (qv 1) (qo_some (qe_int)) (qo_none))) qa_nil))))))),?_⟩
  have bg:=big
  obtain ⟨rv,er,ar,spr⟩:=M.rows
  obtain ⟨u,hu⟩:∃ u,rv[k]?=some u:=⟨_,List.getElem?_eq_getElem (by rw [ar.1]; exact (List.getElem?_eq_some_iff.mp hr1).1)⟩
  obtain ⟨r',hr',xr⟩:=ar.get hu
  rw [hr1] at hr'
  cases hr'
  obtain ⟨⟨a,p',o',e,ops',ev,rfl,qa,_,_,_,he,ale,_,nAe⟩,a2,p,o2,e2,ea,qa2,hp⟩:=xr
  cases ea
  obtain ⟨u0,us,rfl⟩:∃ u0 us,ov=u0 :: us:=by
   have hl:=alo.1
   match ov,hl with
   | u0 :: us,_=>exact ⟨u0,us,rfl⟩
  obtain ⟨_,ax,rfl,qx⟩:=alo.2 0 u0 _ rfl rfl
  have hp':H p=some (.tup (plV pl)):=by rw [hp,hpl,plV_plI]
  walk_at "r"
  refine ⟨_,rfl,L.m,C,L.dx,_,_,rfl,M.ins,O.cl,O.nr,fs_rows L S.steps,?_⟩
  walk_at "r"
  refine s_ix_lst (SqL.of ho) (atI_nat (j:=0) rfl) ?_
  walk_at "r"
  refine s_ix_tup qx rfl ?_
  refine s_ix_lst (SqL.of er) (atI_nat hu) ?_
  walk_at "r"
  refine ⟨_,rfl,L.m,C,L.dx,_,_,rfl,M.ins,(fs_no2 L S.steps).1,MW,?_⟩
  walk_at "r"
  refine s_ix_tup qa2 rfl ?_
  walk_at "r"
  refine s_ix_tup qa rfl ?_
  walk_at "r"
  unfold tIf
  walk_at "r"
  refine s_ix_tup qa rfl ?_
  walk_at "r"
  rw [dec_str]
  by_cases hw:r.wd = "rec"
  ·rw [if_pos hw] at q
   rw [decide_eq_true hw]
   walk_at "r"
   exact ⟨p,e,o,0,pl,ev,_,r.ar,_,HB,kvs,L,S,v,wd,d,ts,rfl,M,hp',he,ale,ho,alo,hv,ht,bk,hpn,har,hwl,fun H2 e2 M2=>by walk_at "r"; exact q _ e2 M2⟩
  ·rw [if_neg hw] at q
   rw [decide_eq_false hw]
   walk_at "r"
   refine s_sl_lst (SqL.of ho) fun l hl=>?_
   have ec:cutV (V.ref ax :: us) (some 1) none=us:=cutV_from _ 1
   rw [ec]
   have s2:Same H (upd H l (.lst us)):=Same.upd hl
   have e2:upd H l (.lst us) l=some (.lst us):=upd_same
   revert s2 e2
   generalize upd H l (.lst us)=H2
   intro s2 e2
   have alu:Al (ThAt K H2) us xs:=⟨by have:=alo.1; simpa using this,fun j y x f1 f2=>ThAt.same s2.t _ _ (alo.2 (j + 1) y x (by simpa using f1) (by simpa using f2))⟩
   exact ⟨p,e,l,0,pl,ev,us,r.ar,xs,HB,kvs,L,S,v,wd,d,ts,rfl,M.new s2,s2 _ _ hp',s2 _ _ he,ale.mono (PrAt.same s2.t),e2,alu,hv,ht.same s2,bk,hpn,har,hwl,fun H3 e3 M3=>by walk_at "r"; exact q _ ((s2.m L).trans e3) M3⟩
noncomputable def numV:V→Int
 | .int i=>i
 | _=>0
noncomputable def NumOk (x:Str×V):Prop:=x.1 = "num" → ∃ i,x.2=.int i
noncomputable def OPS:List Str:=["plus", "minus", "less"]
noncomputable def furS (S:MS) (wd:Str) (pl:List Nat) (th:List (Str×V)) (x y:Str×V):MS :=
 if wd∈OPS∧x.1 = "num" ∧ y.1 = "num" then { S with things:=th++[recT wd (numV x.2) (numV y.2)] }
 else { S with rows:=S.rows++[⟨wd,plI pl,[x,y],[]⟩],things:=th++[(("row" : Str),V.int (S.rows.length:Nat))] }
noncomputable def FormsAt (K:W.Frag) (H:Hp) (kvs:List (List Key×V)) (sub:List Nat→Option (Str×Dt)):Prop:=∀ pl wd d,sub pl=some (wd,d)→pl.length≤2000∧∃ v ts,valV kvs (plK pl)=some v∧TrAt K H v (.mk wd d ts)
theorem FormsAt.same {K:W.Frag} {H H':Hp} {kvs:List (List Key×V)} {sub:List Nat→Option (Str×Dt)} (h:FormsAt K H kvs sub) (e:SameT H H'):FormsAt K H' kvs sub:=fun pl wd d hs=>by
 obtain ⟨h1,v,ts,h2,h3⟩:=h pl wd d hs
 exact ⟨h1,v,ts,h2,h3.sameT e⟩
inductive Fur (sub:List Nat→Option (Str×Dt)) (wd:Str) (d:Dt) (pl:List Nat) (ar:List (Str×Str×V)) (S:MS):MS→Prop where
 | two {th:List (Str×V)} {x y:Str×V} (h:wd∈OPS∨wd = "call" ∧ isFnT S.rows x=false) (hS:S.things=th++[x,y]) (ok:RowOk S.rows x) (ox:NumOk x) (oy:NumOk y):Fur sub wd d pl ar S (furS S wd pl th x y)
 | calls {th:List (Str×V)} {k:Nat} {y:Str×V} {r:Rx} {pl':List Nat} {wd':Str} {d':Dt} (h:wd = "call") (hS:S.things=th++[(("row" : Str),V.int (k:Nat)),y]) (hr:S.rows[k]?=some r) (hf:r.wd∈(["fn", "rec"]:List Str)) (hp:r.pl=plI pl') (hs:sub pl'=some (wd',d')) (bk:BindOk wd' d') (ha:r.ar.length≤9000):Fur sub wd d pl ar S (inS { S with things:=th } wd' d' pl' 0 r.ar (if r.wd = "rec" then [(("row" : Str),V.int (k:Nat)),y] else [y]))
 | ifs {th:List (Str×V)} {b:Bool} (h:wd = "if") (hS:S.things=th++[(("truth" : Str),V.bl b)]) (bk:BindOk wd d):Fur sub wd d pl ar S (inS { S with things:=th } wd d pl (if b then 1 else 2) ar [])
 | lets {th:List (Str×V)} {x:Str×V} (h:wd = "let") (hS:S.things=th++[x]) (bk:BindOk wd d):Fur sub wd d pl ar S (inS { S with things:=th } wd d pl 1 ar [x])
noncomputable def sp_further (K:W.Frag) (C:Addr):Sp:=fun vs H Q _=>∃ (p e:Addr) (pl:List Nat) (ev:List V) (ar:List (Str×Str×V)) (HB:Hp) (kvs:List (List Key×V)) (L:Ml) (S S2:MS) (v:V) (wd:Str) (d:Dt) (ts:List Tr),vs=[.ref L.m,.ref p,.ref e]∧MAt K HB C kvs L H S∧H p=some (.tup (plV pl))∧H e=some (.lst ev)∧Al (PrAt K H) ev ar∧¬ L.A e∧valV kvs (plK pl)=some v∧TrAt K H v (.mk wd d ts)∧∃ sub:List Nat→Option (Str×Dt),FormsAt K H kvs sub∧Fur sub wd d pl ar S S2∧S.rows.length < 9000∧S.things.length < 9000∧S.wait.length < 9000∧pl.length≤2000∧ar.length≤9000 ∧
 ∀ H' t,SameM L H H'→MAt K HB C kvs (L.with t) H' S2→H t=none→Q .non H'
theorem sc_Machine_go_further:FnScope ["self", "place", "around", "word", "operands"] ["self", "place", "around"] (defScope s_Machine_go_further):=⟨rfl,rfl,rfl,by decide +kernel,rfl,by decide +kernel,by decide +kernel⟩
theorem ok_further {C:Addr} {f:Addr} {fd:FuncData} (F:Fun K "go_further" "Machine.go_further" s_Machine_go_further f fd) (T:Txt K mg) (O:Mc K C) {ap:Addr} {pk:List (Str×V)} (G_PARTS_AWAITED:Glob mg "PARTS_AWAITED" (.ref ap)) (hpa:DkK P w K ap pk) (hpk:∀ wd,(lookD pk wd).isSome=(partsA wd).isSome∧∀ ns,partsA wd=some ns→∃ b,lookD pk wd=some (.ref b)∧∀ H,SqT K H b (ns.map V.int))
  (MT:MethX CX0 P w K mg base 1 C "taken_things" ["self", "many"] (sp_taken K C)) (MR:MethX CX0 P w K mg base 1 C "new_row" ["self", "word", "place", "operands", "around"] (sp_newrow K C)) (MW:MethX CX0 P w K mg base 2 C "go_within" ["self", "place", "number", "around", "things"] (sp_within K C)) (MC:MethX CX0 P w K mg base 3 C "call" ["self", "operands"] (sp_call K C)) (MI:MethX CX0 P w K mg base 2 C "is_function" ["self", "thing"] (sp_isfn K C)) (C_are_numbers:Callee P w K mg base 1 "are_numbers" ["things"] (sp_nums K)) (C_reckoned:Callee P w K mg base 1 "reckoned" ["word", "left", "right"] (sp_reck K)):FnOk P w K mg base CX0 4 f fd ["self", "place", "around"] (sp_further K C):=by
 refine F.okq sc_Machine_go_further (fun vs H Q E h=>?_) (fun cdv A outer s H vs Q E hr h=>?_)
 ·obtain ⟨p,e,pl,ev,ar,HB,kvs,L,S,S2,v,wd,d,ts,rfl,_⟩:=h
  rfl
 ·obtain ⟨p,e,pl,ev,ar,HB,kvs,L,S,S2,v,wd,d,ts,rfl,M,hp,he,ale,nA,hv,ht,sub,FA,fur,z1,z3,z2,hpl,har,q⟩:=h
  refine ⟨_,qss_cons (qs_set (i:=3) sc_Machine_go_further.nd rfl (Or.inl rfl) (qe_ix (k_ix K) (qe_dget hr.u1 (qe_fldK K (qv 0)) (qv 1) (fun _ _=>rfl)) (qe_int) (fun _ _=>rfl)))
   (qss_cons (qs_set (i:=4) sc_Machine_go_further.nd rfl (Or.inl rfl) (qe_methD (k:=1) K CX0 ["self", "many"] (qv 0) (hr.mono (by decide)) pass0 (qa_cons (qe_callB (k_len K) (by rfl) T.len (by decide +kernel) (qa_cons (qe_ix (k_ixD P w K) (qe_gl G_PARTS_AWAITED) (qv 3) (fun _ _=>rfl)) qa_nil)) qa_nil)))
   (qss_one (qs_if (qt_cmpR (k_eq K hr.u200) (qv 3) (qe_str) (nomark _)) (qss_one (qs_expr (qe_methD (k:=2) K CX0 ["self", "place", "number", "around", "things"] (qv 0) (hr.mono (by decide)) pass0 (qa_cons (qv 1) (qa_cons (qe_int) (qa_cons (qv 2) (qa_cons (qv 4) qa_nil))))))) (qss_one (qs_if (QW.qt (qw_and (qt_cmpR (k_eq K hr.u200) (qv 3) (qe_str) (nomark _)) (qw_and1 (qt_cmpR (k_eq K hr.u200) (qe_ix (k_ix K) (qe_ix (k_ix K) (qv 4) (qe_int) (fun _ _=>rfl)) (qe_int) (fun _ _=>rfl)) (qe_str) (nomark _))))) (qss_one (qs_expr (qe_methD (k:=2) K CX0 ["self", "place", "number", "around", "things"] (qv 0) (hr.mono (by decide)) pass0 (qa_cons (qv 1) (qa_cons (qe_ifExp (qt_val (qe_ix (k_ix K) (qe_ix (k_ix K) (qv 4) (qe_int) (fun _ _=>rfl)) (qe_int) (fun _ _=>rfl))) (qe_int) (qe_int)) (qa_cons (qv 2) (qa_cons (qe_lst (qa_nil)) qa_nil))))))) (qss_one (qs_if (QW.qt (qw_and (qt_cmpR (k_eq K hr.u200) (qv 3) (qe_str) (nomark _)) (qw_and1 (qt_val (qe_methD (k:=2) K CX0 ["self", "thing"] (qv 0) (hr.mono (by decide)) pass0 (qa_cons (qe_ix (k_ix K) (qv 4) (qe_int) (fun _ _=>rfl)) qa_nil)))))) (qss_one (qs_expr (qe_methD (k:=3) K CX0 ["self", "operands"] (qv 0) (hr.mono (by decide)) pass0 (qa_cons (qv 4) qa_nil)))) (qss_one (qs_if (QW.qt (qw_and (qt_cmpR (k_in K) (qv 3) (qe_tup (qa_cons (qe_str) (qa_cons (qe_str) (qa_cons (qe_str) qa_nil)))) (by rfl)) (qw_and1 (qt_val (qe_fn C_are_numbers (hr.mono (by decide)) (qa_cons (qv 4) qa_nil)))))) (qss_one (qs_expr (qe_bmK K PySem.F.plainAttrs_list PySem.F.slot_list_append PySem.F.type_list_append mt_append (qe_fldK K (qv 0)) (qa_cons (qe_fn C_reckoned (hr.mono (by decide)) (qa_cons (qv 3) (qa_cons (qe_ix (k_ix K) (qe_ix (k_ix K) (qv 4) (qe_int) (fun _ _=>rfl)) (qe_int) (fun _ _=>rfl)) (qa_cons (qe_ix (k_ix K) (qe_ix (k_ix K) (qv 4) (qe_int) (fun _ _=>rfl)) (qe_int) (fun _ _=>rfl)) qa_nil)))) qa_nil)))) (qss_one (qs_expr (qe_bmK K PySem.F.plainAttrs_list PySem.F.slot_list_append PySem.F.type_list_append mt_append (qe_fldK K (qv 0)) (qa_cons (qe_methD (k:=1) K CX0 ["self", "word", "place", "operands", "around"] (qv 0) (hr.mono (by decide)) pass0 (qa_cons (qv 3) (qa_cons (qv 1) (qa_cons (qv 4) (qa_cons (qv 2) qa_nil))))) qa_nil))))))))))))),?_⟩
  have bg:=big
  have htr:=ht
  cases ht with
  | @mk b pp _ nv _ vs _ qb hn qpp hl hch =>
  walk_at "r"
  refine ⟨_,rfl,L.m,C,L.dx,_,_,rfl,M.ins,O.cl,O.nf,fs_forms L S.steps,_,rfl,L.fd,.ref b,rfl,?_,?_⟩
  ·rw [← hv]
   refine DGet.t M.frm ?_
   rw [plK_kV]
   exact hp
  walk_at "r"
  refine s_ix_tup qb rfl ?_
  walk_at "r"
  refine ⟨_,rfl,L.m,C,L.dx,_,_,rfl,M.ins,(fs_no L S.steps).2.2.2.2.2.1,MT,?_⟩
  cases fur with
  | @lets th x hwl hS bk =>
   subst hwl
   obtain ⟨bt,hbt,qbt⟩:=(hpk "let").2 [0] (by decide +kernel)
   walk_at "r"
   refine ⟨ap,pk, "let",.ref bt,rfl,rfl,hpa,hbt,?_⟩
   walk_at "r"
   refine s_len_tup (qbt _) ?_
   walk_at "r"
   refine ⟨1,th,[x],HB,kvs,L,S,rfl,M,by decide,hS,rfl,fun o t ov H1 e1 M1 ht0 ho alo ho0 hot=>?_⟩
   have t1:=M.t e1
   walk_at "r"
   rw [decide_eq_true (Eq.refl _)]
   refine iteT ?_
   walk_at "r"
   refine ⟨_,rfl,L.m,C,L.dx,_,_,rfl,M1.ins,(fs_no2 (L.with t) S.steps).1,MW,?_⟩
   walk_at "r"
   refine ⟨p,e,o,1,pl,ev,ov,ar,[x],HB,kvs,L.with t,_,.ref b, "let",d,ts,rfl,M1,(t1 p).1 _ hp,(M.a e1).2 _ _ nA he,ale.mono (PrAt.same t1),ho,alo,hv,htr.sameT t1,bk,hpl,har,z2,fun H2 e2 M2=>?_⟩
   walk_at "r"
   exact q _ t (e1.trans' (L':=L.with t) e2 rfl rfl rfl (.inr ht0)) M2 ht0
  | @ifs th b2 hwi hS bk =>
   subst hwi
   obtain ⟨bt,hbt,qbt⟩:=(hpk "if").2 [0] (by decide +kernel)
   walk_at "r"
   refine ⟨ap,pk, "if",.ref bt,rfl,rfl,hpa,hbt,?_⟩
   walk_at "r"
   refine s_len_tup (qbt _) ?_
   walk_at "r"
   refine ⟨1,th,[("truth",.bl b2)],HB,kvs,L,S,rfl,M,by decide,hS,rfl,fun o t ov H1 e1 M1 ht0 ho alo ho0 hot=>?_⟩
   have t1:=M.t e1
   obtain ⟨u1,us,rfl⟩:∃ u1 us,ov=u1 :: us:=by
    have hl:=alo.1
    match ov,hl with
    | u1 :: us,_=>exact ⟨u1,us,rfl⟩
   obtain ⟨_,ax,rfl,qx⟩:=alo.2 0 u1 _ rfl rfl
   walk_at "r"
   rw [dec_str,decide_eq_false (by decide +kernel)]
   walk_at "r"
   rw [dec_str,decide_eq_true (Eq.refl _)]
   walk_at "r"
   refine s_ix_lst (SqL.of ho) (atI_nat (j:=0) rfl) ?_
   walk_at "r"
   refine s_ix_tup qx rfl ?_
   walk_at "r"
   rw [dec_str,decide_eq_true (Eq.refl _)]
   walk_at "r"
   refine ⟨_,rfl,L.m,C,L.dx,_,_,rfl,M1.ins,(fs_no2 (L.with t) S.steps).1,MW,?_⟩
   walk_at "r"
   unfold tIf
   walk_at "r"
   refine s_ix_lst (SqL.of ho) (atI_nat (j:=0) rfl) ?_
   walk_at "r"
   refine s_ix_tup qx rfl ?_
   have fin:∀ l H2,H1 l=none→H2=upd H1 l (.lst [])→sp_within K C [.ref L.m,.ref p,.int ((if b2 then 1 else 2:Nat):Nat),.ref e,.ref l] H2 (fun v H'=>Q .non H') E0:=by
    intro l H2 hl hH2
    have s2:Same H1 H2:=by rw [hH2]; exact Same.upd hl
    have e2:H2 l=some (.lst []):=by rw [hH2]; exact upd_same
    refine ⟨p,e,l,(if b2 then 1 else 2),pl,ev,[],ar,[],HB,kvs,L.with t,_,.ref b, "if",d,ts,rfl,M1.new s2,s2 _ _ ((t1 p).1 _ hp),s2 _ _ ((M.a e1).2 _ _ nA he),(ale.mono (PrAt.same t1)).mono (PrAt.same s2.t),e2,.nil,hv,(htr.sameT t1).same s2,bk,hpl,har,z2,fun H3 e3 M3=>?_⟩
    exact q _ t (e1.trans' (L':=L.with t) ((s2.m _).trans e3) rfl rfl rfl (.inr ht0)) M3 ht0
   refine ⟨b2,rfl,?_⟩
   cases b2 with
   | true =>
    rw [if_pos rfl]
    walk_at "r"
    refine ⟨by show 0≤sizeLine; decide,fun l hl=>?_⟩
    exact fin l _ hl rfl
   | false =>
    rw [if_neg Bool.false_ne_true]
    walk_at "r"
    refine ⟨by show 0≤sizeLine; decide,fun l hl=>?_⟩
    exact fin l _ hl rfl
  | @calls th k y r pl' wd' d' hwc hS hrk hf hpl' hs bk har' =>
   subst hwc
   obtain ⟨bt,hbt,qbt⟩:=(hpk "call").2 [1,0] (by decide +kernel)
   walk_at "r"
   refine ⟨ap,pk, "call",.ref bt,rfl,rfl,hpa,hbt,?_⟩
   walk_at "r"
   refine s_len_tup (qbt _) ?_
   walk_at "r"
   refine ⟨2,th,[("row",.int (k:Nat)),y],HB,kvs,L,S,rfl,M,by decide,hS,rfl,fun o t ov H1 e1 M1 ht0 ho alo ho0 hot=>?_⟩
   have t1:=M.t e1
   have hfn:isFnT S.rows ("row",.int (k:Nat))=true:=by
    show (decide (("row" : Str) = "row") && (match S.rows[((k:Nat):Int).toNat]? with | some r=>decide (r.wd∈(["fn", "rec"]:List Str)) | none=>false))=true
    rw [Int.toNat_natCast,hrk]
    simp only [decide_eq_true hf,decide_true,Bool.and_self]
   have rok:RowOk S.rows ("row",.int (k:Nat)):=fun _=>⟨k,rfl,(List.getElem?_eq_some_iff.mp hrk).1⟩
   obtain ⟨u1,us,rfl⟩:∃ u1 us,ov=u1 :: us:=by
    have hl:=alo.1
    match ov,hl with
    | u1 :: us,_=>exact ⟨u1,us,rfl⟩
   have hx1:=alo.2 0 u1 _ rfl rfl
   walk_at "r"
   rw [dec_str,decide_eq_false (by decide +kernel)]
   walk_at "r"
   rw [dec_str,decide_eq_false (by decide +kernel)]
   walk_at "r"
   rw [dec_str,decide_eq_true (Eq.refl _)]
   walk_at "r"
   refine ⟨_,rfl,L.m,C,L.dx,_,_,rfl,M1.ins,(fs_no2 (L.with t) S.steps).2.1,MI,?_⟩
   walk_at "r"
   refine s_ix_lst (SqL.of ho) (atI_nat (j:=0) rfl) ?_
   walk_at "r"
   refine ⟨_,("row",.int (k:Nat)),HB,kvs,L.with t,_,rfl,M1,hx1,rok,fun H2 s2=>?_⟩
   rw [show isFnT ({ S with things:=th }:MS).rows ("row",.int (k:Nat))=true from hfn]
   refine ⟨true,rfl,?_⟩
   refine iteT ?_
   walk_at "r"
   have M2:=M1.new s2
   obtain ⟨hpl2,v',ts',hv',ht'⟩:=(FA.same t1).same s2.t pl' wd' d' hs
   refine ⟨_,rfl,L.m,C,L.dx,_,_,rfl,M2.ins,(fs_no2 (L.with t) S.steps).2.2,MC,?_⟩
   walk_at "r"
   refine ⟨o,_,k,[y],r,pl',HB,kvs,L.with t,_,v',wd',d',ts',rfl,M2,s2 _ _ ho,alo.mono (ThAt.same s2.t),hrk,hpl',hv',ht',bk,hpl2,har',z2,by show 1≤1000; decide,fun H3 e3 M3=>?_⟩
   walk_at "r"
   exact q _ t (e1.trans' (L':=L.with t) ((s2.m _).trans e3) rfl rfl rfl (.inr ht0)) M3 ht0
  | @two th x y hw3 hS ok ox oy =>
  have hwd:partsA wd=some [1,0]∧¬ wd = "let" ∧ ¬ wd = "if" ∧ ¬ wd∈WA:=by
   rcases hw3 with h | ⟨rfl,_⟩
   ·unfold OPS at h
    simp only [List.mem_cons,List.not_mem_nil,or_false] at h
    rcases h with rfl | rfl | rfl <;> exact ⟨by decide +kernel,by decide +kernel,by decide +kernel,by decide +kernel⟩
   ·exact ⟨by decide +kernel,by decide +kernel,by decide +kernel,by decide +kernel⟩
  obtain ⟨pw,w1,w2,w4⟩:=hwd
  obtain ⟨bt,hbt,qbt⟩:=(hpk wd).2 _ pw
  walk_at "r"
  refine ⟨ap,pk,wd,.ref bt,rfl,rfl,hpa,hbt,?_⟩
  walk_at "r"
  refine s_len_tup (qbt _) ?_
  walk_at "r"
  refine ⟨2,th,[x,y],HB,kvs,L,S,rfl,M,by decide,hS,rfl,fun o t ov H1 e1 M1 ht0 ho alo ho0 hot=>?_⟩
  have t1:=M.t e1
  have hp1:=(t1 p).1 _ hp
  have he1:=(M.a e1).2 _ _ nA he
  have ale1:Al (PrAt K H1) ev ar:=ale.mono (PrAt.same t1)
  have nAo:¬ (L.with t).A o:=by
   obtain ⟨rv,er,_⟩:=M.rows
   obtain ⟨wv,ew,_⟩:=M.wait
   rintro (z | z | z)
   ·rw [z] at ho0; rw [show (L.with t).rd=L.rd from rfl,er] at ho0; cases ho0
   ·rw [z] at ho0; rw [show (L.with t).wd=L.wd from rfl,ew] at ho0; cases ho0
   ·exact hot z
  have hx:∃ ax ay,ov=[.ref ax,.ref ay]∧SqT K H1 ax [.str x.1,x.2]∧SqT K H1 ay [.str y.1,y.2]:=by
   have hl:=alo.1
   match ov,hl with
   | [u1,u2],_ =>
    obtain ⟨_,ax,e3,q3⟩:=alo.2 0 u1 x rfl rfl
    obtain ⟨_,ay,e4,q4⟩:=alo.2 1 u2 y rfl rfl
    exact ⟨ax,ay,by rw [e3,e4],q3,q4⟩
  obtain ⟨ax,ay,rfl,qx,qy⟩:=hx
  walk_at "r"
  rw [dec_str,decide_eq_false w1]
  walk_at "r"
  rw [dec_str,decide_eq_false w2]
  walk_at "r"
  rw [dec_str]
  by_cases w3:wd = "call"
  ·have hfn:isFnT S.rows x=false:=by
    rcases hw3 with h | h
    ·rw [w3] at h; exact absurd h (by decide +kernel)
    ·exact h.2
   rw [decide_eq_true w3]
   walk_at "r"
   refine ⟨_,rfl,L.m,C,L.dx,_,_,rfl,M1.ins,(fs_no2 (L.with t) S.steps).2.1,MI,?_⟩
   walk_at "r"
   refine s_ix_lst (SqL.of ho) rfl ?_
   walk_at "r"
   refine ⟨_,x,HB,kvs,L.with t,_,rfl,M1,⟨(alo.2 0 _ x rfl rfl).1,ax,rfl,qx⟩,ok,fun H2 s2=>?_⟩
   rw [show isFnT ({ S with things:=th }:MS).rows x=false from hfn]
   refine ⟨false,rfl,?_⟩
   refine iteF ?_
   walk_at "r"
   refine ⟨by show 3≤sizeLine; decide,fun p2 h2=>?_⟩
   refine s_in_seq (.inr (SqT.of upd_same)) rfl rfl ?_
   have s3:Same H2 (upd H2 p2 (.tup [.str "plus",.str "minus",.str "less"])):=Same.upd h2
   rw [if_neg Bool.false_ne_true,show inV (.str wd) [.str "plus",.str "minus",.str "less"]=decide (wd∈(["plus", "minus", "less"]:List Str)) from in_dec (ws:=["plus", "minus", "less"]),decide_eq_false (by rw [w3]; decide +kernel)]
   revert s3
   generalize upd H2 p2 (.tup [.str "plus",.str "minus",.str "less"])=H3
   intro s3
   have s13:=s2.trans s3
   have M3:=M1.new s13
   obtain ⟨tv,et,att⟩:=M3.things
   have htl:tv.length=th.length:=att.1
   have hthl:th.length + 2=S.things.length:=by rw [hS,List.length_append]; rfl
   have ho3:=s13 _ _ ho
   have ef:furS S wd pl th x y={ S with rows:=S.rows++[⟨wd,plI pl,[x,y],[]⟩],things:=th++[(("row" : Str),V.int (S.rows.length:Nat))] }:=by
    unfold furS
    rw [if_neg fun h=>absurd h.1 (by rw [w3]; decide +kernel)]
   rw [ef] at q
   refine ⟨false,rfl,?_⟩
   refine iteF ?_
   walk_at "r"
   refine ⟨_,rfl,L.m,C,L.dx,_,_,rfl,M3.ins,O.cl,O.nt,fs_things (L.with t) S.steps,?_⟩
   refine s_tyL (SqL.of et) ?_
   walk_at "r"
   refine ⟨_,rfl,L.m,C,L.dx,_,_,rfl,M3.ins,(fs_no (L.with t) S.steps).2.1,MR,?_⟩
   walk_at "r"
   refine ⟨wd,p,o,e,pl,_,ev,[x,y],ar,HB,kvs,L.with t,_,rfl,M3,s13 _ _ hp1,SqL.of ho3,alo.mono (ThAt.same s13.t),SqL.of (s13 _ _ he1),ale1.mono (PrAt.same s13.t),by show S.rows.length < 10000; omega,fun v4 H4 e4 M4 t4=>?_⟩
   rw [if_neg w4] at M4
   obtain ⟨tv4,et4,at4⟩:=M4.things
   have htl4:tv4.length=th.length:=at4.1
   walk_at "r"
   refine s_app et4 (by omega) ?_
   have M5:=M4.setThings (at4.snoc t4)
   walk_at "r"
   refine q _ t (e1.trans' (L':=L.with t) ((s13.m _).trans (e4.trans (SameM.upd (.inr (.inr (.inr rfl)))))) rfl rfl rfl (.inr ht0)) M5 ht0
  have hw3':wd∈(["plus", "minus", "less"]:List Str):=by
   rcases hw3 with h | h
   ·exact h
   ·exact absurd h.1 w3
  rw [decide_eq_false w3]
  walk_at "r"
  refine ⟨by show 3≤sizeLine; decide,fun p2 h2=>?_⟩
  refine s_in_seq (.inr (SqT.of upd_same)) rfl rfl ?_
  have s2:Same H1 (upd H1 p2 (.tup [.str "plus",.str "minus",.str "less"])):=Same.upd h2
  rw [if_neg Bool.false_ne_true,show inV (.str wd) [.str "plus",.str "minus",.str "less"]=decide (wd∈(["plus", "minus", "less"]:List Str)) from in_dec (ws:=["plus", "minus", "less"]),decide_eq_true hw3']
  revert s2
  generalize upd H1 p2 (.tup [.str "plus",.str "minus",.str "less"])=H2
  intro s2
  walk_at "r"
  refine ⟨o,_,[x,y],rfl,s2 _ _ ho,alo.mono (ThAt.same s2.t),by show 2≤1000; decide,fun H3 s3=>?_⟩
  have s13:=s2.trans s3
  have M3:=M1.new s13
  obtain ⟨tv,et,att⟩:=M3.things
  have htl:tv.length=th.length:=att.1
  have hthl:th.length + 2=S.things.length:=by rw [hS,List.length_append]; rfl
  have ho3:=s13 _ _ ho
  by_cases hnum:x.1 = "num" ∧ y.1 = "num"
  ·have en:numsB [x,y]=true:=by
    unfold numsB
    rw [List.all_cons,List.all_cons,List.all_nil,decide_eq_true hnum.1,decide_eq_true hnum.2]
    rfl
   rw [en]
   obtain ⟨i,ei⟩:=ox hnum.1
   obtain ⟨j,ej⟩:=oy hnum.2
   rw [ei] at qx
   rw [ej] at qy
   have ef:furS S wd pl th x y={ S with things:=th++[recT wd i j] }:=by
    unfold furS
    rw [if_pos ⟨hw3',hnum⟩,ei,ej]
    rfl
   rw [ef] at q
   refine ⟨true,rfl,?_⟩
   refine iteT ?_
   walk_at "r"
   refine ⟨_,rfl,L.m,C,L.dx,_,_,rfl,M3.ins,O.cl,O.nt,fs_things (L.with t) S.steps,?_⟩
   refine s_tyL (SqL.of et) ?_
   walk_at "r"
   refine s_ix_lst (SqL.of ho3) rfl ?_
   walk_at "r"
   refine s_ix_tup (s13.tup qx) rfl ?_
   walk_at "r"
   refine s_ix_lst (SqL.of ho3) rfl ?_
   walk_at "r"
   refine s_ix_tup (s13.tup qy) rfl ?_
   walk_at "r"
   refine ⟨wd,i,j,rfl,fun v4 H4 s4 t4=>?_⟩
   have M4:=M3.new s4
   walk_at "r"
   refine s_app (s4 _ _ et) (by omega) ?_
   have M5:=M4.setThings ((att.mono (ThAt.same s4.t)).snoc t4)
   walk_at "r"
   refine q _ t (e1.trans' (L':=L.with t) (((s13.trans s4).m _).trans (SameM.upd (.inr (.inr (.inr rfl))))) rfl rfl rfl (.inr ht0)) M5 ht0
  ·have en:numsB [x,y]=false:=by
    unfold numsB
    rw [List.all_cons,List.all_cons,List.all_nil,Bool.and_true,← Bool.not_eq_true,Bool.and_eq_true,decide_eq_true_iff,decide_eq_true_iff]
    exact hnum
   rw [en]
   have ef:furS S wd pl th x y={ S with rows:=S.rows++[⟨wd,plI pl,[x,y],[]⟩],things:=th++[(("row" : Str),V.int (S.rows.length:Nat))] }:=by
    unfold furS
    rw [if_neg fun h=>hnum h.2]
   rw [ef] at q
   refine ⟨false,rfl,?_⟩
   refine iteF ?_
   walk_at "r"
   refine ⟨_,rfl,L.m,C,L.dx,_,_,rfl,M3.ins,O.cl,O.nt,fs_things (L.with t) S.steps,?_⟩
   refine s_tyL (SqL.of et) ?_
   walk_at "r"
   refine ⟨_,rfl,L.m,C,L.dx,_,_,rfl,M3.ins,(fs_no (L.with t) S.steps).2.1,MR,?_⟩
   walk_at "r"
   refine ⟨wd,p,o,e,pl,_,ev,[x,y],ar,HB,kvs,L.with t,_,rfl,M3,s13 _ _ hp1,SqL.of ho3,alo.mono (ThAt.same s13.t),SqL.of (s13 _ _ he1),ale1.mono (PrAt.same s13.t),by show S.rows.length < 10000; omega,fun v4 H4 e4 M4 t4=>?_⟩
   rw [if_neg w4] at M4
   obtain ⟨tv4,et4,at4⟩:=M4.things
   have htl4:tv4.length=th.length:=at4.1
   walk_at "r"
   refine s_app et4 (by omega) ?_
   have M5:=M4.setThings (at4.snoc t4)
   walk_at "r"
   refine q _ t (e1.trans' (L':=L.with t) ((s13.m _).trans (e4.trans (SameM.upd (.inr (.inr (.inr rfl)))))) rfl rfl rfl (.inr ht0)) M5 ht0
inductive StepM (sub:List Nat→Option (Str×Dt)):MS→MS→Prop where
 | come {S:MS} {w:List Wt} {x:Wt} {wd:Str} {d:Dt} (hw:S.wait=w++[x]) (hc:x.came=false) (hs:sub x.pl=some (wd,d)) (hn:NoteOk wd d) (h5:wd ≠ "gap" → S.steps + 1≤500):StepM sub S (comeS { S with wait:=w } wd d x.pl x.ar)
 | further {S S2:MS} {w:List Wt} {x:Wt} {wd:Str} {d:Dt} (hw:S.wait=w++[x]) (hc:x.came=true) (hs:sub x.pl=some (wd,d)) (hf:Fur sub wd d x.pl x.ar { S with wait:=w } S2) (hr:x.ar.length≤9000):StepM sub S S2
structure Small (S:MS):Prop where
 r:S.rows.length < 9000
 w:S.wait.length < 9000
 t:S.things.length < 9000
inductive RunM (sub:List Nat→Option (Str×Dt)):Nat→MS→MS→Prop where
 | nil {S:MS} (h:S.wait=[]):RunM sub 0 S S
 | cons {n:Nat} {S S1 S2:MS} (hs:Small S) (h1:StepM sub S S1) (h2:RunM sub n S1 S2):RunM sub (n + 1) S S2
noncomputable def sp_end (K:W.Frag) (C:Addr):Sp:=fun vs H Q _=>∃ (HB:Hp) (kvs:List (List Key×V)) (L:Ml) (S S':MS) (sub:List Nat→Option (Str×Dt)) (n:Nat) (th:List (Str×V)) (x:Str×V),vs=[.ref L.m]∧MAt K HB C kvs L H S∧FormsAt K H kvs sub∧RunM sub n S S'∧S'.things=th++[x] ∧
 ∀ v H' t,SameM L H H'→MAt K HB C kvs (L.with t) H' { S' with things:=th }→ThAt K H' v x→Q v H'
theorem sc_Machine_thing_at_the_end:FnScope ["self", "place", "around", "parts_came"] ["self"] (defScope s_Machine_thing_at_the_end):=⟨rfl,rfl,rfl,by decide +kernel,rfl,by decide +kernel,by decide +kernel⟩
theorem ok_end {C:Addr} {f:Addr} {fd:FuncData} (F:Fun K "thing_at_the_end" "Machine.thing_at_the_end" s_Machine_thing_at_the_end f fd) (T:Txt K mg) (O:Mc K C) (MC:MethX CX0 P w K mg base 3 C "come_to" ["self", "place", "around"] (sp_come K C)) (MG:MethX CX0 P w K mg base 4 C "go_further" ["self", "place", "around"] (sp_further K C)):FnOk P w K mg base CX0 5 f fd ["self"] (sp_end K C):=by
 refine F.okq sc_Machine_thing_at_the_end (fun vs H Q E h=>?_) (fun cdv A outer s H vs Q E hr h=>?_)
 ·obtain ⟨HB,kvs,L,S,S',sub,n,th,x,rfl,_⟩:=h
  rfl
 ·obtain ⟨HB,kvs,L,S,S',sub,n,th,x,rfl,M,FA,R,hx,q⟩:=h
  refine ⟨_,qss_cons (qs_while PassesOwn.never (qt_truthK K (qe_fldK K (qv 0)) (by intro _; rfl)) (qss_cons (qs_asg (qe_bm0K K PySem.F.plainAttrs_list PySem.F.slot_list_pop PySem.F.type_list_pop mt_pop (qe_fldK K (qv 0))) (qg_tupK K (n:=3) rfl (qgs_cons (qg_name (i:=1) sc_Machine_thing_at_the_end.nd rfl (Or.inl rfl)) (qgs_cons (qg_name (i:=2) sc_Machine_thing_at_the_end.nd rfl (Or.inl rfl)) (qgs_cons (qg_name (i:=3) sc_Machine_thing_at_the_end.nd rfl (Or.inl rfl)) (qgs_nil))))))
   (qss_one (qs_if (qt_truthK K (qv 3) (by intro _; rfl)) (qss_one (qs_expr (qe_methD (k:=4) K CX0 ["self", "place", "around"] (qv 0) (hr.mono (by decide)) pass0 (qa_cons (qv 1) (qa_cons (qv 2) qa_nil))))) (qss_one (qs_expr (qe_methD (k:=3) K CX0 ["self", "place", "around"] (qv 0) (hr.mono (by decide)) pass0 (qa_cons (qv 1) (qa_cons (qv 2) qa_nil)))))))))
   (qss_one (qs_ret (qe_bm0K K PySem.F.plainAttrs_list PySem.F.slot_list_pop PySem.F.type_list_pop mt_pop (qe_fldK K (qv 0))))),?_⟩
  have bg:=big
  walk_at "r"
  refine ⟨fun m σ' H'=>∃ v1 v2 v3 S1 t,σ'=[some (.ref L.m),v1,v2,v3]∧MAt K HB C kvs (L.with t) H' S1∧RunM sub m S1 S'∧SameM L H H'∧(t=L.td∨H t=none),⟨n,none,none,none,S,L.td,rfl,M,R,SameM.refl _ _,.inl rfl⟩,?_⟩
  rintro m σ' H1 ⟨v1,v2,v3,S1,t,rfl,M1,R1,e1,ht⟩
  obtain ⟨wv,ew,aw⟩:=M1.wait
  have FA1:=FA.same (M.t e1)
  walk_at "r"
  refine ⟨_,rfl,L.m,C,L.dx,_,_,rfl,M1.ins,O.cl,O.nw,fs_wait (L.with t) S1.steps,?_⟩
  refine s_tru_lst (SqL.of ew) ?_
  cases R1 with
  | nil hw =>
   have hwv:wv=[]:=List.eq_nil_of_length_eq_zero (by rw [aw.1,hw]; rfl)
   subst hwv
   refine iteF ?_
   walk_at "r"
   obtain ⟨tv,et,att⟩:=M1.things
   rw [hx] at att
   obtain ⟨tv',v,th',x',rfl,exx,at',hv⟩:=att.last (by intro z; rw [z] at att; have:=att.1; simp at this)
   obtain ⟨rfl,e2⟩:=List.append_inj' exx rfl
   cases e2
   refine ⟨_,rfl,L.m,C,L.dx,_,_,rfl,M1.ins,O.cl,O.nt,fs_things (L.with t) S'.steps,?_⟩
   refine s_tyL (SqL.of et) ?_
   refine s_pop et ?_
   have M2:=M1.setThings at'
   have e2:SameM (L.with t) H1 (upd H1 (L.with t).td (.lst tv')):=SameM.upd (.inr (.inr (.inr rfl)))
   refine q v _ t (e1.trans' (L':=L.with t) e2 rfl rfl rfl ht) M2 (ThAt.same (M1.t e2) _ _ hv)
  | @cons m' _ S2 _ hs h1 h2 =>
   have key:∃ w x,S1.wait=w++[x]:=by
    cases h1 with
    | come hw=>exact ⟨_,_,hw⟩
    | further hw=>exact ⟨_,_,hw⟩
   obtain ⟨wl,xw,hwx⟩:=key
   rw [hwx] at aw
   obtain ⟨wv',v,wl',xw',rfl,exx,aw',hvw⟩:=aw.last (by intro z; rw [z] at aw; have:=aw.1; simp at this)
   obtain ⟨rfl,e2⟩:=List.append_inj' exx rfl
   cases e2
   have hne:(!(wv'++[v]).isEmpty)=true:=by simp
   rw [hne]
   refine iteT ?_
   refine ⟨fun σ2 H2=>∃ m2,m2 < m' + 1∧∃ v1 v2 v3 S1 t,σ2=[some (.ref L.m),v1,v2,v3]∧MAt K HB C kvs (L.with t) H2 S1∧RunM sub m2 S1 S'∧SameM L H H2∧(t=L.td∨H t=none),fun _ _ h=>h,?_⟩
   walk_at "r"
   refine ⟨_,rfl,L.m,C,L.dx,_,_,rfl,M1.ins,O.cl,O.nw,fs_wait (L.with t) S1.steps,?_⟩
   refine s_tyL (SqL.of ew) ?_
   refine s_pop ew ?_
   have M2:=M1.setWait aw'
   have e12:SameM (L.with t) H1 (upd H1 (L.with t).wd (.lst wv')):=SameM.upd (.inr (.inr (.inl rfl)))
   have hv2:=WtAt.same (M1.a e12) _ _ hvw
   have FA2:=FA1.same (M1.t e12)
   revert M2 e12 hv2 FA2
   generalize upd H1 (L.with t).wd (.lst wv')=H2
   intro M2 e12 hv2 FA2
   obtain ⟨a,p,e,ev,rfl,qa,hp,he,ale,nA⟩:=hv2
   have e02:SameM L H H2:=e1.trans' (L':=L.with t) e12 rfl rfl rfl ht
   walk_at "r"
   refine s_gtup qa rfl ?_
   walk_at "r"
   have hwl:wl.length < 9000:=by have:=hs.w; rw [hwx,List.length_append] at this; omega
   refine ⟨xw.came,rfl,?_⟩
   cases h1 with
   | @come w2 x2 wd d hw hc hsub hn h5 =>
    rw [hwx] at hw
    obtain ⟨rfl,e2⟩:=List.append_inj' hw rfl
    cases e2
    rw [hc]
    refine iteF ?_
    walk_at "r"
    obtain ⟨hpl,vv,ts,hval,htr⟩:=FA2 _ _ _ hsub
    refine ⟨_,rfl,L.m,C,L.dx,_,_,rfl,M2.ins,(fs_no (L.with t) S1.steps).2.2.2.1,MC,?_⟩
    walk_at "r"
    refine ⟨p,e,xw.pl,ev,xw.ar,HB,kvs,L.with t,_,vv,wd,d,ts,rfl,M2,hp,he,ale,nA,hval,htr,hn,hpl,hs.r,hwl,hs.t,h5,fun H3 e3 M3=>?_⟩
    walk_at "r"
    exact ⟨m',by omega,_,_,_,_,t,rfl,M3,h2,e02.trans' (L':=L.with t) e3 rfl rfl rfl ht,ht⟩
   | @further _ w2 x2 wd d hw hc hsub hf har =>
    rw [hwx] at hw
    obtain ⟨rfl,e2⟩:=List.append_inj' hw rfl
    cases e2
    rw [hc]
    refine iteT ?_
    walk_at "r"
    obtain ⟨hpl,vv,ts,hval,htr⟩:=FA2 _ _ _ hsub
    refine ⟨_,rfl,L.m,C,L.dx,_,_,rfl,M2.ins,(fs_no (L.with t) S1.steps).2.2.2.2.1,MG,?_⟩
    walk_at "r"
    refine ⟨p,e,xw.pl,ev,xw.ar,HB,kvs,L.with t,_,_,vv,wd,d,ts,rfl,M2,hp,he,ale,nA,hval,htr,sub,FA2,hf,hs.r,hs.t,hwl,hpl,har,fun H3 t3 e3 M3 ht3=>?_⟩
    walk_at "r"
    refine ⟨m',by omega,_,_,_,_,t3,rfl,M3,h2,e02.trans' (L':=L.with t) e3 rfl rfl rfl ht,?_⟩
    by_cases z:t3=L.td
    ·exact .inl z
    ·refine .inr ?_
     cases hH:H t3 with
     | none=>rfl
     | some o =>
      exfalso
      obtain ⟨rv2,er2,_⟩:=M2.rows
      have n1:t3≠L.m:=fun y=>by rw [y,show H2 L.m=_ from M2.ins] at ht3; cases ht3
      have n2:¬ L.A t3:=by
       rintro (y | y | y)
       ·rw [y,show H2 L.rd=_ from er2] at ht3; cases ht3
       ·obtain ⟨wv2,ew2,_⟩:=M2.wait
        rw [y,show H2 L.wd=_ from ew2] at ht3; cases ht3
       ·exact z y
      rw [e02 _ _ n1 n2 hH] at ht3
      cases ht3
noncomputable def sp_tof (K:W.Frag) (C:Addr):Sp:=fun vs H Q _=>∃ (p e:Addr) (pl:List Nat) (ev:List V) (ar:List (Str×Str×V)) (HB:Hp) (kvs:List (List Key×V)) (L:Ml) (S S':MS) (sub:List Nat→Option (Str×Dt)) (n:Nat) (th:List (Str×V)) (x:Str×V),vs=[.ref L.m,.ref p,.ref e]∧MAt K HB C kvs L H S∧H p=some (.tup (plV pl))∧H e=some (.lst ev)∧Al (PrAt K H) ev ar∧¬ L.A e∧FormsAt K H kvs sub∧S.wait.length < 9000∧RunM sub n { S with wait:=S.wait++[⟨pl,ar,false⟩] } S'∧S'.things=th++[x] ∧
 ∀ v H' t,SameM L H H'→MAt K HB C kvs (L.with t) H' { S' with things:=th }→ThAt K H' v x→Q v H'
theorem sc_Machine_thing_of_form:FnScope ["self", "place", "around"] ["self", "place", "around"] (defScope s_Machine_thing_of_form):=⟨rfl,rfl,rfl,by decide +kernel,rfl,by decide +kernel,by decide +kernel⟩
theorem ok_tof {C:Addr} {f:Addr} {fd:FuncData} (F:Fun K "thing_of_form" "Machine.thing_of_form" s_Machine_thing_of_form f fd) (T:Txt K mg) (O:Mc K C) (ME:MethX CX0 P w K mg base 5 C "thing_at_the_end" ["self"] (sp_end K C)):FnOk P w K mg base CX0 6 f fd ["self", "place", "around"] (sp_tof K C):=by
 refine F.okq sc_Machine_thing_of_form (fun vs H Q E h=>?_) (fun cdv A outer s H vs Q E hr h=>?_)
 ·obtain ⟨p,e,pl,ev,ar,HB,kvs,L,S,S',sub,n,th,x,rfl,_⟩:=h
  rfl
 ·obtain ⟨p,e,pl,ev,ar,HB,kvs,L,S,S',sub,n,th,x,rfl,M,hp,he,ale,nA,FA,hwl,R,hx,q⟩:=h
  refine ⟨_,qss_cons (qs_expr (qe_bmK K PySem.F.plainAttrs_list PySem.F.slot_list_append PySem.F.type_list_append mt_append (qe_fldK K (qv 0)) (qa_cons (qe_tup (qa_cons (qv 1) (qa_cons (qv 2) (qa_cons (qe_bl) qa_nil)))) qa_nil)))
   (qss_one (qs_ret (qe_methD0 (k:=5) K CX0 ["self"] (qv 0) (hr.mono (by decide)) pass0))),?_⟩
  have bg:=big
  obtain ⟨wv,ew,aw⟩:=M.wait
  have hwv:=aw.1
  walk_at "r"
  refine ⟨_,rfl,L.m,C,L.dx,_,_,rfl,M.ins,O.cl,O.nw,fs_wait L S.steps,?_⟩
  refine s_tyL (SqL.of ew) ?_
  walk_at "r"
  refine ⟨by show 3≤sizeLine; decide,fun r hr'=>?_⟩
  have s1:Same H (upd H r (.tup [.ref p,.ref e,.bl false])):=Same.upd hr'
  have e1:upd H r (.tup [.ref p,.ref e,.bl false]) r=some (.tup [.ref p,.ref e,.bl false]):=upd_same
  revert s1 e1
  generalize upd H r (.tup [.ref p,.ref e,.bl false])=H1
  intro s1 e1
  walk_at "r"
  refine s_app (s1 _ _ ew) (by omega) ?_
  have M1:=M.new s1
  have M2:=M1.setWait (wv:=wv++[.ref r]) (ws:=S.wait++[⟨pl,ar,false⟩]) ((aw.mono (WtAt.same s1.a)).snoc ⟨r,p,e,ev,rfl,SqT.of e1,s1 _ _ hp,s1 _ _ he,ale.mono (PrAt.same s1.t),nA⟩)
  have m12:SameM L H1 (upd H1 L.wd (.lst (wv++[.ref r]))):=SameM.upd (.inr (.inr (.inl rfl)))
  have m02:SameM L H (upd H1 L.wd (.lst (wv++[.ref r]))):=(s1.m L).trans m12
  have FA2:=FA.same (M.t m02)
  walk_at "r"
  refine ⟨_,rfl,L.m,C,L.dx,_,_,rfl,M2.ins,(fs_no L S.steps).2.2.2.2.2.2.1,ME,?_⟩
  walk_at "r"
  exact ⟨HB,kvs,L,_,S',sub,n,th,x,rfl,M2,FA2,R,hx,fun v H' t e' M' t'=>q v H' t (m02.trans e') M' t'⟩
noncomputable def subW (t:Tr) (pl:List Nat):Option (Str×Dt):=(lastW (walk [] t) pl).map fun u=>(u.wd,noteT u)
theorem ins_t {H:Hp} {a C dx:Addr} {fs:List (Str×V)} (ha:H a=some (.ins C dx fs)) (o:HO):SameT H (upd H a o):=fun b=>⟨fun xs h=>by
 have:b≠a:=fun z=>by rw [z,ha] at h; cases h
 rw [upd_ne this]; exact h,fun o u h=>by
 have:b≠a:=fun z=>by rw [z,ha] at h; cases h
 rw [upd_ne this]; exact h⟩
noncomputable def sp_init (K:W.Frag) (C:Addr):Sp:=fun vs H Q _=>∃ (m dx:Addr) (HB:Hp) (tv:V) (t:Tr),vs=[.ref m,tv,.int 0]∧HB m=none∧HB dx=none∧dx≠m∧H=upd (upd HB dx (.own m)) m (.ins C dx [])∧TrAt K HB tv t∧t.size≤2000 ∧
 ∀ H' L kvs,L.m=m→MAt K HB C kvs L H' ⟨[],[],[],0⟩→FormsAt K H' kvs (subW t)→Q .non H'
theorem sc_Machine_init:FnScope ["self", "tree", "steps"] ["self", "tree", "steps"] (defScope s_Machine_init):=⟨rfl,rfl,rfl,by decide +kernel,rfl,by decide +kernel,by decide +kernel⟩
theorem s_sfld {K:W.Frag} {ta tv:TE} {f:Str} {D:Ends} {σ:St} {H:Hp} (h:tv σ H fun y H1=>ta σ H1 fun x H2=>∃ a C dx fs,x=.ref a∧H2 a=some (.ins C dx fs)∧Cls K C∧NoAttr K C f∧fs.length < 1000∧D.nx σ (upd H2 a (.ins C dx (putF f y fs)))):sFld K ta tv f D σ H:=h
theorem ok_init {C:Addr} {f:Addr} {fd:FuncData} (F:Fun K "__init__" "Machine.__init__" s_Machine_init f fd) (T:Txt K mg) (O:Mc K C) (C_placed_forms:Callee P w K mg base 1 "placed_forms" ["tree"] (sp_placed K)) (MS_:MethX CX0 P w K mg base 1 C "make_steps" ["self", "many"] (sp_make K C)):FnOk P w K mg base CX0 2 f fd ["self", "tree", "steps"] (sp_init K C):=by
 refine F.okq sc_Machine_init (fun vs H Q E h=>?_) (fun cdv A outer s H vs Q E hr h=>?_)
 ·obtain ⟨m,dx,HB,tv,t,rfl,_⟩:=h
  rfl
 ·obtain ⟨m,dx,HB,tv,t,rfl,bm,bd,ndm,hH,ht,hz,q⟩:=h
  refine ⟨_,qss_cons (qs_fldK K (qv 0) (qe_callTy (k_dict K hr.u200 rfl) (by rfl) T.dict (by decide +kernel) (qa_cons (qe_fn C_placed_forms (hr.mono (by decide)) (qa_cons (qv 1) qa_nil)) qa_nil)))
   (qss_cons (qs_fldK K (qv 0) (qe_lst (qa_nil)))
   (qss_cons (qs_fldK K (qv 0) (qe_lst (qa_nil)))
   (qss_cons (qs_fldK K (qv 0) (qe_lst (qa_nil)))
   (qss_cons (qs_fldK K (qv 0) (qe_int))
   (qss_one (qs_expr (qe_methD (k:=1) K CX0 ["self", "many"] (qv 0) (hr.mono (by decide)) pass0 (qa_cons (qv 2) qa_nil)))))))),?_⟩
  have bg:=big
  have sB:Same HB H:=by
   rw [hH]
   exact (Same.upd bd).trans (Same.upd (by rw [upd_ne (Ne.symm ndm)]; exact bm))
  have im:H m=some (.ins C dx []):=by rw [hH]; exact upd_same
  clear hH
  walk_at "r"
  refine s_sfld ?_
  walk_at "r"
  refine ⟨tv,t,rfl,ht.same sB,hz,fun p rows H1 s1 hp1 e1 al1=>?_⟩
  walk_at "r"
  obtain ⟨kvs,alk,look⟩:=forms_of (K:=K) (H:=H1) rows _ al1
  refine ⟨p,rows,rfl,SqL.of e1,.inr ⟨kvs,alk,fun fd hfd=>?_⟩⟩
  have s2:Same H1 (upd H1 fd (.dT (putAll [] kvs))):=Same.upd hfd
  have e2:upd H1 fd (.dT (putAll [] kvs)) fd=some (.dT (putAll [] kvs)):=upd_same
  have s02:=s1.trans s2
  have FA:FormsAt K (upd H1 fd (.dT (putAll [] kvs))) (putAll [] kvs) (subW t):=by
   intro pl wd d hs
   unfold subW at hs
   obtain ⟨u,hu,e⟩:=Option.map_eq_some_iff.mp hs
   cases e
   rcases look pl with ⟨_,l2⟩ | ⟨v,u',l1,l2,tr⟩
   ·rw [hu] at l2; cases l2
   ·rw [hu] at l2
    cases l2
    have hm:=walk_depth [] t _ (lastW_mem hu)
    simp only [List.length_nil,Nat.zero_add] at hm
    refine ⟨by omega,v,u.ps,by rw [valV_putAll]; exact l1,?_⟩
    rw [← tr_eta]
    exact tr.same s2
  have nfm:fd≠m:=fun z=>by rw [z,s1 _ _ im] at hfd; cases hfd
  revert s02 e2 FA
  generalize upd H1 fd (.dT (putAll [] kvs))=H2
  intro e2 s02 FA
  generalize hkv:putAll [] kvs=kv at *
  have sB2:=sB.trans s02
  have im2:=s02 _ _ im
  refine ⟨_,rfl,m,C,dx,_,rfl,im2,O.cl,O.nf,by show 0 < 1000; decide,?_⟩
  have FA3:=FA.same (ins_t im2 (.ins C dx (putF "forms" (.ref fd) [])))
  have sB3:Same HB (upd H2 m (.ins C dx (putF "forms" (.ref fd) []))):=sB2.over bm
  have im3:upd H2 m (.ins C dx (putF "forms" (.ref fd) [])) m=some (.ins C dx (putF "forms" (.ref fd) [])):=upd_same
  have ef3:upd H2 m (.ins C dx (putF "forms" (.ref fd) [])) fd=some (.dT kv):=(upd_ne nfm).trans e2
  revert FA3 sB3 im3 ef3
  generalize upd H2 m (.ins C dx (putF "forms" (.ref fd) []))=H3
  intro FA3 sB3 im3 ef3
  walk_at "r"
  refine s_sfld ?_
  walk_at "r"
  refine ⟨by show 0≤sizeLine; decide,fun rd hrd=>?_⟩
  have s4:Same H3 (upd H3 rd (.lst [])):=Same.upd hrd
  have er4:upd H3 rd (.lst []) rd=some (.lst []):=upd_same
  have nrm:rd≠m:=fun z=>by rw [z,im3] at hrd; cases hrd
  have nrf:fd≠rd:=fun z=>by rw [← z,ef3] at hrd; cases hrd
  have br:HB rd=none:=sB3.free hrd
  revert s4 er4
  generalize upd H3 rd (.lst [])=H4
  intro s4 er4
  have FA4:=FA3.same s4.t
  have sB4:=sB3.trans s4
  have im4:=s4 _ _ im3
  have ef4:=s4 _ _ ef3
  refine ⟨_,rfl,m,C,dx,_,rfl,im4,O.cl,O.nr,by show 1 < 1000; decide,?_⟩
  have FA5:=FA4.same (ins_t im4 (.ins C dx (putF "rows" (.ref rd) (putF "forms" (.ref fd) []))))
  have sB5:Same HB (upd H4 m (.ins C dx (putF "rows" (.ref rd) (putF "forms" (.ref fd) [])))):=sB4.over bm
  have im5:upd H4 m (.ins C dx (putF "rows" (.ref rd) (putF "forms" (.ref fd) []))) m=some (.ins C dx (putF "rows" (.ref rd) (putF "forms" (.ref fd) []))):=upd_same
  have ef5:upd H4 m (.ins C dx (putF "rows" (.ref rd) (putF "forms" (.ref fd) []))) fd=some (.dT kv):=(upd_ne nfm).trans ef4
  have er5:upd H4 m (.ins C dx (putF "rows" (.ref rd) (putF "forms" (.ref fd) []))) rd=some (.lst []):=(upd_ne nrm).trans er4
  revert FA5 sB5 im5 ef5 er5
  generalize upd H4 m (.ins C dx (putF "rows" (.ref rd) (putF "forms" (.ref fd) [])))=H5
  intro FA5 sB5 im5 ef5 er5
  walk_at "r"
  refine s_sfld ?_
  walk_at "r"
  refine ⟨by show 0≤sizeLine; decide,fun wd hwd=>?_⟩
  have s6:Same H5 (upd H5 wd (.lst [])):=Same.upd hwd
  have ew6:upd H5 wd (.lst []) wd=some (.lst []):=upd_same
  have nwm:wd≠m:=fun z=>by rw [z,im5] at hwd; cases hwd
  have nwr:rd≠wd:=fun z=>by rw [← z,er5] at hwd; cases hwd
  have bw:HB wd=none:=sB5.free hwd
  revert s6 ew6
  generalize upd H5 wd (.lst [])=H6
  intro s6 ew6
  have FA6:=FA5.same s6.t
  have sB6:=sB5.trans s6
  have im6:=s6 _ _ im5
  have ef6:=s6 _ _ ef5
  have er6:=s6 _ _ er5
  refine ⟨_,rfl,m,C,dx,_,rfl,im6,O.cl,O.nw,by show 2 < 1000; decide,?_⟩
  have FA7:=FA6.same (ins_t im6 (.ins C dx (putF "waiting" (.ref wd) (putF "rows" (.ref rd) (putF "forms" (.ref fd) [])))))
  have sB7:Same HB (upd H6 m (.ins C dx (putF "waiting" (.ref wd) (putF "rows" (.ref rd) (putF "forms" (.ref fd) []))))):=sB6.over bm
  have im7:upd H6 m (.ins C dx (putF "waiting" (.ref wd) (putF "rows" (.ref rd) (putF "forms" (.ref fd) [])))) m=some (.ins C dx (putF "waiting" (.ref wd) (putF "rows" (.ref rd) (putF "forms" (.ref fd) [])))):=upd_same
  have ef7:upd H6 m (.ins C dx (putF "waiting" (.ref wd) (putF "rows" (.ref rd) (putF "forms" (.ref fd) [])))) fd=some (.dT kv):=(upd_ne nfm).trans ef6
  have er7:upd H6 m (.ins C dx (putF "waiting" (.ref wd) (putF "rows" (.ref rd) (putF "forms" (.ref fd) [])))) rd=some (.lst []):=(upd_ne nrm).trans er6
  have ew7:upd H6 m (.ins C dx (putF "waiting" (.ref wd) (putF "rows" (.ref rd) (putF "forms" (.ref fd) [])))) wd=some (.lst []):=(upd_ne nwm).trans ew6
  revert FA7 sB7 im7 ef7 er7 ew7
  generalize upd H6 m (.ins C dx (putF "waiting" (.ref wd) (putF "rows" (.ref rd) (putF "forms" (.ref fd) []))))=H7
  intro FA7 sB7 im7 ef7 er7 ew7
  walk_at "r"
  refine s_sfld ?_
  walk_at "r"
  refine ⟨by show 0≤sizeLine; decide,fun td htd=>?_⟩
  have s8:Same H7 (upd H7 td (.lst [])):=Same.upd htd
  have et8:upd H7 td (.lst []) td=some (.lst []):=upd_same
  have ntm:td≠m:=fun z=>by rw [z,im7] at htd; cases htd
  have ntr:rd≠td:=fun z=>by rw [← z,er7] at htd; cases htd
  have ntw:wd≠td:=fun z=>by rw [← z,ew7] at htd; cases htd
  have bt:HB td=none:=sB7.free htd
  revert s8 et8
  generalize upd H7 td (.lst [])=H8
  intro s8 et8
  have FA8:=FA7.same s8.t
  have sB8:=sB7.trans s8
  have im8:=s8 _ _ im7
  have ef8:=s8 _ _ ef7
  have er8:=s8 _ _ er7
  have ew8:=s8 _ _ ew7
  refine ⟨_,rfl,m,C,dx,_,rfl,im8,O.cl,O.nt,by show 3 < 1000; decide,?_⟩
  have FA9:=FA8.same (ins_t im8 (.ins C dx (putF "things" (.ref td) (putF "waiting" (.ref wd) (putF "rows" (.ref rd) (putF "forms" (.ref fd) []))))))
  have sB9:Same HB (upd H8 m (.ins C dx (putF "things" (.ref td) (putF "waiting" (.ref wd) (putF "rows" (.ref rd) (putF "forms" (.ref fd) [])))))):=sB8.over bm
  have im9:upd H8 m (.ins C dx (putF "things" (.ref td) (putF "waiting" (.ref wd) (putF "rows" (.ref rd) (putF "forms" (.ref fd) []))))) m=some (.ins C dx (putF "things" (.ref td) (putF "waiting" (.ref wd) (putF "rows" (.ref rd) (putF "forms" (.ref fd) []))))):=upd_same
  have ef9:upd H8 m (.ins C dx (putF "things" (.ref td) (putF "waiting" (.ref wd) (putF "rows" (.ref rd) (putF "forms" (.ref fd) []))))) fd=some (.dT kv):=(upd_ne nfm).trans ef8
  have er9:upd H8 m (.ins C dx (putF "things" (.ref td) (putF "waiting" (.ref wd) (putF "rows" (.ref rd) (putF "forms" (.ref fd) []))))) rd=some (.lst []):=(upd_ne nrm).trans er8
  have ew9:upd H8 m (.ins C dx (putF "things" (.ref td) (putF "waiting" (.ref wd) (putF "rows" (.ref rd) (putF "forms" (.ref fd) []))))) wd=some (.lst []):=(upd_ne nwm).trans ew8
  have et9:upd H8 m (.ins C dx (putF "things" (.ref td) (putF "waiting" (.ref wd) (putF "rows" (.ref rd) (putF "forms" (.ref fd) []))))) td=some (.lst []):=(upd_ne ntm).trans et8
  revert FA9 sB9 im9 ef9 er9 ew9 et9
  generalize upd H8 m (.ins C dx (putF "things" (.ref td) (putF "waiting" (.ref wd) (putF "rows" (.ref rd) (putF "forms" (.ref fd) [])))))=H9
  intro FA9 sB9 im9 ef9 er9 ew9 et9
  walk_at "r"
  refine s_sfld ?_
  walk_at "r"
  refine ⟨m,C,dx,_,rfl,im9,O.cl,O.ns,by show 4 < 1000; decide,?_⟩
  obtain ⟨L,hL⟩:∃ L:Ml,L=⟨m,dx,fd,rd,wd,td⟩:=⟨_,rfl⟩
  have M:MAt K HB C kv L (upd H9 m (.ins C dx (L.fs 0))) ⟨[],[],[],0⟩:=by
   subst hL
   exact ⟨sB9.over bm,bm,br,bw,bt,upd_same,(upd_ne nfm).trans ef9,nwr,ntr,ntw,⟨[],(upd_ne nrm).trans er9,.nil,SepR.nil⟩,⟨[],(upd_ne nwm).trans ew9,.nil⟩,⟨[],(upd_ne ntm).trans et9,.nil⟩⟩
  have FA10:=FA9.same (ins_t im9 (.ins C dx (L.fs 0)))
  rw [show putF "steps" (.int 0) (putF "things" (.ref td) (putF "waiting" (.ref wd) (putF "rows" (.ref rd) (putF "forms" (.ref fd) []))))=L.fs 0 by subst hL; rfl]
  revert M FA10
  generalize upd H9 m (.ins C dx (L.fs 0))=H10
  intro M FA10
  have hm:L.m=m:=by rw [hL]
  walk_at "r"
  refine ⟨_,rfl,m,C,L.dx,_,_,rfl,(by rw [← hm]; exact M.ins),(fs_no L 0).1,MS_,?_⟩
  walk_at "r"
  refine ⟨0,HB,kv,L,_,by rw [hm],M,by show (0:Int) + 0≤500; decide,fun H' e' M'=>?_⟩
  walk_at "r"
  exact q H' L kv hm M' (FA10.same (M.t e'))
noncomputable def sp_run (K:W.Frag):Sp:=fun vs H Q _=>∃ (tv:V) (t:Tr) (n:Nat) (S':MS) (x:Str×V),vs=[tv]∧TrAt K H tv t∧t.size≤2000∧RunM (subW t) n ⟨[],[⟨[],[],false⟩],[],0⟩ S'∧S'.things=[x] ∧
 ∀ (r rd:Addr) (av:V) (rv:List V) (H':Hp),Same H H'→SqT K H' r [av,.ref rd,.int S'.steps]→ThAt K H' av x→H' rd=some (.lst rv)→Al (RwAt K (fun b=>b=rd∨H b≠none) H') rv S'.rows→SepR K (fun b=>b=rd∨H b≠none) H' rv S'.rows→H rd=none→Q (.ref r) H'
theorem sc_run:FnScope ["tree", "machine", "answer"] ["tree"] (defScope s_run):=⟨rfl,rfl,rfl,by decide +kernel,rfl,by decide +kernel,by decide +kernel⟩
theorem ok_run {C:Addr} {f:Addr} {fd:FuncData} (F:Fun K "run" "run" s_run f fd) (T:Txt K mg) (O:Mc K C) (MK_Machine:MakeX CX0 P w K mg base 2 "Machine" C ["self", "tree", "steps"] (sp_init K C)) (MF:MethX CX0 P w K mg base 6 C "thing_of_form" ["self", "place", "around"] (sp_tof K C)):FnOk P w K mg base CX0 7 f fd ["tree"] (sp_run K):=by
 refine F.okq sc_run (fun vs H Q E h=>?_) (fun cdv A outer s H vs Q E hr h=>?_)
 ·obtain ⟨tv,t,n,S',x,rfl,_⟩:=h
  rfl
 ·obtain ⟨tv,t,n,S',x,rfl,ht,hz,R,hx,q⟩:=h
  refine ⟨_,qss_cons (qs_set (i:=1) sc_run.nd rfl (Or.inl rfl) (qe_new MK_Machine (hr.mono (by decide)) pass0 (qa_cons (qv 0) (qa_cons (qe_int) qa_nil))))
   (qss_cons (qs_set (i:=2) sc_run.nd rfl (Or.inl rfl) (qe_methD (k:=6) K CX0 ["self", "place", "around"] (qv 1) (hr.mono (by decide)) pass0 (qa_cons (qe_tup (qa_nil)) (qa_cons (qe_lst (qa_nil)) qa_nil))))
   (qss_one (qs_ret (qe_tup (qa_cons (qv 2) (qa_cons (qe_fldK K (qv 1)) (qa_cons (qe_fldK K (qv 1)) qa_nil))))))),?_⟩
  walk_at "r"
  refine ⟨tv,rfl,?_⟩
  intro m dx h1 h2 h3
  refine ⟨m,dx,H,tv,t,rfl,h1,h2,h3,rfl,ht,hz,fun H1 L kvs hm M FA=>⟨rfl,?_⟩⟩
  subst hm
  walk_at "r"
  refine ⟨_,rfl,L.m,C,L.dx,_,_,rfl,M.ins,(fs_no L 0).2.2.2.2.2.2.2,MF,?_⟩
  walk_at "r"
  refine ⟨by show 0≤sizeLine; decide,fun p hp=>?_⟩
  have s2:Same H1 (upd H1 p (.tup [])):=Same.upd hp
  have e2:upd H1 p (.tup []) p=some (.tup []):=upd_same
  revert s2 e2
  generalize upd H1 p (.tup [])=H2
  intro s2 e2
  walk_at "r"
  refine ⟨by show 0≤sizeLine; decide,fun e he=>?_⟩
  have s3:Same H2 (upd H2 e (.lst [])):=Same.upd he
  have e3:upd H2 e (.lst []) e=some (.lst []):=upd_same
  revert s3 e3
  generalize upd H2 e (.lst [])=H3
  intro s3 e3
  have s13:=s2.trans s3
  have M3:=M.new s13
  have M2:=M.new s2
  have nA:¬ L.A e:=by
   obtain ⟨rv,er,_⟩:=M2.rows
   obtain ⟨wv,ew,_⟩:=M2.wait
   obtain ⟨tv2,et,_⟩:=M2.things
   rintro (z | z | z)
   ·rw [z,er] at he; cases he
   ·rw [z,ew] at he; cases he
   ·rw [z,et] at he; cases he
  walk_at "r"
  refine ⟨p,e,[],[],[],H,kvs,L,_,S',subW t,n,[],x,rfl,M3,s3 _ _ e2,e3,.nil,nA,FA.same s13.t,by show 0 < 9000; decide,R,hx,fun av H4 t4 e4 M4 hav=>?_⟩
  have sH:Same H H4:=M4.base
  obtain ⟨rv,er,ar,spr⟩:=M4.rows
  walk_at "r"
  refine ⟨_,rfl,L.m,C,L.dx,_,_,rfl,M4.ins,O.cl,O.nr,fs_rows (L.with t4) S'.steps,?_⟩
  walk_at "r"
  refine ⟨_,rfl,L.m,C,L.dx,_,_,rfl,M4.ins,O.cl,O.ns,fs_steps (L.with t4) S'.steps,?_⟩
  walk_at "r"
  refine ⟨by show 3≤sizeLine; decide,fun r hr'=>?_⟩
  have s5:Same H4 (upd H4 r (.tup [av,.ref L.rd,.int S'.steps])):=Same.upd hr'
  refine q r L.rd av rv _ (sH.trans s5) (SqT.of upd_same) (ThAt.same s5.t _ _ hav) (s5 _ _ er) (((ar.mono fun v x h=>h.1).mono (RwAt.mono fun b hb _=>?_)).mono (RwAt.same s5.a)) ((spr.mono fun b hb _=>?_).same s5.a) M4.nr
  all_goals rcases hb with z | z
  all_goals first | exact .inl (.inl z) | exact .inr z
inductive RunL (sub:List Nat→Option (Str×Dt)):Nat→MS→Prop where
 | last {S:MS} {w:List Wt} {x:Wt} {wd:Str} {d:Dt} (hs:Small S) (hw:S.wait=w++[x]) (hc:x.came=false) (hsub:sub x.pl=some (wd,d)) (hg:wd ≠ "gap") (h5:500 < S.steps + 1):RunL sub 0 S
 | cons {n:Nat} {S S1:MS} (hs:Small S) (h1:StepM sub S S1) (h2:RunL sub n S1):RunL sub (n + 1) S
noncomputable def sp_endL (K:W.Frag) (C TL:Addr):Sp:=fun vs H _ E=>∃ (HB:Hp) (kvs:List (List Key×V)) (L:Ml) (S:MS) (sub:List Nat→Option (Str×Dt)) (n:Nat),vs=[.ref L.m]∧MAt K HB C kvs L H S∧FormsAt K H kvs sub∧RunL sub n S∧∀ H',Same HB H'→E (.ref TL) none H'
theorem ok_endL {C TL:Addr} {f:Addr} {fd:FuncData} (F:Fun K "thing_at_the_end" "Machine.thing_at_the_end" s_Machine_thing_at_the_end f fd) (T:Txt K mg) (O:Mc K C) (MC:MethX (CXR P w) P w K mg base 3 C "come_to" ["self", "place", "around"] (fun vs H Q E=>sp_come K C vs H Q E∨sp_comeL K C TL vs H Q E)) (MG:MethX CX0 P w K mg base 4 C "go_further" ["self", "place", "around"] (sp_further K C)):FnOk P w K mg base (CXR P w) 5 f fd ["self"] (sp_endL K C TL):=by
 refine F.okx sc_Machine_thing_at_the_end (fun vs H Q E h=>?_) (fun cdv A outer s H vs Q E hr h=>?_)
 ·obtain ⟨HB,kvs,L,S,sub,n,rfl,_⟩:=h
  rfl
 ·obtain ⟨HB,kvs,L,S,sub,n,rfl,M,FA,R,q⟩:=h
  refine ⟨_,qss_cons (qs_while PassesOwn.leaving (qt_truthK K (qe_fldK K (qv 0)) (by intro _; rfl)) (qss_cons (qs_asg (qe_bm0K K PySem.F.plainAttrs_list PySem.F.slot_list_pop PySem.F.type_list_pop mt_pop (qe_fldK K (qv 0))) (qg_tupK K (n:=3) rfl (qgs_cons (qg_name (i:=1) sc_Machine_thing_at_the_end.nd rfl (Or.inl rfl)) (qgs_cons (qg_name (i:=2) sc_Machine_thing_at_the_end.nd rfl (Or.inl rfl)) (qgs_cons (qg_name (i:=3) sc_Machine_thing_at_the_end.nd rfl (Or.inl rfl)) (qgs_nil))))))
   (qss_one (qs_if (qt_truthK K (qv 3) (by intro _; rfl)) (qss_one (qs_expr (qe_methD (k:=4) K CX0 ["self", "place", "around"] (qv 0) (hr.mono (by decide)) pass0 (qa_cons (qv 1) (qa_cons (qv 2) qa_nil))))) (qss_one (qs_expr (qe_methD (k:=3) K (CXR P w) ["self", "place", "around"] (qv 0) (hr.mono (by decide)) (passes_cx (fun _ _ _ h=>h)) (qa_cons (qv 1) (qa_cons (qv 2) qa_nil)))))))))
   (qss_one (qs_ret (qe_bm0K K PySem.F.plainAttrs_list PySem.F.slot_list_pop PySem.F.type_list_pop mt_pop (qe_fldK K (qv 0))))),?_⟩
  have bg:=big
  walk_at "r"
  refine ⟨fun m σ' H'=>∃ v1 v2 v3 S1 t,σ'=[some (.ref L.m),v1,v2,v3]∧MAt K HB C kvs (L.with t) H' S1∧RunL sub m S1∧SameM L H H'∧(t=L.td∨H t=none),⟨n,none,none,none,S,L.td,rfl,M,R,SameM.refl _ _,.inl rfl⟩,?_⟩
  rintro m σ' H1 ⟨v1,v2,v3,S1,t,rfl,M1,R1,e1,ht⟩
  obtain ⟨wv,ew,aw⟩:=M1.wait
  have FA1:=FA.same (M.t e1)
  walk_at "r"
  refine ⟨_,rfl,L.m,C,L.dx,_,_,rfl,M1.ins,O.cl,O.nw,fs_wait (L.with t) S1.steps,?_⟩
  refine s_tru_lst (SqL.of ew) ?_
  cases R1 with
  | @last _ w0 xw wd d hs hw hc hsub hg h5 =>
   rw [hw] at aw
   obtain ⟨wv',v,wl',xw',rfl,exx,aw',hvw⟩:=aw.last (by intro z; rw [z] at aw; have:=aw.1; simp at this)
   obtain ⟨rfl,e2⟩:=List.append_inj' exx rfl
   cases e2
   have hne:(!(wv'++[v]).isEmpty)=true:=by simp
   rw [hne]
   refine iteT ?_
   refine ⟨fun σ2 H2=>∃ m2,m2 < 0∧∃ v1 v2 v3 S1 t,σ2=[some (.ref L.m),v1,v2,v3]∧MAt K HB C kvs (L.with t) H2 S1∧RunL sub m2 S1∧SameM L H H2∧(t=L.td∨H t=none),fun _ _ h=>h,?_⟩
   walk_at "r"
   refine ⟨_,rfl,L.m,C,L.dx,_,_,rfl,M1.ins,O.cl,O.nw,fs_wait (L.with t) S1.steps,?_⟩
   refine s_tyL (SqL.of ew) ?_
   refine s_pop ew ?_
   have M2:=M1.setWait aw'
   have e12:SameM (L.with t) H1 (upd H1 (L.with t).wd (.lst wv')):=SameM.upd (.inr (.inr (.inl rfl)))
   have hv2:=WtAt.same (M1.a e12) _ _ hvw
   have FA2:=FA1.same (M1.t e12)
   revert M2 e12 hv2 FA2
   generalize upd H1 (L.with t).wd (.lst wv')=H2
   intro M2 e12 hv2 FA2
   obtain ⟨a,p,e,ev,rfl,qa,hp,he,ale,nA⟩:=hv2
   have e02:SameM L H H2:=e1.trans' (L':=L.with t) e12 rfl rfl rfl ht
   walk_at "r"
   refine s_gtup qa rfl ?_
   walk_at "r"
   refine ⟨xw.came,rfl,?_⟩
   rw [hc]
   refine iteF ?_
   walk_at "r"
   obtain ⟨hpl,vv,ts,hval,htr⟩:=FA2 _ _ _ hsub
   refine ⟨_,rfl,L.m,C,L.dx,_,_,rfl,M2.ins,(fs_no (L.with t) S1.steps).2.2.2.1,MC,?_⟩
   walk_at "r"
   exact .inr ⟨p,e,xw.pl,ev,xw.ar,HB,kvs,L.with t,_,vv,wd,d,ts,rfl,M2,hp,he,ale,nA,hval,htr,hg,h5,fun H3 e3=>q _ (M2.outer e3)⟩
  | @cons m' _ S2 hs h1 h2 =>
   have key:∃ w x,S1.wait=w++[x]:=by
    cases h1 with
    | come hw=>exact ⟨_,_,hw⟩
    | further hw=>exact ⟨_,_,hw⟩
   obtain ⟨wl,xw,hwx⟩:=key
   rw [hwx] at aw
   obtain ⟨wv',v,wl',xw',rfl,exx,aw',hvw⟩:=aw.last (by intro z; rw [z] at aw; have:=aw.1; simp at this)
   obtain ⟨rfl,e2⟩:=List.append_inj' exx rfl
   cases e2
   have hne:(!(wv'++[v]).isEmpty)=true:=by simp
   rw [hne]
   refine iteT ?_
   refine ⟨fun σ2 H2=>∃ m2,m2 < m' + 1∧∃ v1 v2 v3 S1 t,σ2=[some (.ref L.m),v1,v2,v3]∧MAt K HB C kvs (L.with t) H2 S1∧RunL sub m2 S1∧SameM L H H2∧(t=L.td∨H t=none),fun _ _ h=>h,?_⟩
   walk_at "r"
   refine ⟨_,rfl,L.m,C,L.dx,_,_,rfl,M1.ins,O.cl,O.nw,fs_wait (L.with t) S1.steps,?_⟩
   refine s_tyL (SqL.of ew) ?_
   refine s_pop ew ?_
   have M2:=M1.setWait aw'
   have e12:SameM (L.with t) H1 (upd H1 (L.with t).wd (.lst wv')):=SameM.upd (.inr (.inr (.inl rfl)))
   have hv2:=WtAt.same (M1.a e12) _ _ hvw
   have FA2:=FA1.same (M1.t e12)
   revert M2 e12 hv2 FA2
   generalize upd H1 (L.with t).wd (.lst wv')=H2
   intro M2 e12 hv2 FA2
   obtain ⟨a,p,e,ev,rfl,qa,hp,he,ale,nA⟩:=hv2
   have e02:SameM L H H2:=e1.trans' (L':=L.with t) e12 rfl rfl rfl ht
   walk_at "r"
   refine s_gtup qa rfl ?_
   walk_at "r"
   have hwl:wl.length < 9000:=by have:=hs.w; rw [hwx,List.length_append] at this; omega
   refine ⟨xw.came,rfl,?_⟩
   cases h1 with
   | @come w2 x2 wd d hw hc hsub hn h5 =>
    rw [hwx] at hw
    obtain ⟨rfl,e2⟩:=List.append_inj' hw rfl
    cases e2
    rw [hc]
    refine iteF ?_
    walk_at "r"
    obtain ⟨hpl,vv,ts,hval,htr⟩:=FA2 _ _ _ hsub
    refine ⟨_,rfl,L.m,C,L.dx,_,_,rfl,M2.ins,(fs_no (L.with t) S1.steps).2.2.2.1,MC,?_⟩
    walk_at "r"
    refine .inl ⟨p,e,xw.pl,ev,xw.ar,HB,kvs,L.with t,_,vv,wd,d,ts,rfl,M2,hp,he,ale,nA,hval,htr,hn,hpl,hs.r,hwl,hs.t,h5,fun H3 e3 M3=>?_⟩
    walk_at "r"
    exact ⟨m',by omega,_,_,_,_,t,rfl,M3,h2,e02.trans' (L':=L.with t) e3 rfl rfl rfl ht,ht⟩
   | @further _ w2 x2 wd d hw hc hsub hf har =>
    rw [hwx] at hw
    obtain ⟨rfl,e2⟩:=List.append_inj' hw rfl
    cases e2
    rw [hc]
    refine iteT ?_
    walk_at "r"
    obtain ⟨hpl,vv,ts,hval,htr⟩:=FA2 _ _ _ hsub
    refine ⟨_,rfl,L.m,C,L.dx,_,_,rfl,M2.ins,(fs_no (L.with t) S1.steps).2.2.2.2.1,MG,?_⟩
    walk_at "r"
    refine ⟨p,e,xw.pl,ev,xw.ar,HB,kvs,L.with t,_,_,vv,wd,d,ts,rfl,M2,hp,he,ale,nA,hval,htr,sub,FA2,hf,hs.r,hs.t,hwl,hpl,har,fun H3 t3 e3 M3 ht3=>?_⟩
    walk_at "r"
    refine ⟨m',by omega,_,_,_,_,t3,rfl,M3,h2,e02.trans' (L':=L.with t) e3 rfl rfl rfl ht,?_⟩
    by_cases z:t3=L.td
    ·exact .inl z
    ·refine .inr ?_
     cases hH:H t3 with
     | none=>rfl
     | some o =>
      exfalso
      obtain ⟨rv2,er2,_⟩:=M2.rows
      have n1:t3≠L.m:=fun y=>by rw [y,show H2 L.m=_ from M2.ins] at ht3; cases ht3
      have n2:¬ L.A t3:=by
       rintro (y | y | y)
       ·rw [y,show H2 L.rd=_ from er2] at ht3; cases ht3
       ·obtain ⟨wv2,ew2,_⟩:=M2.wait
        rw [y,show H2 L.wd=_ from ew2] at ht3; cases ht3
       ·exact z y
      rw [e02 _ _ n1 n2 hH] at ht3
      cases ht3
noncomputable def sp_tofL (K:W.Frag) (C TL:Addr):Sp:=fun vs H _ E=>∃ (p e:Addr) (pl:List Nat) (ev:List V) (ar:List (Str×Str×V)) (HB:Hp) (kvs:List (List Key×V)) (L:Ml) (S:MS) (sub:List Nat→Option (Str×Dt)) (n:Nat),vs=[.ref L.m,.ref p,.ref e]∧MAt K HB C kvs L H S∧H p=some (.tup (plV pl))∧H e=some (.lst ev)∧Al (PrAt K H) ev ar∧¬ L.A e∧FormsAt K H kvs sub∧S.wait.length < 9000∧RunL sub n { S with wait:=S.wait++[⟨pl,ar,false⟩] }∧∀ H',Same HB H'→E (.ref TL) none H'
theorem ok_tofL {C TL:Addr} {f:Addr} {fd:FuncData} (F:Fun K "thing_of_form" "Machine.thing_of_form" s_Machine_thing_of_form f fd) (T:Txt K mg) (O:Mc K C) (ME:MethX (CXR P w) P w K mg base 5 C "thing_at_the_end" ["self"] (sp_endL K C TL)):FnOk P w K mg base (CXR P w) 6 f fd ["self", "place", "around"] (sp_tofL K C TL):=by
 refine F.okx sc_Machine_thing_of_form (fun vs H Q E h=>?_) (fun cdv A outer s H vs Q E hr h=>?_)
 ·obtain ⟨p,e,pl,ev,ar,HB,kvs,L,S,sub,n,rfl,_⟩:=h
  rfl
 ·obtain ⟨p,e,pl,ev,ar,HB,kvs,L,S,sub,n,rfl,M,hp,he,ale,nA,FA,hwl,R,q⟩:=h
  refine ⟨_,qss_cons (qs_expr (qe_bmK K PySem.F.plainAttrs_list PySem.F.slot_list_append PySem.F.type_list_append mt_append (qe_fldK K (qv 0)) (qa_cons (qe_tup (qa_cons (qv 1) (qa_cons (qv 2) (qa_cons (qe_bl) qa_nil)))) qa_nil)))
   (qss_one (qs_ret (qe_methD0 (k:=5) K (CXR P w) ["self"] (qv 0) (hr.mono (by decide)) (passes_cx (fun _ _ _ h=>h))))),?_⟩
  have bg:=big
  obtain ⟨wv,ew,aw⟩:=M.wait
  have hwv:=aw.1
  walk_at "r"
  refine ⟨_,rfl,L.m,C,L.dx,_,_,rfl,M.ins,O.cl,O.nw,fs_wait L S.steps,?_⟩
  refine s_tyL (SqL.of ew) ?_
  walk_at "r"
  refine ⟨by show 3≤sizeLine; decide,fun r hr'=>?_⟩
  have s1:Same H (upd H r (.tup [.ref p,.ref e,.bl false])):=Same.upd hr'
  have e1:upd H r (.tup [.ref p,.ref e,.bl false]) r=some (.tup [.ref p,.ref e,.bl false]):=upd_same
  revert s1 e1
  generalize upd H r (.tup [.ref p,.ref e,.bl false])=H1
  intro s1 e1
  walk_at "r"
  refine s_app (s1 _ _ ew) (by omega) ?_
  have M1:=M.new s1
  have M2:=M1.setWait (wv:=wv++[.ref r]) (ws:=S.wait++[⟨pl,ar,false⟩]) ((aw.mono (WtAt.same s1.a)).snoc ⟨r,p,e,ev,rfl,SqT.of e1,s1 _ _ hp,s1 _ _ he,ale.mono (PrAt.same s1.t),nA⟩)
  have m12:SameM L H1 (upd H1 L.wd (.lst (wv++[.ref r]))):=SameM.upd (.inr (.inr (.inl rfl)))
  have m02:SameM L H (upd H1 L.wd (.lst (wv++[.ref r]))):=(s1.m L).trans m12
  have FA2:=FA.same (M.t m02)
  walk_at "r"
  refine ⟨_,rfl,L.m,C,L.dx,_,_,rfl,M2.ins,(fs_no L S.steps).2.2.2.2.2.2.1,ME,?_⟩
  walk_at "r"
  exact ⟨HB,kvs,L,_,sub,n,rfl,M2,FA2,R,q⟩
noncomputable def sp_runL (K:W.Frag) (TL:Addr):Sp:=fun vs H _ E=>∃ (tv:V) (t:Tr) (n:Nat),vs=[tv]∧TrAt K H tv t∧t.size≤2000∧RunL (subW t) n ⟨[],[⟨[],[],false⟩],[],0⟩∧∀ H',Same H H'→E (.ref TL) none H'
theorem ok_runL {C TL:Addr} {f:Addr} {fd:FuncData} (F:Fun K "run" "run" s_run f fd) (T:Txt K mg) (O:Mc K C) (MK_Machine:MakeX CX0 P w K mg base 2 "Machine" C ["self", "tree", "steps"] (sp_init K C)) (MF:MethX (CXR P w) P w K mg base 6 C "thing_of_form" ["self", "place", "around"] (sp_tofL K C TL)):FnOk P w K mg base (CXR P w) 7 f fd ["tree"] (sp_runL K TL):=by
 refine F.okx sc_run (fun vs H Q E h=>?_) (fun cdv A outer s H vs Q E hr h=>?_)
 ·obtain ⟨tv,t,n,rfl,_⟩:=h
  rfl
 ·obtain ⟨tv,t,n,rfl,ht,hz,R,q⟩:=h
  refine ⟨_,qss_cons (qs_set (i:=1) sc_run.nd rfl (Or.inl rfl) (qe_new MK_Machine (hr.mono (by decide)) pass0 (qa_cons (qv 0) (qa_cons (qe_int) qa_nil))))
   (qss_cons (qs_set (i:=2) sc_run.nd rfl (Or.inl rfl) (qe_methD (k:=6) K (CXR P w) ["self", "place", "around"] (qv 1) (hr.mono (by decide)) (passes_cx (fun _ _ _ h=>h)) (qa_cons (qe_tup (qa_nil)) (qa_cons (qe_lst (qa_nil)) qa_nil))))
   (qss_one (qs_ret (qe_tup (qa_cons (qv 2) (qa_cons (qe_fldK K (qv 1)) (qa_cons (qe_fldK K (qv 1)) qa_nil))))))),?_⟩
  walk_at "r"
  refine ⟨tv,rfl,?_⟩
  intro m dx h1 h2 h3
  refine ⟨m,dx,H,tv,t,rfl,h1,h2,h3,rfl,ht,hz,fun H1 L kvs hm M FA=>⟨rfl,?_⟩⟩
  subst hm
  walk_at "r"
  refine ⟨_,rfl,L.m,C,L.dx,_,_,rfl,M.ins,(fs_no L 0).2.2.2.2.2.2.2,MF,?_⟩
  walk_at "r"
  refine ⟨by show 0≤sizeLine; decide,fun p hp=>?_⟩
  have s2:Same H1 (upd H1 p (.tup [])):=Same.upd hp
  have e2:upd H1 p (.tup []) p=some (.tup []):=upd_same
  revert s2 e2
  generalize upd H1 p (.tup [])=H2
  intro s2 e2
  walk_at "r"
  refine ⟨by show 0≤sizeLine; decide,fun e he=>?_⟩
  have s3:Same H2 (upd H2 e (.lst [])):=Same.upd he
  have e3:upd H2 e (.lst []) e=some (.lst []):=upd_same
  revert s3 e3
  generalize upd H2 e (.lst [])=H3
  intro s3 e3
  have s13:=s2.trans s3
  have M3:=M.new s13
  have M2:=M.new s2
  have nA:¬ L.A e:=by
   obtain ⟨rv,er,_⟩:=M2.rows
   obtain ⟨wv,ew,_⟩:=M2.wait
   obtain ⟨tv2,et,_⟩:=M2.things
   rintro (z | z | z)
   ·rw [z,er] at he; cases he
   ·rw [z,ew] at he; cases he
   ·rw [z,et] at he; cases he
  walk_at "r"
  exact ⟨p,e,[],[],[],H,kvs,L,_,subW t,n,rfl,M3,s3 _ _ e2,e3,.nil,nA,FA.same s13.t,by show 0 < 9000; decide,R,q⟩
end
end K44
namespace K44
open PySem L2
noncomputable def LeafOk (wd:Str) (nv:V):Prop:=(wd = "num" ∧ ∃ i,nv=.int i)∨(wd = "truth" ∧ ∃ b,nv=.bl b)∨(wd = "name" ∧ ∃ z,nv=.str z)∨(wd = "odd" ∧ ∃ z,nv=.str z)∨(wd = "gap" ∧ nv=.non)
noncomputable def lookN (wd:Str) (nv:V) (ar:List (Str×Str×V)):Option (Str×V):=match nv with
 | .str z=>if wd = "name" then lookA ar z else none
 | _=>none
noncomputable def leafG (wd:Str) (nv:V) (k:Nat) (pl:List Nat) (ar:List (Str×Str×V)):(Str×V)×List Rx:=if wd∈(["num", "truth"]:List Str) then ((wd,nv),[]) else match lookN wd nv ar with
 | some th=>(th,[])
 | none=>(("row",.int (k:Nat)),[⟨wd,plI pl,[],if wd = "gap" then ar else []⟩])
theorem leafS_N (S:MS) (wd:Str) (nv:V) (pl:List Nat) (ar:List (Str×Str×V)):leafS S wd nv pl ar=if wd∈(["num", "truth"]:List Str) then ((wd,nv),S) else match lookN wd nv ar with
  | some th=>(th,S)
  | none=>(("row",.int (S.rows.length:Nat)),{ S with rows:=S.rows++[⟨wd,plI pl,[],if wd∈WA then ar else []⟩] }):=by
 unfold leafS
 cases nv <;> rfl
theorem LeafOk.word {wd:Str} {nv:V} (h:LeafOk wd nv):partsA wd=none∧NoteOk wd (.flat nv)∧(wd∈WA↔wd = "gap"):=by
 rcases h with ⟨rfl,_,rfl⟩ | ⟨rfl,_,rfl⟩ | ⟨rfl,_,rfl⟩ | ⟨rfl,_,rfl⟩ | ⟨rfl,rfl⟩
 ·exact ⟨by decide +kernel,⟨fun _=>⟨_,rfl⟩,fun h=>absurd h (by decide +kernel)⟩,by decide +kernel⟩
 ·exact ⟨by decide +kernel,⟨fun _=>⟨_,rfl⟩,fun h=>absurd h (by decide +kernel)⟩,by decide +kernel⟩
 ·exact ⟨by decide +kernel,⟨fun _=>⟨_,rfl⟩,fun _=>⟨_,rfl⟩⟩,by decide +kernel⟩
 ·exact ⟨by decide +kernel,⟨fun _=>⟨_,rfl⟩,fun _=>⟨_,rfl⟩⟩,by decide +kernel⟩
 ·exact ⟨by decide +kernel,⟨fun _=>⟨_,rfl⟩,fun h=>absurd h (by decide +kernel)⟩,by decide +kernel⟩
theorem leafS_G (S:MS) {wd:Str} {nv:V} (h:LeafOk wd nv) (pl:List Nat) (ar:List (Str×Str×V)):leafS S wd nv pl ar=((leafG wd nv S.rows.length pl ar).1,{ S with rows:=S.rows++(leafG wd nv S.rows.length pl ar).2 }):=by
 have hw:=h.word.2.2
 rw [leafS_N]
 unfold leafG
 by_cases h:wd∈(["num", "truth"]:List Str)
 ·rw [if_pos h,if_pos h]
  simp
 ·rw [if_neg h,if_neg h]
  cases lookN wd nv ar with
  | some th=>simp
  | none =>
   by_cases hg:wd = "gap"
   ·simp only [if_pos hg,if_pos (hw.mpr hg)]
   ·simp only [if_neg hg,if_neg fun x=>hg (hw.mp x)]
end K44
namespace K44
open PySem L2
mutual
theorem walk_ext:∀ (pl:List Nat) (t:Tr) (x:List Nat×Tr),x∈walk pl t→∃ q,x.1=pl++q
 | pl,.mk w n ps,x,h=>by
  rw [walk] at h
  rcases List.mem_cons.mp h with rfl | h
  ·exact ⟨[],by simp⟩
  ·exact walks_ext pl 0 ps x h
theorem walks_ext:∀ (pl:List Nat) (i:Nat) (ts:List Tr) (x:List Nat×Tr),x∈walks pl i ts→∃ q,x.1=pl++q
 | _,_,[],x,h=>by rw [walks] at h; exact nomatch h
 | pl,i,t :: r,x,h=>by
  rw [walks] at h
  rcases List.mem_append.mp h with h | h
  ·obtain ⟨q,e⟩:=walk_ext (pl++[i]) t x h
   exact ⟨[i]++q,by rw [e,List.append_assoc]⟩
  ·exact walks_ext pl (i + 1) r x h
end
theorem lastW_cons (x:List Nat×Tr) (l:List (List Nat×Tr)) (pl:List Nat):lastW (x :: l) pl=(lastW l pl).or (if x.1=pl then some x.2 else none):=by
 unfold lastW
 rw [List.reverse_cons,List.find?_append]
 cases h:l.reverse.find? fun x=>decide (x.1=pl) with
 | some y=>simp
 | none =>
  by_cases e:x.1=pl
  ·simp [e]
  ·simp [e]
theorem lastW_none {ws:List (List Nat×Tr)} {pl:List Nat} (h:∀ x∈ws,x.1≠pl):lastW ws pl=none:=by
 unfold lastW
 rw [List.find?_eq_none.mpr]
 ·rfl
 ·intro x hx
  rw [decide_eq_true_iff]
  exact h x (List.mem_reverse.mp hx)
noncomputable def stp (wd:Str):Int:=if wd = "gap" then 0 else 1
theorem stp_le (wd:Str):0≤stp wd∧stp wd≤1:=by unfold stp; split <;> decide
theorem leafG_len (wd:Str) (nv:V) (k:Nat) (pl:List Nat) (ar:List (Str×Str×V)):(leafG wd nv k pl ar).2.length≤1:=by
 unfold leafG
 split
 ·exact Nat.zero_le _
 ·split
  ·exact Nat.zero_le _
  ·exact Nat.le_refl _
theorem come_leafG {S:MS} {wd:Str} {nv:V} (h:LeafOk wd nv) (pl:List Nat) (ar:List (Str×Str×V)):comeS S wd (.flat nv) pl ar=⟨S.rows++(leafG wd nv S.rows.length pl ar).2,S.wait,S.things++[(leafG wd nv S.rows.length pl ar).1],S.steps + stp wd⟩:=by
 unfold comeS
 rw [h.word.1]
 by_cases g:wd = "gap"
 ·simp only [if_pos g,leafS_G _ h,dtV,stp,Int.add_zero]
 ·simp only [if_neg g,leafS_G _ h,dtV,stp]
noncomputable def joinR (wd:Str) (pl:List Nat) (k:Nat) (x y:Str×V):(Str×V)×List Rx:=if wd∈OPS∧x.1 = "num" ∧ y.1 = "num" then (recT wd (numV x.2) (numV y.2),[]) else (("row",.int (k:Nat)),[⟨wd,plI pl,[x,y],[]⟩])
noncomputable def atT:Tr→List Nat→Option Tr
 | t,[]=>some t
 | .mk _ _ ts,i :: r=>match ts[i]? with
  | some t=>atT t r
  | none=>none
termination_by _ pl=>pl.length
theorem atT_nil (t:Tr):atT t []=some t:=by rw [atT]
theorem atT_cons (w:Str) (n:Dt) (ts:List Tr) (i:Nat) (r:List Nat):atT (.mk w n ts) (i :: r)=(ts[i]?).bind fun t=>atT t r:=by
 rw [atT]
 cases ts[i]? <;> rfl
theorem lastW_append (a b:List (List Nat×Tr)) (pl:List Nat):lastW (a++b) pl=(lastW b pl).or (lastW a pl):=by
 unfold lastW
 rw [List.reverse_append,List.find?_append]
 cases b.reverse.find? fun x=>decide (x.1=pl) <;> simp
theorem walks_below:∀ (pl:List Nat) (i:Nat) (ts:List Tr) (x:List Nat×Tr),x∈walks pl i ts→∃ k q,i≤k∧x.1=pl++k :: q
 | _,_,[],x,h=>by rw [walks] at h; exact nomatch h
 | pl,i,t :: r,x,h=>by
  rw [walks] at h
  rcases List.mem_append.mp h with h | h
  ·obtain ⟨q,e⟩:=walk_ext (pl++[i]) t x h
   exact ⟨i,q,Nat.le_refl _,by rw [e,List.append_assoc]; rfl⟩
  ·obtain ⟨k,q,hk,e⟩:=walks_below pl (i + 1) r x h
   exact ⟨k,q,by omega,e⟩
mutual
theorem at_walk:∀ (p:List Nat) (t:Tr) (q:List Nat),lastW (walk p t) (p++q)=atT t q
 | p,.mk w n ps,[]=>by
  rw [walk,lastW_cons,lastW_none,atT_nil,if_pos (by simp)]
  ·rfl
  ·intro x hx
   obtain ⟨k,q,_,e⟩:=walks_below p 0 ps x hx
   rw [e]
   intro z
   have:=congrArg List.length z
   simp at this
 | p,.mk w n ps,k :: r=>by
  rw [walk,lastW_cons,at_walks p 0 ps k r,if_pos (Nat.zero_le _),atT_cons,if_neg (fun z=>by have:=congrArg List.length z; simp at this),Option.or_none,Nat.sub_zero]
theorem at_walks:∀ (p:List Nat) (i:Nat) (ts:List Tr) (k:Nat) (r:List Nat),lastW (walks p i ts) (p++k :: r)=if i≤k then (ts[k - i]?).bind (fun t=>atT t r) else none
 | p,i,[],k,r=>by
  rw [walks]
  split <;> simp [lastW]
 | p,i,t :: ts,k,r=>by
  rw [walks,lastW_append,at_walks p (i + 1) ts k r]
  by_cases hk:k=i
  ·subst hk
   rw [if_neg (by omega),if_pos (Nat.le_refl _),Nat.sub_self,Option.none_or]
   have:=at_walk (p++[k]) t r
   rw [List.append_assoc] at this
   rw [show p++k :: r=p++([k]++r) from rfl,this]
   rfl
  ·have e:lastW (walk (p++[i]) t) (p++k :: r)=none:=lastW_none fun x hx z=>by
    obtain ⟨q,e⟩:=walk_ext _ _ _ hx
    rw [e,List.append_assoc] at z
    have:=List.append_cancel_left z
    simp at this
    exact hk this.1.symm
   rw [e,Option.or_none]
   by_cases hlt:i≤k
   ·rw [if_pos (by omega),if_pos hlt,show k - i=(k - (i + 1)) + 1 by omega]
    rfl
   ·rw [if_neg (by omega),if_neg hlt]
end
theorem sub_at (t:Tr) (pl:List Nat):subW t pl=(atT t pl).map fun u=>(u.wd,noteT u):=by
 unfold subW
 rw [← at_walk [] t pl]
 rfl
inductive StepU (sub:List Nat→Option (Str×Dt)):MS→MS→Prop where
 | come {S:MS} {w:List Wt} {x:Wt} {wd:Str} {d:Dt} (hw:S.wait=w++[x]) (hc:x.came=false) (hs:sub x.pl=some (wd,d)) (hn:NoteOk wd d):StepU sub S (comeS { S with wait:=w } wd d x.pl x.ar)
 | further {S S2:MS} {w:List Wt} {x:Wt} {wd:Str} {d:Dt} (hw:S.wait=w++[x]) (hc:x.came=true) (hs:sub x.pl=some (wd,d)) (hf:Fur sub wd d x.pl x.ar { S with wait:=w } S2) (hr:x.ar.length≤9000):StepU sub S S2
inductive ChU (sub:List Nat→Option (Str×Dt)):MS→MS→Prop where
 | nil {S:MS}:ChU sub S S
 | cons {S S1 S2:MS} (hs:Small S) (h1:StepU sub S S1) (h2:ChU sub S1 S2):ChU sub S S2
theorem ChU.trans {sub:List Nat→Option (Str×Dt)} {S S1 S2:MS} (h:ChU sub S S1) (h':ChU sub S1 S2):ChU sub S S2:=by
 induction h with
 | nil=>exact h'
 | cons a b _ ih=>exact .cons a b (ih h')
theorem leafS_steps (S:MS) (wd:Str) (nv:V) (pl:List Nat) (ar:List (Str×Str×V)):(leafS S wd nv pl ar).2.steps=S.steps:=by
 unfold leafS
 split
 ·rfl
 split <;> rfl
theorem comeS_steps (S:MS) (wd:Str) (d:Dt) (pl:List Nat) (ar:List (Str×Str×V)):(comeS S wd d pl ar).steps=S.steps + stp wd:=by
 unfold comeS stp
 by_cases g:wd = "gap"
 ·simp only [if_pos g]
  cases partsA wd with
  | some ns=>simp
  | none=>simp [leafS_steps]
 ·simp only [if_neg g]
  cases partsA wd with
  | some ns=>rfl
  | none=>exact leafS_steps _ _ _ _ _
theorem fur_steps {sub:List Nat→Option (Str×Dt)} {wd:Str} {d:Dt} {pl:List Nat} {ar:List (Str×Str×V)} {S S2:MS} (h:Fur sub wd d pl ar S S2):S2.steps=S.steps:=by
 cases h with
 | two=>unfold furS; split <;> rfl
 | calls=>rfl
 | ifs=>rfl
 | lets=>rfl
theorem StepU.le {sub:List Nat→Option (Str×Dt)} {S S1:MS} (h:StepU sub S S1):S.steps≤S1.steps:=by
 cases h with
 | come hw hc hs hn=>rw [comeS_steps]; have:=stp_le (by assumption:Str); have:=(stp_le ‹Str›).1; show S.steps≤S.steps + _; omega
 | further hw hc hs hf hr=>rw [fur_steps hf]; exact Int.le_refl _
theorem ChU.le {sub:List Nat→Option (Str×Dt)} {S S1:MS} (h:ChU sub S S1):S.steps≤S1.steps:=by
 induction h with
 | nil=>exact Int.le_refl _
 | cons _ b _ ih=>exact Int.le_trans b.le ih
theorem ChU.fine {sub:List Nat→Option (Str×Dt)} {S S1:MS} (h:ChU sub S S1) (hw:S1.wait=[]) (h5:S1.steps≤500):∃ n,RunM sub n S S1:=by
 induction h with
 | nil=>exact ⟨0,.nil hw⟩
 | @cons S S1 S2 a b c ih =>
  obtain ⟨n,R⟩:=ih hw h5
  refine ⟨n + 1,.cons a ?_ R⟩
  cases b with
  | further hw hc hs hf hr=>exact .further hw hc hs hf hr
  | @come w x wd d hw hc hs hn =>
   refine .come hw hc hs hn fun hg=>?_
   have h1:=c.le
   rw [comeS_steps] at h1
   have:stp wd=1:=if_neg hg
   have h1:S.steps + stp wd≤S2.steps:=h1
   omega
theorem ChU.late {sub:List Nat→Option (Str×Dt)} {S S1:MS} (h:ChU sub S S1) (h0:S.steps≤500) (h5:500 < S1.steps):∃ n,RunL sub n S:=by
 induction h with
 | nil=>omega
 | @cons S S1 S2 a b c ih =>
  cases b with
  | further hw hc hs hf hr =>
   obtain ⟨n,R⟩:=ih (by rw [fur_steps hf]; exact h0) h5
   exact ⟨n + 1,.cons a (.further hw hc hs hf hr) R⟩
  | @come w x wd d hw hc hs hn =>
   by_cases hg:wd ≠ "gap" ∧ 500 < S.steps + 1
   ·exact ⟨0,.last a hw hc hs hg.1 hg.2⟩
   ·have h6:wd ≠ "gap" → S.steps + 1≤500:=fun z=>by
     rcases Int.lt_or_le 500 (S.steps + 1) with h | h
     ·exact absurd ⟨z,h⟩ hg
     ·exact h
    obtain ⟨n,R⟩:=ih (by
     rw [comeS_steps]
     show S.steps + stp wd≤500
     unfold stp
     by_cases z:wd = "gap"
     ·rw [if_pos z]; omega
     ·rw [if_neg z]; exact h6 z) h5
    exact ⟨n + 1,.cons a (.come hw hc hs hn h6) R⟩
end K44
namespace K44
open PySem L2
noncomputable abbrev nm (i:Int):Str×V:=("num",.int i)
noncomputable abbrev tr (b:Bool):Str×V:=("truth",.bl b)
noncomputable abbrev rwN (k:Nat):Str×V:=("row",.int (k:Nat))
noncomputable abbrev fm (w:Str) (d:Dt):Option (Str×Dt):=some (w,d)
section
variable {sub:List Nat→Option (Str×Dt)} {rs:List Rx} {w:List Wt} {th:List (Str×V)} {st:Int} {pl:List Nat} {ar:List (Str×Str×V)} {wd:Str} {nv:V} {d:Dt}
theorem one (hz:Small S) (h:StepU sub S S'):ChU sub S S':=.cons hz h .nil
theorem sm (h:rs.length + (w.length + th.length)≤8900) {x:Wt}:Small ⟨rs,w++[x],th,st⟩:=⟨by show rs.length < 9000; omega,by show (w++[x]).length < 9000; rw [List.length_append,List.length_singleton]; omega,by show th.length < 9000; omega⟩
theorem u_leaf (hs:sub pl=some (wd,.flat nv)) (ok:LeafOk wd nv) (hz:rs.length + (w.length + th.length)≤8900):ChU sub ⟨rs,w++[⟨pl,ar,false⟩],th,st⟩ ⟨rs++(leafG wd nv rs.length pl ar).2,w,th++[(leafG wd nv rs.length pl ar).1],st + stp wd⟩:=by
 refine one (sm hz) ?_
 have:=StepU.come (sub:=sub) (S:=⟨rs,w++[⟨pl,ar,false⟩],th,st⟩) (w:=w) (x:=⟨pl,ar,false⟩) rfl rfl hs ok.word.2.1
 rw [come_leafG ok] at this
 exact this
theorem u_num {i:Int} (hs:sub pl=fm "num" (.flat (.int i))) (hz:rs.length + (w.length + th.length)≤8900):ChU sub ⟨rs,w++[⟨pl,ar,false⟩],th,st⟩ ⟨rs,w,th++[nm i],st + 1⟩:=by
 have h:=u_leaf (rs:=rs) (w:=w) (th:=th) (st:=st) (ar:=ar) hs (.inl ⟨rfl,i,rfl⟩) hz
 have e:leafG "num" (.int i) rs.length pl ar=(nm i,[]):=by unfold leafG; rw [if_pos (by decide +kernel)]
 rw [e,List.append_nil] at h
 exact h
theorem u_name {z:Str} {y:Str×V} (hs:sub pl=fm "name" (.flat (.str z))) (hl:lookA ar z=some y) (hz:rs.length + (w.length + th.length)≤8900):ChU sub ⟨rs,w++[⟨pl,ar,false⟩],th,st⟩ ⟨rs,w,th++[y],st + 1⟩:=by
 have h:=u_leaf (rs:=rs) (w:=w) (th:=th) (st:=st) (ar:=ar) hs (.inr (.inr (.inl ⟨rfl,z,rfl⟩))) hz
 have e:leafG "name" (.str z) rs.length pl ar=(y,[]):=by
  have e2:lookN "name" (.str z) ar=some y:=by
   show (if ("name" : Str) = "name" then lookA ar z else none)=some y
   rw [if_pos rfl]
   exact hl
  unfold leafG
  rw [if_neg (by decide +kernel),e2]
 rw [e,List.append_nil] at h
 exact h
theorem u_gap (hs:sub pl=fm "gap" (.flat .non)) (hz:rs.length + (w.length + th.length)≤8900):ChU sub ⟨rs,w++[⟨pl,ar,false⟩],th,st⟩ ⟨rs++[⟨"gap",plI pl,[],ar⟩],w,th++[rwN rs.length],st⟩:=by
 have h:=u_leaf (rs:=rs) (w:=w) (th:=th) (st:=st) (ar:=ar) hs (.inr (.inr (.inr (.inr ⟨rfl,rfl⟩)))) hz
 have e:leafG "gap" .non rs.length pl ar=(rwN rs.length,[⟨"gap",plI pl,[],ar⟩]):=by
  unfold leafG
  rw [if_neg (by decide +kernel)]
  rfl
 rw [e,show stp "gap" = 0 from if_pos rfl,Int.add_zero] at h
 exact h
theorem note_non (h1:¬ wd∈(["num", "truth"]:List Str)) (h2:¬ wd = "name"):NoteOk wd d:=⟨fun h=>absurd h h1,fun h=>absurd h h2⟩
theorem u_two (hs:sub pl=some (wd,d)) (hw:partsA wd=some [1,0]) (hn:¬ wd∈(["num", "truth"]:List Str)∧¬ wd = "name" ∧ ¬ wd = "gap") (hz:rs.length + (w.length + th.length)≤8900):ChU sub ⟨rs,w++[⟨pl,ar,false⟩],th,st⟩ ⟨rs,w++[⟨pl,ar,true⟩]++[⟨pl++[1],ar,false⟩]++[⟨pl++[0],ar,false⟩],th,st + 1⟩:=by
 refine one (sm hz) ?_
 have:=StepU.come (sub:=sub) (S:=⟨rs,w++[⟨pl,ar,false⟩],th,st⟩) (w:=w) (x:=⟨pl,ar,false⟩) rfl rfl hs (note_non hn.1 hn.2.1)
 have e:comeS { (⟨rs,w++[⟨pl,ar,false⟩],th,st⟩:MS) with wait:=w } wd d pl ar=⟨rs,w++[⟨pl,ar,true⟩]++[⟨pl++[1],ar,false⟩]++[⟨pl++[0],ar,false⟩],th,st + 1⟩:=by
  unfold comeS
  rw [hw]
  simp only [if_neg hn.2.2]
  simp
 rw [e] at this
 exact this
theorem u_one (hs:sub pl=some (wd,d)) (hw:partsA wd=some [0]) (hn:¬ wd∈(["num", "truth"]:List Str)∧¬ wd = "name" ∧ ¬ wd = "gap") (hz:rs.length + (w.length + th.length)≤8900):ChU sub ⟨rs,w++[⟨pl,ar,false⟩],th,st⟩ ⟨rs,w++[⟨pl,ar,true⟩]++[⟨pl++[0],ar,false⟩],th,st + 1⟩:=by
 refine one (sm hz) ?_
 have:=StepU.come (sub:=sub) (S:=⟨rs,w++[⟨pl,ar,false⟩],th,st⟩) (w:=w) (x:=⟨pl,ar,false⟩) rfl rfl hs (note_non hn.1 hn.2.1)
 have e:comeS { (⟨rs,w++[⟨pl,ar,false⟩],th,st⟩:MS) with wait:=w } wd d pl ar=⟨rs,w++[⟨pl,ar,true⟩]++[⟨pl++[0],ar,false⟩],th,st + 1⟩:=by
  unfold comeS
  rw [hw]
  simp only [if_neg hn.2.2]
  simp
 rw [e] at this
 exact this
theorem sm2 (h:rs.length + (w.length + th.length)≤8900) {x:Wt} {a b:Str×V}:Small ⟨rs,w++[x],th++[a]++[b],st⟩:=⟨by show rs.length < 9000; omega,by show (w++[x]).length < 9000; rw [List.length_append,List.length_singleton]; omega,by show (th++[a]++[b]).length < 9000; simp only [List.length_append,List.length_singleton]; omega⟩
theorem u_join {x y:Str×V} (hs:sub pl=some (wd,d)) (hw:wd∈OPS) (ok:RowOk rs x) (ox:NumOk x) (oy:NumOk y) (ha:ar.length≤9000) (hz:rs.length + (w.length + th.length)≤8900):ChU sub ⟨rs,w++[⟨pl,ar,true⟩],th++[x]++[y],st⟩ ⟨rs++(joinR wd pl rs.length x y).2,w,th++[(joinR wd pl rs.length x y).1],st⟩:=by
 refine one (sm2 hz) ?_
 have:=StepU.further (sub:=sub) (S:=⟨rs,w++[⟨pl,ar,true⟩],th++[x]++[y],st⟩) (w:=w) (x:=⟨pl,ar,true⟩) rfl rfl hs (.two (th:=th) (x:=x) (y:=y) (.inl hw) (by simp) ok ox oy) ha
 have e:furS { (⟨rs,w++[⟨pl,ar,true⟩],th++[x]++[y],st⟩:MS) with wait:=w } wd pl th x y=⟨rs++(joinR wd pl rs.length x y).2,w,th++[(joinR wd pl rs.length x y).1],st⟩:=by
  unfold furS joinR
  by_cases h:wd∈OPS∧x.1 = "num" ∧ y.1 = "num"
  ·rw [if_pos h,if_pos h]
   simp
  ·rw [if_neg h,if_neg h]
 rw [e] at this
 exact this
theorem rowok_num (i:Int):RowOk rs (nm i):=fun h=>absurd (show ("num" : Str) = "row" from h) (by decide +kernel)
theorem numok_num (i:Int):NumOk (nm i):=fun _=>⟨i,rfl⟩
theorem u_reck {i j:Int} (hs:sub pl=some (wd,d)) (hw:wd∈OPS) (ha:ar.length≤9000) (hz:rs.length + (w.length + th.length)≤8900):ChU sub ⟨rs,w++[⟨pl,ar,true⟩],th++[nm i]++[nm j],st⟩ ⟨rs,w,th++[recT wd i j],st⟩:=by
 have h:=u_join (st:=st) hs hw (rowok_num i) (numok_num i) (numok_num j) ha hz
 have e:joinR wd pl rs.length (nm i) (nm j)=(recT wd i j,[]):=by
  unfold joinR
  rw [if_pos ⟨hw,rfl,rfl⟩]
  rfl
 rw [e,List.append_nil] at h
 exact h
theorem u_if {b:Bool} (hs:sub pl=fm "if" (.flat .non)) (ha:ar.length≤9000) (hz:rs.length + (w.length + th.length)≤8900):ChU sub ⟨rs,w++[⟨pl,ar,true⟩],th++[tr b],st⟩ ⟨rs,w++[⟨pl++[if b then 1 else 2],ar,false⟩],th,st⟩:=by
 refine one ⟨by show rs.length < 9000; omega,by show (w++[_]).length < 9000; rw [List.length_append,List.length_singleton]; omega,by show (th++[_]).length < 9000; simp only [List.length_append,List.length_singleton]; omega⟩ ?_
 have:=StepU.further (sub:=sub) (S:=⟨rs,w++[⟨pl,ar,true⟩],th++[tr b],st⟩) (w:=w) (x:=⟨pl,ar,true⟩) rfl rfl hs (.ifs (th:=th) (b:=b) rfl rfl ⟨fun h=>absurd h (by decide +kernel),fun h=>absurd h (by decide +kernel)⟩) ha
 have e:inS { ({ (⟨rs,w++[⟨pl,ar,true⟩],th++[tr b],st⟩:MS) with wait:=w }:MS) with things:=th } "if" (.flat .non) pl (if b then 1 else 2) ar []=⟨rs,w++[⟨pl++[if b then 1 else 2],ar,false⟩],th,st⟩:=by
  unfold inS zipA
  simp
 rw [e] at this
 exact this
theorem u_call {f x:Str} {y:Str×V} {pl':List Nat} (hs:sub pl=fm "call" (d)) (hr:rs[0]?=some ⟨"rec",plI pl',[],[]⟩) (hs':sub pl'=fm "rec" (.tup [.flat (.str f),.flat (.str x)])) (ha:ar.length≤9000) (hz:rs.length + (w.length + th.length)≤8900):ChU sub ⟨rs,w++[⟨pl,ar,true⟩],th++[rwN 0]++[y],st⟩ ⟨rs,w++[⟨pl'++[0],[(f,rwN 0),(x,y)],false⟩],th,st⟩:=by
 refine one (sm2 hz) ?_
 have:=StepU.further (sub:=sub) (S:=⟨rs,w++[⟨pl,ar,true⟩],th++[rwN 0]++[y],st⟩) (w:=w) (x:=⟨pl,ar,true⟩) rfl rfl hs (.calls (th:=th) (k:=0) (y:=y) rfl (by simp) hr (by show ("rec" : Str)∈_; decide +kernel) rfl hs' ⟨fun h=>absurd h (by decide +kernel),fun _=>⟨f,x,rfl⟩⟩ (by show 0≤9000; decide)) ha
 have e:inS { ({ (⟨rs,w++[⟨pl,ar,true⟩],th++[rwN 0]++[y],st⟩:MS) with wait:=w }:MS) with things:=th } "rec" (.tup [.flat (.str f),.flat (.str x)]) pl' 0 (⟨"rec",plI pl',[],[]⟩:Rx).ar (if (⟨"rec",plI pl',[],[]⟩:Rx).wd = "rec" then [rwN 0,y] else [y])=⟨rs,w++[⟨pl'++[0],[(f,rwN 0),(x,y)],false⟩],th,st⟩:=by
  rw [if_pos rfl]
  unfold inS zipA
  have eb:boundN "rec" (.tup [.flat (.str f),.flat (.str x)]) ((0:Nat):Int)=[f,x]:=by
   unfold boundN
   rw [if_neg (by decide +kernel),if_pos rfl]
  rw [eb]
  simp
 rw [e] at this
 exact this
theorem u_rec {d:Dt} (hs:sub pl=fm "rec" (d)) (hz:rs.length + (w.length + th.length)≤8900):ChU sub ⟨rs,w++[⟨pl,ar,false⟩],th,st⟩ ⟨rs++[⟨"rec",plI pl,[],ar⟩],w,th++[rwN rs.length],st + 1⟩:=by
 refine one (sm hz) ?_
 have:=StepU.come (sub:=sub) (S:=⟨rs,w++[⟨pl,ar,false⟩],th,st⟩) (w:=w) (x:=⟨pl,ar,false⟩) rfl rfl hs (note_non (by decide +kernel) (by decide +kernel))
 have e:comeS { (⟨rs,w++[⟨pl,ar,false⟩],th,st⟩:MS) with wait:=w } "rec" d pl ar=⟨rs++[⟨"rec",plI pl,[],ar⟩],w,th++[rwN rs.length],st + 1⟩:=by
  have e:partsA "rec" = none∧¬ ("rec" : Str) = "gap" ∧ ¬ ("rec" : Str)∈(["num", "truth"]:List Str)∧¬ ("rec" : Str) = "name" ∧ ("rec" : Str)∈WA:=⟨by decide +kernel,by decide +kernel,by decide +kernel,by decide +kernel,by decide +kernel⟩
  unfold comeS
  rw [e.1]
  simp only [if_neg e.2.1]
  rw [leafS_N]
  have en:lookN "rec" (dtV d) ar=none:=by
   unfold lookN
   split
   ·rw [if_neg e.2.2.2.1]
   ·rfl
  rw [if_neg e.2.2.1,en]
  simp only [if_pos e.2.2.2.2]
 rw [e] at this
 exact this
theorem u_let {z:Str} {y:Str×V} (hs:sub pl=fm "let" (.flat (.str z))) (ha:ar.length≤9000) (hz:rs.length + (w.length + th.length)≤8900):ChU sub ⟨rs,w++[⟨pl,ar,true⟩],th++[y],st⟩ ⟨rs,w++[⟨pl++[1],ar++[(z,y)],false⟩],th,st⟩:=by
 refine one ⟨by show rs.length < 9000; omega,by show (w++[_]).length < 9000; rw [List.length_append,List.length_singleton]; omega,by show (th++[_]).length < 9000; simp only [List.length_append,List.length_singleton]; omega⟩ ?_
 have:=StepU.further (sub:=sub) (S:=⟨rs,w++[⟨pl,ar,true⟩],th++[y],st⟩) (w:=w) (x:=⟨pl,ar,true⟩) rfl rfl hs (.lets (th:=th) (x:=y) rfl rfl ⟨fun _=>⟨z,rfl⟩,fun h=>absurd h (by decide +kernel)⟩) ha
 have e:inS { ({ (⟨rs,w++[⟨pl,ar,true⟩],th++[y],st⟩:MS) with wait:=w }:MS) with things:=th } "let" (.flat (.str z)) pl 1 ar [y]=⟨rs,w++[⟨pl++[1],ar++[(z,y)],false⟩],th,st⟩:=by
  have eb:boundN "let" (.flat (.str z)) ((1:Nat):Int)=[z]:=by
   unfold boundN
   rw [if_neg (by decide +kernel),if_neg (by decide +kernel),if_pos ⟨rfl,rfl⟩]
  unfold inS zipA
  rw [eb]
  rfl
 rw [e] at this
 exact this
end
end K44
namespace K44
open PySem L2
noncomputable def leafT (w:Str) (n:V):Tr:=.mk w (.flat n) []
noncomputable def nameT (z:Str):Tr:=leafT "name" (.str z)
noncomputable def numT (i:Int):Tr:=leafT "num" (.int i)
noncomputable def twoT (w:Str) (a b:Tr):Tr:=.mk w (.flat .non) [a,b]
noncomputable def bodyT (f x:Str) (limit down:Int) (bs:Tr):Tr:=.mk "if" (.flat .non) [twoT "less" (nameT x) (numT limit),bs,twoT "plus" (nameT x) (twoT "call" (nameT f) (twoT "minus" (nameT x) (numT down)))]
noncomputable def recTr (f x:Str) (b:Tr):Tr:=.mk "rec" (.tup [.flat (.str f),.flat (.str x)]) [b]
noncomputable def handT (start:Int):Nat→Tr
 | 0=>numT start
 | m + 1=>twoT "plus" (handT start m) (numT 0)
noncomputable def wholeT (f x:Str) (limit down start:Int) (bs:Str×V) (m:Nat):Tr:=twoT "call" (recTr f x (bodyT f x limit down (leafT bs.1 bs.2))) (handT start m)
structure Subs (sub:List Nat→Option (Str×Dt)) (f x:Str) (limit down:Int) (bs:Str×V):Prop where
 c:sub []=fm "call" (.flat .non)
 r:sub [0]=fm "rec" (.tup [.flat (.str f),.flat (.str x)])
 i:sub [0,0]=fm "if" (.flat .non)
 l:sub [0,0,0]=fm "less" (.flat .non)
 l0:sub [0,0,0,0]=fm "name" (.flat (.str x))
 l1:sub [0,0,0,1]=fm "num" (.flat (.int limit))
 b:sub [0,0,1]=fm bs.1 (.flat bs.2)
 p:sub [0,0,2]=fm "plus" (.flat .non)
 p0:sub [0,0,2,0]=fm "name" (.flat (.str x))
 p1:sub [0,0,2,1]=fm "call" (.flat .non)
 q0:sub [0,0,2,1,0]=fm "name" (.flat (.str f))
 q1:sub [0,0,2,1,1]=fm "minus" (.flat .non)
 m0:sub [0,0,2,1,1,0]=fm "name" (.flat (.str x))
 m1:sub [0,0,2,1,1,1]=fm "num" (.flat (.int down))
theorem subs_whole (f x:Str) (limit down start:Int) (bs:Str×V) (m:Nat):Subs (subW (wholeT f x limit down start bs m)) f x limit down bs:=by
 constructor
 all_goals
  rw [sub_at]
  unfold wholeT twoT recTr bodyT twoT nameT numT leafT
  simp only [atT_cons,atT_nil,List.getElem?_cons_zero,List.getElem?_cons_succ,Option.bind_some,Option.map_some]
  rfl
noncomputable def zz (n:Nat):List Nat:=List.replicate n 0
theorem hand_at (start:Int):∀ (m j:Nat),j < m→(atT (handT start m) (zz j)).map (fun u=>(u.wd,noteT u))=fm "plus" (.flat .non)∧(atT (handT start m) (zz j++[1])).map (fun u=>(u.wd,noteT u))=fm "num" (.flat (.int 0))
 | m + 1,0,_=>by
  unfold handT twoT
  show (atT _ []).map _=_∧(atT _ [1]).map _=_
  rw [atT_nil,atT_cons]
  simp only [List.getElem?_cons_zero,List.getElem?_cons_succ,Option.bind_some,atT_nil]
  exact ⟨rfl,rfl⟩
 | m + 1,j + 1,h=>by
  have ih:=hand_at start m j (by omega)
  unfold handT twoT
  rw [show zz (j + 1)=0 :: zz j from rfl,List.cons_append,atT_cons,atT_cons]
  exact ih
theorem hand_end (start:Int):∀ m:Nat,(atT (handT start m) (zz m)).map (fun u=>(u.wd,noteT u))=fm "num" (.flat (.int start))
 | 0=>by
  show (atT _ []).map _=_
  rw [atT_nil]
  rfl
 | m + 1=>by
  unfold handT twoT
  rw [show zz (m + 1)=0 :: zz m from rfl,atT_cons]
  exact hand_end start m
theorem subs_hand (f x:Str) (limit down start:Int) (bs:Str×V) (m:Nat):(∀ j,j < m→subW (wholeT f x limit down start bs m) ([1]++zz j)=fm "plus" (.flat .non)∧subW (wholeT f x limit down start bs m) ([1]++zz j++[1])=fm "num" (.flat (.int 0)))∧subW (wholeT f x limit down start bs m) ([1]++zz m)=fm "num" (.flat (.int start)):=by
 have e:∀ q,atT (wholeT f x limit down start bs m) ([1]++q)=atT (handT start m) q:=fun q=>by
  unfold wholeT twoT
  rw [List.singleton_append,atT_cons]
  rfl
 refine ⟨fun j hj=>?_,?_⟩
 ·rw [sub_at,sub_at,List.append_assoc,e,e]
  exact hand_at start m j hj
 ·rw [sub_at,e]
  exact hand_end start m
theorem zz_snoc (p:List Nat) (j:Nat):p++zz j++[0]=p++zz (j + 1):=by
 rw [List.append_assoc]
 unfold zz
 rw [List.replicate_succ']
section
variable {sub:List Nat→Option (Str×Dt)} {rs:List Rx} {w:List Wt} {th:List (Str×V)} {st:Int} {f x:Str} {limit down:Int} {bs:Str×V}
theorem two_ok {wd:Str} (h:wd∈OPS∨wd = "call"):partsA wd=some [1,0]∧¬ wd∈(["num", "truth"]:List Str)∧¬ wd = "name" ∧ ¬ wd = "gap" := by
 rcases h with h | rfl
 ·unfold OPS at h
  simp only [List.mem_cons,List.not_mem_nil,or_false] at h
  rcases h with rfl | rfl | rfl <;> exact ⟨by decide +kernel,by decide +kernel,by decide +kernel,by decide +kernel⟩
 ·exact ⟨by decide +kernel,by decide +kernel,by decide +kernel,by decide +kernel⟩
theorem hand_run {start:Int} {m:Nat} (hp:∀ j,j < m→sub ([1]++zz j)=fm "plus" (.flat .non)∧sub ([1]++zz j++[1])=fm "num" (.flat (.int 0))) (he:sub ([1]++zz m)=fm "num" (.flat (.int start))):∀ (k j:Nat) (w:List Wt) (st:Int),j + k=m→rs.length + (w.length + th.length) + 4 * k≤8000→ChU sub ⟨rs,w++[⟨[1]++zz j,[],false⟩],th,st⟩ ⟨rs,w,th++[nm start],st + 2 * k + 1⟩
 | 0,j,w,st,hj,hz=>by
  have e:j=m:=by omega
  subst e
  have:=u_num (rs:=rs) (w:=w) (th:=th) (st:=st) (ar:=[]) he (by omega)
  rw [show st + 2 * ((0:Nat):Int) + 1=st + 1 by omega]
  exact this
 | k + 1,j,w,st,hj,hz=>by
  obtain ⟨h1,h2⟩:=hp j (by omega)
  obtain ⟨o1,o2⟩:=two_ok (wd := "plus") (.inl (by decide +kernel))
  refine (u_two (rs:=rs) (w:=w) (th:=th) (st:=st) (ar:=[]) h1 o1 o2 (by omega)).trans ?_
  have ih:=hand_run hp he k (j + 1) (w++[⟨[1]++zz j,[],true⟩]++[⟨[1]++zz j++[1],[],false⟩]) (st + 1) (by omega) (by simp only [List.length_append,List.length_singleton]; omega)
  rw [← zz_snoc] at ih
  refine ih.trans ?_
  refine (u_num (rs:=rs) (w:=w++[⟨[1]++zz j,[],true⟩]) (th:=th++[nm start]) (ar:=[]) h2 (by simp only [List.length_append,List.length_singleton]; omega)).trans ?_
  have h3:=u_reck (rs:=rs) (w:=w) (th:=th) (st:=st + 1 + 2 * (k:Int) + 1 + 1) (ar:=[]) (i:=start) (j:=0) h1 (by decide +kernel) (by show 0≤9000; decide) (by omega)
  have e:recT "plus" start 0=nm start:=by unfold recT; rw [if_pos rfl,Int.add_zero]
  rw [e] at h3
  rw [show st + 2 * ((k + 1:Nat):Int) + 1=st + 1 + 2 * (k:Int) + 1 + 1 by omega]
  exact h3
noncomputable def arV (f x:Str) (y:Str×V):List (Str×Str×V):=[(f,rwN 0),(x,y)]
theorem look_x (f x:Str) (y:Str×V):lookA (arV f x y) x=some y:=by
 unfold lookA arV
 simp
theorem look_f {f x:Str} (h:f≠x) (y:Str×V):lookA (arV f x y) f=some (rwN 0):=by
 unfold lookA arV
 simp [Ne.symm h]
theorem lvl {v:Int} {st':Int} (U:Subs sub f x limit down bs) (hn:f≠x) (hr:rs[0]?=some ⟨"rec",plI [0],[],[]⟩) (hv:limit≤v) (hz:rs.length + (w.length + th.length)≤8000) (hst:st'=st + 11) :
  ChU sub ⟨rs,w++[⟨[0,0],arV f x (nm v),false⟩],th,st⟩ ⟨rs,w++[⟨[0,0,2],arV f x (nm v),true⟩]++[⟨[0,0],arV f x (nm (v - down)),false⟩],th++[nm v],st'⟩:=by
 obtain rfl:st'=st + 1 + 1 + 1 + 1 + 1 + 1 + 1 + 1 + 1 + 1 + 1:=by omega
 have ha:(arV f x (nm v)).length≤9000:=by show 2≤9000; decide
 have lx:=look_x f x (nm v)
 have lf:=look_f hn (nm v)
 generalize arV f x (nm v)=ar at *
 refine (u_one U.i (by decide +kernel) (by decide +kernel) (by omega)).trans ?_
 obtain ⟨o1,o2⟩:=two_ok (wd := "less") (.inl (by decide +kernel))
 refine (u_two U.l o1 o2 (by simp only [List.length_append,List.length_singleton]; omega)).trans ?_
 refine (u_name U.l0 lx (by simp only [List.length_append,List.length_singleton]; omega)).trans ?_
 refine (u_num U.l1 (by simp only [List.length_append,List.length_singleton]; omega)).trans ?_
 refine (u_reck U.l (by decide +kernel) ha (by simp only [List.length_append,List.length_singleton]; omega)).trans ?_
 have e1:recT "less" v limit=tr false:=by
  unfold recT
  rw [if_neg (by decide +kernel),if_neg (by decide +kernel),decide_eq_false (by omega)]
 rw [e1]
 refine (u_if U.i ha (by omega)).trans ?_
 obtain ⟨o1,o2⟩:=two_ok (wd := "plus") (.inl (by decide +kernel))
 refine (u_two U.p o1 o2 (by omega)).trans ?_
 refine (u_name U.p0 lx (by simp only [List.length_append,List.length_singleton]; omega)).trans ?_
 obtain ⟨o1,o2⟩:=two_ok (wd := "call") (.inr rfl)
 refine (u_two U.p1 o1 o2 (by simp only [List.length_append,List.length_singleton]; omega)).trans ?_
 refine (u_name U.q0 lf (by simp only [List.length_append,List.length_singleton]; omega)).trans ?_
 obtain ⟨o1,o2⟩:=two_ok (wd := "minus") (.inl (by decide +kernel))
 refine (u_two U.q1 o1 o2 (by simp only [List.length_append,List.length_singleton]; omega)).trans ?_
 refine (u_name U.m0 lx (by simp only [List.length_append,List.length_singleton]; omega)).trans ?_
 refine (u_num U.m1 (by simp only [List.length_append,List.length_singleton]; omega)).trans ?_
 refine (u_reck U.q1 (by decide +kernel) ha (by simp only [List.length_append,List.length_singleton]; omega)).trans ?_
 have e2:recT "minus" v down=nm (v - down):=by
  unfold recT
  rw [if_neg (by decide +kernel),if_pos rfl]
 rw [e2]
 exact u_call U.p1 hr U.r ha (by simp only [List.length_append,List.length_singleton]; omega)
theorem bot {v:Int} (U:Subs sub f x limit down bs) (ok:LeafOk bs.1 bs.2) (hv:v < limit) (hz:rs.length + (w.length + th.length)≤8000) :
  ChU sub ⟨rs,w++[⟨[0,0],arV f x (nm v),false⟩],th,st⟩ ⟨rs++(leafG bs.1 bs.2 rs.length [0,0,1] (arV f x (nm v))).2,w,th++[(leafG bs.1 bs.2 rs.length [0,0,1] (arV f x (nm v))).1],st + 4 + stp bs.1⟩:=by
 rw [show st + 4=st + 1 + 1 + 1 + 1 by omega]
 have ha:(arV f x (nm v)).length≤9000:=by show 2≤9000; decide
 have lx:=look_x f x (nm v)
 generalize arV f x (nm v)=ar at *
 refine (u_one U.i (by decide +kernel) (by decide +kernel) (by omega)).trans ?_
 obtain ⟨o1,o2⟩:=two_ok (wd := "less") (.inl (by decide +kernel))
 refine (u_two U.l o1 o2 (by simp only [List.length_append,List.length_singleton]; omega)).trans ?_
 refine (u_name U.l0 lx (by simp only [List.length_append,List.length_singleton]; omega)).trans ?_
 refine (u_num U.l1 (by simp only [List.length_append,List.length_singleton]; omega)).trans ?_
 refine (u_reck U.l (by decide +kernel) ha (by simp only [List.length_append,List.length_singleton]; omega)).trans ?_
 have e1:recT "less" v limit=tr true:=by
  unfold recT
  rw [if_neg (by decide +kernel),if_neg (by decide +kernel),decide_eq_true (by omega)]
 rw [e1]
 refine (u_if U.i ha (by omega)).trans ?_
 exact u_leaf U.b ok (by omega)
noncomputable def resG (f x:Str) (down:Int) (bs:Str×V):Nat→Int→Nat→(Str×V)×List Rx
 | 0,v,k=>leafG bs.1 bs.2 k [0,0,1] (arV f x (nm v))
 | t + 1,v,k=>((joinR "plus" [0,0,2] (k + (resG f x down bs t (v - down) k).2.length) (nm v) (resG f x down bs t (v - down) k).1).1,(resG f x down bs t (v - down) k).2++(joinR "plus" [0,0,2] (k + (resG f x down bs t (v - down) k).2.length) (nm v) (resG f x down bs t (v - down) k).1).2)
theorem joinR_len (wd:Str) (pl:List Nat) (k:Nat) (a b:Str×V):(joinR wd pl k a b).2.length≤1:=by
 unfold joinR
 split
 ·exact Nat.zero_le _
 ·exact Nat.le_refl _
theorem resG_len (t:Nat):∀ v k,(resG f x down bs t v k).2.length≤t + 1:=by
 induction t with
 | zero=>intro v k; exact leafG_len _ _ _ _ _
 | succ t ih =>
  intro v k
  show ((resG f x down bs t (v - down) k).2++_).length≤_
  rw [List.length_append]
  have:=ih (v - down) k
  have:=joinR_len "plus" [0,0,2] (k + (resG f x down bs t (v - down) k).2.length) (nm v) (resG f x down bs t (v - down) k).1
  omega
theorem recT_num (wd:Str) (i j:Int):NumOk (recT wd i j):=by
 unfold recT
 split
 ·exact fun _=>⟨_,rfl⟩
 split
 ·exact fun _=>⟨_,rfl⟩
 ·exact fun h=>absurd (show ("truth" : Str) = "num" from h) (by decide +kernel)
theorem joinR_num (wd:Str) (pl:List Nat) (k:Nat) (a b:Str×V):NumOk (joinR wd pl k a b).1:=by
 unfold joinR
 split
 ·exact recT_num _ _ _
 ·exact fun h=>absurd (show ("row" : Str) = "num" from h) (by decide +kernel)
theorem leafG_num {wd:Str} {nv:V} (ok:LeafOk wd nv) (k:Nat) (pl:List Nat) (f x:Str) (v:Int):NumOk (leafG wd nv k pl (arV f x (nm v))).1:=by
 unfold leafG
 by_cases hm:wd∈(["num", "truth"]:List Str)
 ·rw [if_pos hm]
  intro e
  have e:wd = "num" := e
  rcases ok with ⟨_,i,rfl⟩ | ⟨rfl,_⟩ | ⟨rfl,_⟩ | ⟨rfl,_⟩ | ⟨rfl,_⟩
  ·exact ⟨i,rfl⟩
  all_goals exact absurd e (by decide +kernel)
 ·rw [if_neg hm]
  cases h:lookN wd nv (arV f x (nm v)) with
  | none=>exact fun h=>absurd (show ("row" : Str) = "num" from h) (by decide +kernel)
  | some y =>
   unfold lookN at h
   split at h
   ·split at h
    ·unfold lookA at h
     obtain ⟨u,hu,rfl⟩:=Option.map_eq_some_iff.mp h
     have hm:=List.mem_reverse.mp (List.mem_of_find?_eq_some hu)
     unfold arV at hm
     simp only [List.mem_cons,List.not_mem_nil,or_false] at hm
     rcases hm with rfl | rfl
     ·exact fun h=>absurd (show ("row" : Str) = "num" from h) (by decide +kernel)
     ·exact fun _=>⟨v,rfl⟩
    ·cases h
   ·cases h
theorem resG_num (ok:LeafOk bs.1 bs.2):∀ (t:Nat) (v:Int) (k:Nat),NumOk (resG f x down bs t v k).1
 | 0,v,k=>leafG_num ok _ _ _ _ _
 | t + 1,v,k=>joinR_num _ _ _ _ _
theorem deep (U:Subs sub f x limit down bs) (hn:f≠x) (ok:LeafOk bs.1 bs.2) (hr:rs[0]?=some ⟨"rec",plI [0],[],[]⟩):∀ (t:Nat) (v st:Int) (w:List Wt) (th:List (Str×V)),(∀ k:Nat,k < t→limit≤v - down * k)→v - down * t < limit→rs.length + (w.length + th.length) + 3 * t≤7900 →
  ChU sub ⟨rs,w++[⟨[0,0],arV f x (nm v),false⟩],th,st⟩ ⟨rs++(resG f x down bs t v rs.length).2,w,th++[(resG f x down bs t v rs.length).1],st + 11 * t + 4 + stp bs.1⟩
 | 0,v,st,w,th,_,h2,hz=>by
  have:=bot (rs:=rs) (w:=w) (th:=th) (st:=st) (v:=v) U ok (by simpa using h2) (by omega)
  rw [show st + 11 * ((0:Nat):Int) + 4=st + 4 by omega]
  exact this
 | t + 1,v,st,w,th,h1,h2,hz=>by
  refine (lvl (st':=st + 11) U hn hr (by have:=h1 0 (by omega); simpa using this) (by omega) rfl).trans ?_
  have hm:∀ k:Nat,down * ((k + 1:Nat):Int)=down * (k:Int) + down:=fun k=>by rw [Int.natCast_add,Int.mul_add]; simp
  have ih:=deep U hn ok hr t (v - down) (st + 11) (w++[⟨[0,0,2],arV f x (nm v),true⟩]) (th++[nm v]) (fun k hk=>by have:=h1 (k + 1) (by omega); rw [hm] at this; omega) (by rw [hm] at h2; omega) (by simp only [List.length_append,List.length_singleton]; omega)
  refine ih.trans ?_
  have rl:=resG_len (f:=f) (x:=x) (down:=down) (bs:=bs) t (v - down) rs.length
  have h3:=u_join (rs:=rs++(resG f x down bs t (v - down) rs.length).2) (w:=w) (th:=th) (st:=st + 11 + 11 * (t:Int) + 4 + stp bs.1) (ar:=arV f x (nm v)) U.p (by decide +kernel) (rowok_num v) (numok_num v) (resG_num (f:=f) (x:=x) (down:=down) ok t (v - down) rs.length) (by show 2≤9000; decide) (by rw [List.length_append]; omega)
  rw [List.length_append,List.append_assoc rs] at h3
  rw [show st + 11 * ((t + 1:Nat):Int) + 4 + stp bs.1=st + 11 + 11 * (t:Int) + 4 + stp bs.1 by omega]
  exact h3
end
theorem whole_run {f x:Str} {limit down start:Int} {bs:Str×V} {m t:Nat} (hn:f≠x) (ok:LeafOk bs.1 bs.2) (h1:∀ k:Nat,k < t→limit≤start - down * k) (h2:start - down * t < limit) (hm:m≤100) (ht:t≤100) :
  ChU (subW (wholeT f x limit down start bs m)) ⟨[],[⟨[],[],false⟩],[],0⟩ ⟨[⟨"rec",plI [0],[],[]⟩]++(resG f x down bs t start 1).2,[],[(resG f x down bs t start 1).1],7 + 11 * t + 2 * m + stp bs.1⟩:=by
 have U:=subs_whole f x limit down start bs m
 obtain ⟨hp,he⟩:=subs_hand f x limit down start bs m
 generalize subW (wholeT f x limit down start bs m)=sub at *
 obtain ⟨o1,o2⟩:=two_ok (wd := "call") (.inr rfl)
 refine (u_two (rs:=[]) (w:=[]) (th:=[]) (st:=0) (ar:=[]) U.c o1 o2 (by decide)).trans ?_
 refine (u_rec (rs:=[]) (w:=[]++[⟨[],[],true⟩]++[⟨[]++[1],[],false⟩]) (th:=[]) (ar:=[]) U.r (by decide)).trans ?_
 have h3:=hand_run (sub:=sub) (rs:=[]++[⟨"rec",plI ([]++[0]),[],[]⟩]) (th:=[]++[rwN ([]:List Rx).length]) hp he m 0 ([]++[⟨[],[],true⟩]) (0 + 1 + 1) (by omega) (by simp; omega)
 refine h3.trans ?_
 refine (u_call (rs:=[⟨"rec",plI [0],[],[]⟩]) (w:=[]) (th:=[]) (ar:=[]) (y:=nm start) U.c rfl U.r (by decide) (by simp)).trans ?_
 have h4:=deep (rs:=[⟨"rec",plI [0],[],[]⟩]) U hn ok rfl t start (0 + 1 + 1 + 2 * (m:Int) + 1) [] [] h1 h2 (by simp; omega)
 rw [show (7:Int) + 11 * t + 2 * m + stp bs.1=0 + 1 + 1 + 2 * (m:Int) + 1 + 11 * t + 4 + stp bs.1 by omega]
 exact h4
end K44
namespace K44
open PySem L2
noncomputable def letsT (x:Str) (b:Tr):Nat→Tr
 | 0=>b
 | n + 1=>.mk "let" (.flat (.str x)) [leafT "gap" .non,letsT x b n]
noncomputable def endT (f x:Str) (n:Nat):Tr:=twoT "call" (recTr f x (letsT x (twoT "call" (nameT f) (nameT x)) n)) (numT 1)
noncomputable def oo (n:Nat):List Nat:=List.replicate n 1
theorem lets_at (x:Str) (b:Tr):∀ (n j:Nat),j < n→(atT (letsT x b n) (oo j)).map (fun u=>(u.wd,noteT u))=fm "let" (.flat (.str x))∧(atT (letsT x b n) (oo j++[0])).map (fun u=>(u.wd,noteT u))=fm "gap" (.flat .non)
 | n + 1,0,_=>by
  unfold letsT
  show (atT _ []).map _=_∧(atT _ [0]).map _=_
  rw [atT_nil,atT_cons]
  simp only [List.getElem?_cons_zero,Option.bind_some,atT_nil]
  exact ⟨rfl,rfl⟩
 | n + 1,j + 1,h=>by
  have ih:=lets_at x b n j (by omega)
  unfold letsT
  rw [show oo (j + 1)=1 :: oo j from rfl,List.cons_append,atT_cons,atT_cons]
  exact ih
theorem lets_end (x:Str) (b:Tr) (q:List Nat):∀ n:Nat,atT (letsT x b n) (oo n++q)=atT b q
 | 0=>rfl
 | n + 1=>by
  unfold letsT
  rw [show oo (n + 1)=1 :: oo n from rfl,List.cons_append,atT_cons]
  exact lets_end x b q n
structure SubE (sub:List Nat→Option (Str×Dt)) (f x:Str) (n:Nat):Prop where
 c:sub []=fm "call" (.flat .non)
 r:sub [0]=fm "rec" (.tup [.flat (.str f),.flat (.str x)])
 h:sub [1]=fm "num" (.flat (.int 1))
 l:∀ j,j < n→sub ([0,0]++oo j)=fm "let" (.flat (.str x))∧sub ([0,0]++oo j++[0])=fm "gap" (.flat .non)
 e:sub ([0,0]++oo n)=fm "call" (.flat .non)
 e0:sub ([0,0]++oo n++[0])=fm "name" (.flat (.str f))
 e1:sub ([0,0]++oo n++[1])=fm "name" (.flat (.str x))
theorem subs_end (f x:Str) (n:Nat):SubE (subW (endT f x n)) f x n:=by
 have e:∀ q,atT (endT f x n) ([0,0]++q)=atT (letsT x (twoT "call" (nameT f) (nameT x)) n) q:=fun q=>by
  unfold endT twoT recTr
  rw [show [0,0]++q=0 :: 0 :: q from rfl,atT_cons]
  simp only [List.getElem?_cons_zero,Option.bind_some]
  rw [atT_cons]
  rfl
 refine ⟨?_,?_,?_,fun j hj=>?_,?_,?_,?_⟩
 ·rw [sub_at,atT_nil]; rfl
 ·rw [sub_at]
  unfold endT twoT
  rw [atT_cons]
  simp only [List.getElem?_cons_zero,Option.bind_some,atT_nil]
  rfl
 ·rw [sub_at]
  unfold endT twoT
  rw [atT_cons]
  simp only [List.getElem?_cons_zero,List.getElem?_cons_succ,Option.bind_some,atT_nil]
  rfl
 ·rw [sub_at,sub_at,List.append_assoc,e,e]
  exact lets_at _ _ n j hj
 ·have h:=lets_end x (twoT "call" (nameT f) (nameT x)) [] n
  rw [List.append_nil] at h
  rw [sub_at,e,h,atT_nil]
  rfl
 ·rw [sub_at,List.append_assoc,e,lets_end]
  unfold twoT
  rw [atT_cons]
  simp only [List.getElem?_cons_zero,Option.bind_some,atT_nil]
  rfl
 ·rw [sub_at,List.append_assoc,e,lets_end]
  unfold twoT
  rw [atT_cons]
  simp only [List.getElem?_cons_zero,List.getElem?_cons_succ,Option.bind_some,atT_nil]
  rfl
theorem oo_snoc (p:List Nat) (j:Nat):p++oo j++[1]=p++oo (j + 1):=by
 rw [List.append_assoc]
 unfold oo
 rw [List.replicate_succ']
section
variable {sub:List Nat→Option (Str×Dt)} {f x:Str} {n:Nat}
theorem end_iter (U:SubE sub f x n) (hn:f≠x):∀ (k j:Nat) (rs:List Rx) (ar:List (Str×Str×V)) (y:Str×V) (st:Int),j + k=n→rs[0]?=some ⟨"rec",plI [0],[],[]⟩→lookA ar f=some (rwN 0)→lookA ar x=some y→ar.length + k≤8000→rs.length + k≤8000 →
  ∃ rs' y',ChU sub ⟨rs,[]++[⟨[0,0]++oo j,ar,false⟩],[],st⟩ ⟨rs',[]++[⟨[0,0],arV f x y',false⟩],[],st + k + 3⟩∧rs'[0]?=some ⟨"rec",plI [0],[],[]⟩∧rs'.length=rs.length + k
 | 0,j,rs,ar,y,st,hj,hr,lf,lx,ha,hz=>by
  have e:j=n:=by omega
  subst e
  obtain ⟨o1,o2⟩:=two_ok (wd := "call") (.inr rfl)
  refine ⟨rs,y,?_,hr,rfl⟩
  rw [show st + ((0:Nat):Int) + 3=st + 1 + 1 + 1 by omega]
  refine (u_two (rs:=rs) (w:=[]) (th:=[]) U.e o1 o2 (by simp; omega)).trans ?_
  refine (u_name (rs:=rs) (w:=[]++[⟨[0,0]++oo j,ar,true⟩]++[⟨[0,0]++oo j++[1],ar,false⟩]) (th:=[]) U.e0 lf (by simp; omega)).trans ?_
  refine (u_name (rs:=rs) (w:=[]++[⟨[0,0]++oo j,ar,true⟩]) (th:=[]++[rwN 0]) U.e1 lx (by simp; omega)).trans ?_
  exact u_call (rs:=rs) (w:=[]) (th:=[]) U.e hr U.r (by omega) (by simp; omega)
 | k + 1,j,rs,ar,y,st,hj,hr,lf,lx,ha,hz=>by
  obtain ⟨h1,h2⟩:=U.l j (by omega)
  have hr0:0 < rs.length:=(List.getElem?_eq_some_iff.mp hr).1
  obtain ⟨rs',y',C,r',l'⟩:=end_iter U hn k (j + 1) (rs++[⟨"gap",plI ([0,0]++oo j++[0]),[],ar⟩]) (ar++[(x,rwN rs.length)]) (rwN rs.length) (st + 1) (by omega) (by rw [List.getElem?_append_left hr0]; exact hr) (by rw [lookA_snoc,if_neg (Ne.symm hn)]; exact lf) (by rw [lookA_snoc,if_pos rfl]) (by rw [List.length_append,List.length_singleton]; omega) (by rw [List.length_append,List.length_singleton]; omega)
  refine ⟨rs',y',?_,r',by rw [l',List.length_append,List.length_singleton]; omega⟩
  refine (u_one (rs:=rs) (w:=[]) (th:=[]) h1 (by decide +kernel) (by decide +kernel) (by simp; omega)).trans ?_
  refine (u_gap (rs:=rs) (w:=[]++[⟨[0,0]++oo j,ar,true⟩]) (th:=[]) h2 (by simp; omega)).trans ?_
  refine (u_let (rs:=rs++[⟨"gap",plI ([0,0]++oo j++[0]),[],ar⟩]) (w:=[]) (th:=[]) (ar:=ar) (y:=rwN rs.length) h1 (by omega) (by simp; omega)).trans ?_
  rw [oo_snoc,show st + ((k + 1:Nat):Int) + 3=st + 1 + (k:Int) + 3 by omega]
  exact C
theorem end_loop (U:SubE sub f x n) (hn:f≠x) (hl:n≤1000):∀ (fuel:Nat) (rs:List Rx) (y:Str×V) (st:Int),rs[0]?=some ⟨"rec",plI [0],[],[]⟩→(rs.length:Int)≤st + 1→st≤500→500 < st + 3 * fuel→∃ S',ChU sub ⟨rs,[]++[⟨[0,0],arV f x y,false⟩],[],st⟩ S'∧500 < S'.steps
 | 0,rs,y,st,hr,h1,h2,h3=>by omega
 | fuel + 1,rs,y,st,hr,h1,h2,h3=>by
  obtain ⟨rs',y',C,r',l'⟩:=end_iter U hn n 0 rs (arV f x y) y st (by omega) hr (look_f hn y) (look_x f x y) (by show 2 + n≤8000; omega) (by omega)
  have C:ChU sub ⟨rs,[]++[⟨[0,0],arV f x y,false⟩],[],st⟩ ⟨rs',[]++[⟨[0,0],arV f x y',false⟩],[],st + n + 3⟩:=C
  rcases Int.lt_or_le 500 (st + n + 3) with h | h
  ·exact ⟨_,C,h⟩
  ·obtain ⟨S',C',h'⟩:=end_loop U hn hl fuel rs' y' (st + n + 3) r' (by omega) h (by omega)
   exact ⟨S',C.trans C',h'⟩
end
theorem end_late {f x:Str} {n:Nat} (hn:f≠x) (hl:n≤1000):∃ k,RunL (subW (endT f x n)) k ⟨[],[⟨[],[],false⟩],[],0⟩:=by
 have U:=subs_end f x n
 generalize subW (endT f x n)=sub at *
 obtain ⟨S',C,h⟩:=end_loop U hn hl 200 [⟨"rec",plI [0],[],[]⟩] (nm 1) (0 + 1 + 1 + 1) rfl (by decide) (by decide) (by decide)
 refine ChU.late (S1:=S') ?_ (by show (0:Int)≤500; decide) h
 obtain ⟨o1,o2⟩:=two_ok (wd := "call") (.inr rfl)
 refine (u_two (rs:=[]) (w:=[]) (th:=[]) (st:=0) (ar:=[]) U.c o1 o2 (by decide)).trans ?_
 refine (u_rec (rs:=[]) (w:=[]++[⟨[],[],true⟩]++[⟨[]++[1],[],false⟩]) (th:=[]) (ar:=[]) U.r (by decide)).trans ?_
 refine (u_num (rs:=[⟨"rec",plI [0],[],[]⟩]) (w:=[]++[⟨[],[],true⟩]) (th:=[rwN 0]) (ar:=[]) U.h (by simp)).trans ?_
 exact (u_call (rs:=[⟨"rec",plI [0],[],[]⟩]) (w:=[]) (th:=[]) (ar:=[]) (y:=nm 1) U.c rfl U.r (by decide) (by simp)).trans C
theorem whole_late {f x:Str} {limit down start:Int} {bs:Str×V} {m t:Nat} (hn:f≠x) (ok:LeafOk bs.1 bs.2) (h1:∀ k:Nat,k < t→limit≤start - down * k) (h2:start - down * t < limit) (hm:m≤100) (ht:t≤100) (h5:500 < 7 + 11 * (t:Int) + 2 * m + stp bs.1):∃ k,RunL (subW (wholeT f x limit down start bs m)) k ⟨[],[⟨[],[],false⟩],[],0⟩ :=
 (whole_run hn ok h1 h2 hm ht).late (by show (0:Int)≤500; decide) h5
theorem whole_fine {f x:Str} {limit down start:Int} {bs:Str×V} {m t:Nat} (hn:f≠x) (ok:LeafOk bs.1 bs.2) (h1:∀ k:Nat,k < t→limit≤start - down * k) (h2:start - down * t < limit) (hm:m≤100) (ht:t≤100) (h5:7 + 11 * (t:Int) + 2 * m + stp bs.1≤500):∃ k,RunM (subW (wholeT f x limit down start bs m)) k ⟨[],[⟨[],[],false⟩],[],0⟩ ⟨[⟨"rec",plI [0],[],[]⟩]++(resG f x down bs t start 1).2,[],[(resG f x down bs t start 1).1],7 + 11 * t + 2 * m + stp bs.1⟩ :=
 (whole_run hn ok h1 h2 hm ht).fine rfl h5
end K44
namespace K44
open PySem L2
section
variable {P:Program} {w:World} {K:W.Frag} {mg:Str→Option Value} {base:Heap}
theorem tr_leaf {K:W.Frag} {H:Hp} {a p:Addr} {w:Str} {n:V} (h1:H a=some (.tup [.str w,n,.ref p])) (h2:H p=some (.tup [])) (hn:flatV n=true):TrAt K H (.ref a) (leafT w n):=.mk (SqT.of h1) (.inl ⟨hn,rfl⟩) (SqT.of h2) rfl (fun j v t f1 f2=>nomatch f1)
theorem tr_two {K:W.Frag} {H:Hp} {a p:Addr} {w:Str} {u v:V} {s t:Tr} (h1:H a=some (.tup [.str w,.non,.ref p])) (h2:H p=some (.tup [u,v])) (hu:TrAt K H u s) (hv:TrAt K H v t):TrAt K H (.ref a) (twoT w s t):=.mk (SqT.of h1) (.inl ⟨rfl,rfl⟩) (SqT.of h2) rfl (fun j v t f1 f2=>by
 match j,f1,f2 with
 | 0,f1,f2=>cases f1; cases f2; exact hu
 | 1,f1,f2=>cases f1; cases f2; exact hv)
noncomputable def sp_ltree (K:W.Frag):Sp:=fun vs H Q _=>∃ (p:Addr) (f x:Str) (limit down:Int) (bv:V) (bs:Tr),vs=[.ref p,.int limit,bv,.int down]∧SqL K H p [.str f,.str x]∧TrAt K H bv bs∧∀ v H',Same H H'→TrAt K H' v (recTr f x (bodyT f x limit down bs))→Q v H'
theorem sc_law_tree:FnScope ["_law_names_here", "_law_limit", "_law_base", "_law_down", "_law_x", "_law_again", "_law_form"] ["_law_names_here", "_law_limit", "_law_base", "_law_down"] (defScope s_law_tree):=⟨rfl,rfl,rfl,by decide +kernel,rfl,by decide +kernel,by decide +kernel⟩
theorem ok_ltree {f:Addr} {fd:FuncData} (F:Fun K "_law_tree" "_law_tree" s_law_tree f fd) (T:Txt K mg):FnOk P w K mg base CX0 1 f fd ["_law_names_here", "_law_limit", "_law_base", "_law_down"] (sp_ltree K):=by
 refine F.okq sc_law_tree (fun vs H Q E h=>?_) (fun cdv A outer s H vs Q E hr h=>?_)
 ·obtain ⟨p,f,x,limit,down,bv,bs,rfl,_⟩:=h
  rfl
 ·obtain ⟨p,nf,nx,limit,down,bv,bs,rfl,hp,hb,q⟩:=h
  refine ⟨_,qss_cons (qs_set (i:=4) sc_law_tree.nd rfl (Or.inl rfl) (qe_tup (qa_cons (qe_str) (qa_cons (qe_ix (k_ix K) (qv 0) (qe_int) (fun _ _=>rfl)) (qa_cons (qe_tup (qa_nil)) qa_nil)))))
   (qss_cons (qs_set (i:=5) sc_law_tree.nd rfl (Or.inl rfl) (qe_tup (qa_cons (qe_str) (qa_cons (qe_non) (qa_cons (qe_tup (qa_cons (qe_tup (qa_cons (qe_str) (qa_cons (qe_ix (k_ix K) (qv 0) (qe_int) (fun _ _=>rfl)) (qa_cons (qe_tup (qa_nil)) qa_nil)))) (qa_cons (qe_tup (qa_cons (qe_str) (qa_cons (qe_non) (qa_cons (qe_tup (qa_cons (qv 4) (qa_cons (qe_tup (qa_cons (qe_str) (qa_cons (qv 3) (qa_cons (qe_tup (qa_nil)) qa_nil)))) qa_nil))) qa_nil)))) qa_nil))) qa_nil)))))
   (qss_cons (qs_set (i:=6) sc_law_tree.nd rfl (Or.inl rfl) (qe_tup (qa_cons (qe_str) (qa_cons (qe_non) (qa_cons (qe_tup (qa_cons (qe_tup (qa_cons (qe_str) (qa_cons (qe_non) (qa_cons (qe_tup (qa_cons (qv 4) (qa_cons (qe_tup (qa_cons (qe_str) (qa_cons (qv 1) (qa_cons (qe_tup (qa_nil)) qa_nil)))) qa_nil))) qa_nil)))) (qa_cons (qv 2) (qa_cons (qe_tup (qa_cons (qe_str) (qa_cons (qe_non) (qa_cons (qe_tup (qa_cons (qv 4) (qa_cons (qv 5) qa_nil))) qa_nil)))) qa_nil)))) qa_nil)))))
   (qss_one (qs_ret (qe_tup (qa_cons (qe_str) (qa_cons (qe_tup (qa_cons (qe_ix (k_ix K) (qv 0) (qe_int) (fun _ _=>rfl)) (qa_cons (qe_ix (k_ix K) (qv 0) (qe_int) (fun _ _=>rfl)) qa_nil))) (qa_cons (qe_tup (qa_cons (qv 6) qa_nil)) qa_nil)))))))),?_⟩
  have bg:=big
  walk_at "r"
  refine s_ix_lst hp (atI_nat (j:=1) rfl) ?_
  walk_at "r"
  refine ⟨by show 0≤sizeLine; decide,fun a1 h1=>?_⟩
  have s1:Same H (upd H a1 (.tup [])):=Same.upd h1
  have e1:upd H a1 (.tup []) a1=some (.tup []):=upd_same
  revert s1 e1
  generalize upd H a1 (.tup [])=H1
  intro s1 e1
  have S1:=s1
  have hp1:=hp |> s1.seq
  have hb:=hb.same s1
  walk_at "r"
  refine ⟨by show 3≤sizeLine; decide,fun a2 h2=>?_⟩
  have s2:Same H1 (upd H1 a2 (.tup [.str "name",.str nx,.ref a1])):=Same.upd h2
  have e2:upd H1 a2 (.tup [.str "name",.str nx,.ref a1]) a2=some (.tup [.str "name",.str nx,.ref a1]):=upd_same
  revert s2 e2
  generalize upd H1 a2 (.tup [.str "name",.str nx,.ref a1])=H2
  intro s2 e2
  have S2:=S1.trans s2
  have hp2:=hp1 |> s2.seq
  have hb:=hb.same s2
  have e1:=s2 _ _ e1
  have TX:TrAt K H2 (.ref a2) (nameT nx):=tr_leaf e2 e1 rfl
  walk_at "r"
  refine s_ix_lst hp2 (atI_nat (j:=0) rfl) ?_
  walk_at "r"
  refine ⟨by show 0≤sizeLine; decide,fun a3 h3=>?_⟩
  have s3:Same H2 (upd H2 a3 (.tup [])):=Same.upd h3
  have e3:upd H2 a3 (.tup []) a3=some (.tup []):=upd_same
  revert s3 e3
  generalize upd H2 a3 (.tup [])=H3
  intro s3 e3
  have S3:=S2.trans s3
  have hp3:=hp2 |> s3.seq
  have hb:=hb.same s3
  have TX:=TX.same s3
  walk_at "r"
  refine ⟨by show 3≤sizeLine; decide,fun a4 h4=>?_⟩
  have s4:Same H3 (upd H3 a4 (.tup [.str "name",.str nf,.ref a3])):=Same.upd h4
  have e4:upd H3 a4 (.tup [.str "name",.str nf,.ref a3]) a4=some (.tup [.str "name",.str nf,.ref a3]):=upd_same
  revert s4 e4
  generalize upd H3 a4 (.tup [.str "name",.str nf,.ref a3])=H4
  intro s4 e4
  have S4:=S3.trans s4
  have hp4:=hp3 |> s4.seq
  have hb:=hb.same s4
  have TX:=TX.same s4
  have e3:=s4 _ _ e3
  have TF:TrAt K H4 (.ref a4) (nameT nf):=tr_leaf e4 e3 rfl
  walk_at "r"
  refine ⟨by show 0≤sizeLine; decide,fun a5 h5=>?_⟩
  have s5:Same H4 (upd H4 a5 (.tup [])):=Same.upd h5
  have e5:upd H4 a5 (.tup []) a5=some (.tup []):=upd_same
  revert s5 e5
  generalize upd H4 a5 (.tup [])=H5
  intro s5 e5
  have S5:=S4.trans s5
  have hp5:=hp4 |> s5.seq
  have hb:=hb.same s5
  have TX:=TX.same s5
  have TF:=TF.same s5
  walk_at "r"
  refine ⟨by show 3≤sizeLine; decide,fun a6 h6=>?_⟩
  have s6:Same H5 (upd H5 a6 (.tup [.str "num",.int down,.ref a5])):=Same.upd h6
  have e6:upd H5 a6 (.tup [.str "num",.int down,.ref a5]) a6=some (.tup [.str "num",.int down,.ref a5]):=upd_same
  revert s6 e6
  generalize upd H5 a6 (.tup [.str "num",.int down,.ref a5])=H6
  intro s6 e6
  have S6:=S5.trans s6
  have hp6:=hp5 |> s6.seq
  have hb:=hb.same s6
  have TX:=TX.same s6
  have TF:=TF.same s6
  have e5:=s6 _ _ e5
  have TD:TrAt K H6 (.ref a6) (numT down):=tr_leaf e6 e5 rfl
  walk_at "r"
  refine ⟨by show 2≤sizeLine; decide,fun a7 h7=>?_⟩
  have s7:Same H6 (upd H6 a7 (.tup [.ref a2,.ref a6])):=Same.upd h7
  have e7:upd H6 a7 (.tup [.ref a2,.ref a6]) a7=some (.tup [.ref a2,.ref a6]):=upd_same
  revert s7 e7
  generalize upd H6 a7 (.tup [.ref a2,.ref a6])=H7
  intro s7 e7
  have S7:=S6.trans s7
  have hp7:=hp6 |> s7.seq
  have hb:=hb.same s7
  have TX:=TX.same s7
  have TF:=TF.same s7
  have TD:=TD.same s7
  walk_at "r"
  refine ⟨by show 3≤sizeLine; decide,fun a8 h8=>?_⟩
  have s8:Same H7 (upd H7 a8 (.tup [.str "minus",.non,.ref a7])):=Same.upd h8
  have e8:upd H7 a8 (.tup [.str "minus",.non,.ref a7]) a8=some (.tup [.str "minus",.non,.ref a7]):=upd_same
  revert s8 e8
  generalize upd H7 a8 (.tup [.str "minus",.non,.ref a7])=H8
  intro s8 e8
  have S8:=S7.trans s8
  have hp8:=hp7 |> s8.seq
  have hb:=hb.same s8
  have TX:=TX.same s8
  have TF:=TF.same s8
  have TD:=TD.same s8
  have e7:=s8 _ _ e7
  have TM:TrAt K H8 (.ref a8) (twoT "minus" (nameT nx) (numT down)):=tr_two e8 e7 TX TD
  walk_at "r"
  refine ⟨by show 2≤sizeLine; decide,fun a9 h9=>?_⟩
  have s9:Same H8 (upd H8 a9 (.tup [.ref a4,.ref a8])):=Same.upd h9
  have e9:upd H8 a9 (.tup [.ref a4,.ref a8]) a9=some (.tup [.ref a4,.ref a8]):=upd_same
  revert s9 e9
  generalize upd H8 a9 (.tup [.ref a4,.ref a8])=H9
  intro s9 e9
  have S9:=S8.trans s9
  have hp9:=hp8 |> s9.seq
  have hb:=hb.same s9
  have TX:=TX.same s9
  have TF:=TF.same s9
  have TD:=TD.same s9
  have TM:=TM.same s9
  walk_at "r"
  refine ⟨by show 3≤sizeLine; decide,fun a10 h10=>?_⟩
  have s10:Same H9 (upd H9 a10 (.tup [.str "call",.non,.ref a9])):=Same.upd h10
  have e10:upd H9 a10 (.tup [.str "call",.non,.ref a9]) a10=some (.tup [.str "call",.non,.ref a9]):=upd_same
  revert s10 e10
  generalize upd H9 a10 (.tup [.str "call",.non,.ref a9])=H10
  intro s10 e10
  have S10:=S9.trans s10
  have hp10:=hp9 |> s10.seq
  have hb:=hb.same s10
  have TX:=TX.same s10
  have TF:=TF.same s10
  have TD:=TD.same s10
  have TM:=TM.same s10
  have e9:=s10 _ _ e9
  have TC:TrAt K H10 (.ref a10) (twoT "call" (nameT nf) (twoT "minus" (nameT nx) (numT down))):=tr_two e10 e9 TF TM
  walk_at "r"
  refine ⟨by show 0≤sizeLine; decide,fun a11 h11=>?_⟩
  have s11:Same H10 (upd H10 a11 (.tup [])):=Same.upd h11
  have e11:upd H10 a11 (.tup []) a11=some (.tup []):=upd_same
  revert s11 e11
  generalize upd H10 a11 (.tup [])=H11
  intro s11 e11
  have S11:=S10.trans s11
  have hp11:=hp10 |> s11.seq
  have hb:=hb.same s11
  have TX:=TX.same s11
  have TF:=TF.same s11
  have TD:=TD.same s11
  have TM:=TM.same s11
  have TC:=TC.same s11
  walk_at "r"
  refine ⟨by show 3≤sizeLine; decide,fun a12 h12=>?_⟩
  have s12:Same H11 (upd H11 a12 (.tup [.str "num",.int limit,.ref a11])):=Same.upd h12
  have e12:upd H11 a12 (.tup [.str "num",.int limit,.ref a11]) a12=some (.tup [.str "num",.int limit,.ref a11]):=upd_same
  revert s12 e12
  generalize upd H11 a12 (.tup [.str "num",.int limit,.ref a11])=H12
  intro s12 e12
  have S12:=S11.trans s12
  have hp12:=hp11 |> s12.seq
  have hb:=hb.same s12
  have TX:=TX.same s12
  have TF:=TF.same s12
  have TD:=TD.same s12
  have TM:=TM.same s12
  have TC:=TC.same s12
  have e11:=s12 _ _ e11
  have TL:TrAt K H12 (.ref a12) (numT limit):=tr_leaf e12 e11 rfl
  walk_at "r"
  refine ⟨by show 2≤sizeLine; decide,fun a13 h13=>?_⟩
  have s13:Same H12 (upd H12 a13 (.tup [.ref a2,.ref a12])):=Same.upd h13
  have e13:upd H12 a13 (.tup [.ref a2,.ref a12]) a13=some (.tup [.ref a2,.ref a12]):=upd_same
  revert s13 e13
  generalize upd H12 a13 (.tup [.ref a2,.ref a12])=H13
  intro s13 e13
  have S13:=S12.trans s13
  have hp13:=hp12 |> s13.seq
  have hb:=hb.same s13
  have TX:=TX.same s13
  have TF:=TF.same s13
  have TD:=TD.same s13
  have TM:=TM.same s13
  have TC:=TC.same s13
  have TL:=TL.same s13
  walk_at "r"
  refine ⟨by show 3≤sizeLine; decide,fun a14 h14=>?_⟩
  have s14:Same H13 (upd H13 a14 (.tup [.str "less",.non,.ref a13])):=Same.upd h14
  have e14:upd H13 a14 (.tup [.str "less",.non,.ref a13]) a14=some (.tup [.str "less",.non,.ref a13]):=upd_same
  revert s14 e14
  generalize upd H13 a14 (.tup [.str "less",.non,.ref a13])=H14
  intro s14 e14
  have S14:=S13.trans s14
  have hp14:=hp13 |> s14.seq
  have hb:=hb.same s14
  have TX:=TX.same s14
  have TF:=TF.same s14
  have TD:=TD.same s14
  have TM:=TM.same s14
  have TC:=TC.same s14
  have TL:=TL.same s14
  have e13:=s14 _ _ e13
  have TS:TrAt K H14 (.ref a14) (twoT "less" (nameT nx) (numT limit)):=tr_two e14 e13 TX TL
  walk_at "r"
  refine ⟨by show 2≤sizeLine; decide,fun a15 h15=>?_⟩
  have s15:Same H14 (upd H14 a15 (.tup [.ref a2,.ref a10])):=Same.upd h15
  have e15:upd H14 a15 (.tup [.ref a2,.ref a10]) a15=some (.tup [.ref a2,.ref a10]):=upd_same
  revert s15 e15
  generalize upd H14 a15 (.tup [.ref a2,.ref a10])=H15
  intro s15 e15
  have S15:=S14.trans s15
  have hp15:=hp14 |> s15.seq
  have hb:=hb.same s15
  have TX:=TX.same s15
  have TF:=TF.same s15
  have TD:=TD.same s15
  have TM:=TM.same s15
  have TC:=TC.same s15
  have TL:=TL.same s15
  have TS:=TS.same s15
  walk_at "r"
  refine ⟨by show 3≤sizeLine; decide,fun a16 h16=>?_⟩
  have s16:Same H15 (upd H15 a16 (.tup [.str "plus",.non,.ref a15])):=Same.upd h16
  have e16:upd H15 a16 (.tup [.str "plus",.non,.ref a15]) a16=some (.tup [.str "plus",.non,.ref a15]):=upd_same
  revert s16 e16
  generalize upd H15 a16 (.tup [.str "plus",.non,.ref a15])=H16
  intro s16 e16
  have S16:=S15.trans s16
  have hp16:=hp15 |> s16.seq
  have hb:=hb.same s16
  have TX:=TX.same s16
  have TF:=TF.same s16
  have TD:=TD.same s16
  have TM:=TM.same s16
  have TC:=TC.same s16
  have TL:=TL.same s16
  have TS:=TS.same s16
  have e15:=s16 _ _ e15
  have TP:TrAt K H16 (.ref a16) (twoT "plus" (nameT nx) (twoT "call" (nameT nf) (twoT "minus" (nameT nx) (numT down)))):=tr_two e16 e15 TX TC
  walk_at "r"
  refine ⟨by show 3≤sizeLine; decide,fun a17 h17=>?_⟩
  have s17:Same H16 (upd H16 a17 (.tup [.ref a14,bv,.ref a16])):=Same.upd h17
  have e17:upd H16 a17 (.tup [.ref a14,bv,.ref a16]) a17=some (.tup [.ref a14,bv,.ref a16]):=upd_same
  revert s17 e17
  generalize upd H16 a17 (.tup [.ref a14,bv,.ref a16])=H17
  intro s17 e17
  have S17:=S16.trans s17
  have hp17:=hp16 |> s17.seq
  have hb:=hb.same s17
  have TX:=TX.same s17
  have TF:=TF.same s17
  have TD:=TD.same s17
  have TM:=TM.same s17
  have TC:=TC.same s17
  have TL:=TL.same s17
  have TS:=TS.same s17
  have TP:=TP.same s17
  walk_at "r"
  refine ⟨by show 3≤sizeLine; decide,fun a18 h18=>?_⟩
  have s18:Same H17 (upd H17 a18 (.tup [.str "if",.non,.ref a17])):=Same.upd h18
  have e18:upd H17 a18 (.tup [.str "if",.non,.ref a17]) a18=some (.tup [.str "if",.non,.ref a17]):=upd_same
  revert s18 e18
  generalize upd H17 a18 (.tup [.str "if",.non,.ref a17])=H18
  intro s18 e18
  have S18:=S17.trans s18
  have hp18:=hp17 |> s18.seq
  have hb:=hb.same s18
  have TX:=TX.same s18
  have TF:=TF.same s18
  have TD:=TD.same s18
  have TM:=TM.same s18
  have TC:=TC.same s18
  have TL:=TL.same s18
  have TS:=TS.same s18
  have TP:=TP.same s18
  have e17:=s18 _ _ e17
  have TB:TrAt K H18 (.ref a18) (bodyT nf nx limit down bs):=.mk (SqT.of e18) (.inl ⟨rfl,rfl⟩) (SqT.of e17) rfl (fun j v t f1 f2=>by
   match j,f1,f2 with
   | 0,f1,f2=>cases f1; cases f2; exact TS
   | 1,f1,f2=>cases f1; cases f2; exact hb
   | 2,f1,f2=>cases f1; cases f2; exact TP)
  walk_at "r"
  refine s_ix_lst hp18 (atI_nat (j:=0) rfl) ?_
  walk_at "r"
  refine s_ix_lst hp18 (atI_nat (j:=1) rfl) ?_
  walk_at "r"
  refine ⟨by show 2≤sizeLine; decide,fun a19 h19=>?_⟩
  have s19:Same H18 (upd H18 a19 (.tup [.str nf,.str nx])):=Same.upd h19
  have e19:upd H18 a19 (.tup [.str nf,.str nx]) a19=some (.tup [.str nf,.str nx]):=upd_same
  revert s19 e19
  generalize upd H18 a19 (.tup [.str nf,.str nx])=H19
  intro s19 e19
  have S19:=S18.trans s19
  have hp19:=hp18 |> s19.seq
  have hb:=hb.same s19
  have TX:=TX.same s19
  have TF:=TF.same s19
  have TD:=TD.same s19
  have TM:=TM.same s19
  have TC:=TC.same s19
  have TL:=TL.same s19
  have TS:=TS.same s19
  have TP:=TP.same s19
  have TB:=TB.same s19
  walk_at "r"
  refine ⟨by show 1≤sizeLine; decide,fun a20 h20=>?_⟩
  have s20:Same H19 (upd H19 a20 (.tup [.ref a18])):=Same.upd h20
  have e20:upd H19 a20 (.tup [.ref a18]) a20=some (.tup [.ref a18]):=upd_same
  revert s20 e20
  generalize upd H19 a20 (.tup [.ref a18])=H20
  intro s20 e20
  have S20:=S19.trans s20
  have hp20:=hp19 |> s20.seq
  have hb:=hb.same s20
  have TX:=TX.same s20
  have TF:=TF.same s20
  have TD:=TD.same s20
  have TM:=TM.same s20
  have TC:=TC.same s20
  have TL:=TL.same s20
  have TS:=TS.same s20
  have TP:=TP.same s20
  have TB:=TB.same s20
  have e19:=s20 _ _ e19
  walk_at "r"
  refine ⟨by show 3≤sizeLine; decide,fun a21 h21=>?_⟩
  have s21:Same H20 (upd H20 a21 (.tup [.str "rec",.ref a19,.ref a20])):=Same.upd h21
  have e21:upd H20 a21 (.tup [.str "rec",.ref a19,.ref a20]) a21=some (.tup [.str "rec",.ref a19,.ref a20]):=upd_same
  revert s21 e21
  generalize upd H20 a21 (.tup [.str "rec",.ref a19,.ref a20])=H21
  intro s21 e21
  have S21:=S20.trans s21
  have hp21:=hp20 |> s21.seq
  have hb:=hb.same s21
  have TX:=TX.same s21
  have TF:=TF.same s21
  have TD:=TD.same s21
  have TM:=TM.same s21
  have TC:=TC.same s21
  have TL:=TL.same s21
  have TS:=TS.same s21
  have TP:=TP.same s21
  have TB:=TB.same s21
  have e19:=s21 _ _ e19
  have e20:=s21 _ _ e20
  refine q _ _ S21 (.mk (SqT.of e21) (.inr ⟨a19,[.str nf,.str nx],rfl,SqT.of e19,rfl,rfl⟩) (SqT.of e20) rfl (fun j v t f1 f2=>by
   match j,f1,f2 with
   | 0,f1,f2=>cases f1; cases f2; exact TB))
noncomputable def sp_endl (K:W.Frag):Sp:=fun vs H Q _=>∃ (p:Addr) (f x:Str) (n:Nat),vs=[.ref p,.int (n:Nat)]∧SqL K H p [.str f,.str x]∧n≤1000∧∀ v H',Same H H'→TrAt K H' v (endT f x n)→Q v H'
theorem sc_law_endless:FnScope ["_law_names_here", "_law_many", "_law_form", "_law_k"] ["_law_names_here", "_law_many"] (defScope s_law_endless):=⟨rfl,rfl,rfl,by decide +kernel,rfl,by decide +kernel,by decide +kernel⟩
theorem ok_endl {f:Addr} {fd:FuncData} (F:Fun K "_law_endless" "_law_endless" s_law_endless f fd) (T:Txt K mg):FnOk P w K mg base CX0 1 f fd ["_law_names_here", "_law_many"] (sp_endl K):=by
 refine F.okq sc_law_endless (fun vs H Q E h=>?_) (fun cdv A outer s H vs Q E hr h=>?_)
 ·obtain ⟨p,f,x,n,rfl,_⟩:=h
  rfl
 ·obtain ⟨p,nf,nx,n,rfl,hp,hn,q⟩:=h
  refine ⟨_,qss_cons (qs_set (i:=2) sc_law_endless.nd rfl (Or.inl rfl) (qe_tup (qa_cons (qe_str) (qa_cons (qe_non) (qa_cons (qe_tup (qa_cons (qe_tup (qa_cons (qe_str) (qa_cons (qe_ix (k_ix K) (qv 0) (qe_int) (fun _ _=>rfl)) (qa_cons (qe_tup (qa_nil)) qa_nil)))) (qa_cons (qe_tup (qa_cons (qe_str) (qa_cons (qe_ix (k_ix K) (qv 0) (qe_int) (fun _ _=>rfl)) (qa_cons (qe_tup (qa_nil)) qa_nil)))) qa_nil))) qa_nil)))))
   (qss_cons (qs_for PassesOwn.never rfl (qi_range1 rfl T.range (qa_cons (qv 1) qa_nil)) (qg_name (i:=3) sc_law_endless.nd rfl (Or.inl rfl)) (qss_one (qs_set (i:=2) sc_law_endless.nd rfl (Or.inl rfl) (qe_tup (qa_cons (qe_str) (qa_cons (qe_ix (k_ix K) (qv 0) (qe_int) (fun _ _=>rfl)) (qa_cons (qe_tup (qa_cons (qe_tup (qa_cons (qe_str) (qa_cons (qe_non) (qa_cons (qe_tup (qa_nil)) qa_nil)))) (qa_cons (qv 2) qa_nil))) qa_nil)))))))
   (qss_one (qs_ret (qe_tup (qa_cons (qe_str) (qa_cons (qe_non) (qa_cons (qe_tup (qa_cons (qe_tup (qa_cons (qe_str) (qa_cons (qe_tup (qa_cons (qe_ix (k_ix K) (qv 0) (qe_int) (fun _ _=>rfl)) (qa_cons (qe_ix (k_ix K) (qv 0) (qe_int) (fun _ _=>rfl)) qa_nil))) (qa_cons (qe_tup (qa_cons (qv 2) qa_nil)) qa_nil)))) (qa_cons (qe_tup (qa_cons (qe_str) (qa_cons (qe_int) (qa_cons (qe_tup (qa_nil)) qa_nil)))) qa_nil))) qa_nil))))))),?_⟩
  have bg:=big
  walk_at "r"
  refine s_ix_lst hp (atI_nat (j:=0) rfl) ?_
  walk_at "r"
  refine ⟨by show 0≤sizeLine; decide,fun a1 h1=>?_⟩
  have s1:Same H (upd H a1 (.tup [])):=Same.upd h1
  have e1:upd H a1 (.tup []) a1=some (.tup []):=upd_same
  revert s1 e1
  generalize upd H a1 (.tup [])=H1
  intro s1 e1
  have S1:=s1
  have hp:=s1.seq hp
  walk_at "r"
  refine ⟨by show 3≤sizeLine; decide,fun a2 h2=>?_⟩
  have s2:Same H1 (upd H1 a2 (.tup [.str "name",.str nf,.ref a1])):=Same.upd h2
  have e2:upd H1 a2 (.tup [.str "name",.str nf,.ref a1]) a2=some (.tup [.str "name",.str nf,.ref a1]):=upd_same
  revert s2 e2
  generalize upd H1 a2 (.tup [.str "name",.str nf,.ref a1])=H2
  intro s2 e2
  have S2:=S1.trans s2
  have hp:=s2.seq hp
  have e1:=s2 _ _ e1
  have TF:TrAt K H2 (.ref a2) (nameT nf):=tr_leaf e2 e1 rfl
  walk_at "r"
  refine s_ix_lst hp (atI_nat (j:=1) rfl) ?_
  walk_at "r"
  refine ⟨by show 0≤sizeLine; decide,fun a3 h3=>?_⟩
  have s3:Same H2 (upd H2 a3 (.tup [])):=Same.upd h3
  have e3:upd H2 a3 (.tup []) a3=some (.tup []):=upd_same
  revert s3 e3
  generalize upd H2 a3 (.tup [])=H3
  intro s3 e3
  have S3:=S2.trans s3
  have hp:=s3.seq hp
  have TF:=TF.same s3
  walk_at "r"
  refine ⟨by show 3≤sizeLine; decide,fun a4 h4=>?_⟩
  have s4:Same H3 (upd H3 a4 (.tup [.str "name",.str nx,.ref a3])):=Same.upd h4
  have e4:upd H3 a4 (.tup [.str "name",.str nx,.ref a3]) a4=some (.tup [.str "name",.str nx,.ref a3]):=upd_same
  revert s4 e4
  generalize upd H3 a4 (.tup [.str "name",.str nx,.ref a3])=H4
  intro s4 e4
  have S4:=S3.trans s4
  have hp:=s4.seq hp
  have TF:=TF.same s4
  have e3:=s4 _ _ e3
  have TX:TrAt K H4 (.ref a4) (nameT nx):=tr_leaf e4 e3 rfl
  walk_at "r"
  refine ⟨by show 2≤sizeLine; decide,fun a5 h5=>?_⟩
  have s5:Same H4 (upd H4 a5 (.tup [.ref a2,.ref a4])):=Same.upd h5
  have e5:upd H4 a5 (.tup [.ref a2,.ref a4]) a5=some (.tup [.ref a2,.ref a4]):=upd_same
  revert s5 e5
  generalize upd H4 a5 (.tup [.ref a2,.ref a4])=H5
  intro s5 e5
  have S5:=S4.trans s5
  have hp:=s5.seq hp
  have TF:=TF.same s5
  have TX:=TX.same s5
  walk_at "r"
  refine ⟨by show 3≤sizeLine; decide,fun a6 h6=>?_⟩
  have s6:Same H5 (upd H5 a6 (.tup [.str "call",.non,.ref a5])):=Same.upd h6
  have e6:upd H5 a6 (.tup [.str "call",.non,.ref a5]) a6=some (.tup [.str "call",.non,.ref a5]):=upd_same
  revert s6 e6
  generalize upd H5 a6 (.tup [.str "call",.non,.ref a5])=H6
  intro s6 e6
  have S6:=S5.trans s6
  have hp:=s6.seq hp
  have TF:=TF.same s6
  have TX:=TX.same s6
  have e5:=s6 _ _ e5
  have TC:TrAt K H6 (.ref a6) (twoT "call" (nameT nf) (nameT nx)):=tr_two e6 e5 TF TX
  walk_at "r"
  refine ⟨by omega,by omega,?_⟩
  refine for_range (n:=n) (fun i σ' H'=>∃ v3 tv,σ'=[some (.ref p),some (.int (n:Nat)),some tv,v3]∧Same H6 H'∧TrAt K H' tv (letsT nx (twoT "call" (nameT nf) (nameT nx)) i)) ⟨none,.ref a6,rfl,Same.refl _,TC⟩ ?_ ?_
  ·rintro i σ' HA hi ⟨v3,tv,rfl,sA,tA⟩
   have hA:=sA.seq hp
   walk_at "r"
   refine s_ix_lst hA (atI_nat (j:=1) rfl) ?_
   walk_at "r"
   refine ⟨by show 0≤sizeLine; decide,fun ai1 hi1=>?_⟩
   have si1:Same HA (upd HA ai1 (.tup [])):=Same.upd hi1
   have ei1:upd HA ai1 (.tup []) ai1=some (.tup []):=upd_same
   revert si1 ei1
   generalize upd HA ai1 (.tup [])=Hi1
   intro si1 ei1
   have Si1:=sA.trans si1
   have hA:=si1.seq hA
   have tA:=tA.same si1
   walk_at "r"
   refine ⟨by show 3≤sizeLine; decide,fun ai2 hi2=>?_⟩
   have si2:Same Hi1 (upd Hi1 ai2 (.tup [.str "gap",.non,.ref ai1])):=Same.upd hi2
   have ei2:upd Hi1 ai2 (.tup [.str "gap",.non,.ref ai1]) ai2=some (.tup [.str "gap",.non,.ref ai1]):=upd_same
   revert si2 ei2
   generalize upd Hi1 ai2 (.tup [.str "gap",.non,.ref ai1])=Hi2
   intro si2 ei2
   have Si2:=Si1.trans si2
   have hA:=si2.seq hA
   have tA:=tA.same si2
   have ei1:=si2 _ _ ei1
   have TG:TrAt K Hi2 (.ref ai2) (leafT "gap" .non):=tr_leaf ei2 ei1 rfl
   walk_at "r"
   refine ⟨by show 2≤sizeLine; decide,fun ai3 hi3=>?_⟩
   have si3:Same Hi2 (upd Hi2 ai3 (.tup [.ref ai2,tv])):=Same.upd hi3
   have ei3:upd Hi2 ai3 (.tup [.ref ai2,tv]) ai3=some (.tup [.ref ai2,tv]):=upd_same
   revert si3 ei3
   generalize upd Hi2 ai3 (.tup [.ref ai2,tv])=Hi3
   intro si3 ei3
   have Si3:=Si2.trans si3
   have hA:=si3.seq hA
   have tA:=tA.same si3
   have TG:=TG.same si3
   walk_at "r"
   refine ⟨by show 3≤sizeLine; decide,fun ai4 hi4=>?_⟩
   have si4:Same Hi3 (upd Hi3 ai4 (.tup [.str "let",.str nx,.ref ai3])):=Same.upd hi4
   have ei4:upd Hi3 ai4 (.tup [.str "let",.str nx,.ref ai3]) ai4=some (.tup [.str "let",.str nx,.ref ai3]):=upd_same
   revert si4 ei4
   generalize upd Hi3 ai4 (.tup [.str "let",.str nx,.ref ai3])=Hi4
   intro si4 ei4
   have Si4:=Si3.trans si4
   have hA:=si4.seq hA
   have tA:=tA.same si4
   have TG:=TG.same si4
   have ei3:=si4 _ _ ei3
   refine ⟨_,.ref ai4,rfl,Si4,?_⟩
   exact .mk (SqT.of ei4) (.inl ⟨rfl,rfl⟩) (SqT.of ei3) rfl (fun j v t f1 f2=>by
    match j,f1,f2 with
    | 0,f1,f2=>cases f1; cases f2; exact TG
    | 1,f1,f2=>cases f1; cases f2; exact tA)
  ·rintro σ' HA ⟨v3,tv,rfl,sA,tA⟩
   have hA:=sA.seq hp
   have SA:=S6.trans sA
   walk_at "r"
   refine s_ix_lst hA (atI_nat (j:=0) rfl) ?_
   walk_at "r"
   refine s_ix_lst hA (atI_nat (j:=1) rfl) ?_
   walk_at "r"
   refine ⟨by show 2≤sizeLine; decide,fun aj1 hj1=>?_⟩
   have sj1:Same HA (upd HA aj1 (.tup [.str nf,.str nx])):=Same.upd hj1
   have ej1:upd HA aj1 (.tup [.str nf,.str nx]) aj1=some (.tup [.str nf,.str nx]):=upd_same
   revert sj1 ej1
   generalize upd HA aj1 (.tup [.str nf,.str nx])=Hj1
   intro sj1 ej1
   have Sj1:=SA.trans sj1
   have hA:=sj1.seq hA
   have tA:=tA.same sj1
   walk_at "r"
   refine ⟨by show 1≤sizeLine; decide,fun aj2 hj2=>?_⟩
   have sj2:Same Hj1 (upd Hj1 aj2 (.tup [tv])):=Same.upd hj2
   have ej2:upd Hj1 aj2 (.tup [tv]) aj2=some (.tup [tv]):=upd_same
   revert sj2 ej2
   generalize upd Hj1 aj2 (.tup [tv])=Hj2
   intro sj2 ej2
   have Sj2:=Sj1.trans sj2
   have hA:=sj2.seq hA
   have tA:=tA.same sj2
   have ej1:=sj2 _ _ ej1
   walk_at "r"
   refine ⟨by show 3≤sizeLine; decide,fun aj3 hj3=>?_⟩
   have sj3:Same Hj2 (upd Hj2 aj3 (.tup [.str "rec",.ref aj1,.ref aj2])):=Same.upd hj3
   have ej3:upd Hj2 aj3 (.tup [.str "rec",.ref aj1,.ref aj2]) aj3=some (.tup [.str "rec",.ref aj1,.ref aj2]):=upd_same
   revert sj3 ej3
   generalize upd Hj2 aj3 (.tup [.str "rec",.ref aj1,.ref aj2])=Hj3
   intro sj3 ej3
   have Sj3:=Sj2.trans sj3
   have hA:=sj3.seq hA
   have tA:=tA.same sj3
   have ej1:=sj3 _ _ ej1
   have ej2:=sj3 _ _ ej2
   have TR:TrAt K Hj3 (.ref aj3) (recTr nf nx (letsT nx (twoT "call" (nameT nf) (nameT nx)) n)):=.mk (SqT.of ej3) (.inr ⟨_,[.str nf,.str nx],rfl,SqT.of ej1,rfl,rfl⟩) (SqT.of ej2) rfl (fun j v t f1 f2=>by
    match j,f1,f2 with
    | 0,f1,f2=>cases f1; cases f2; exact tA)
   walk_at "r"
   refine ⟨by show 0≤sizeLine; decide,fun aj4 hj4=>?_⟩
   have sj4:Same Hj3 (upd Hj3 aj4 (.tup [])):=Same.upd hj4
   have ej4:upd Hj3 aj4 (.tup []) aj4=some (.tup []):=upd_same
   revert sj4 ej4
   generalize upd Hj3 aj4 (.tup [])=Hj4
   intro sj4 ej4
   have Sj4:=Sj3.trans sj4
   have hA:=sj4.seq hA
   have tA:=tA.same sj4
   have TR:=TR.same sj4
   walk_at "r"
   refine ⟨by show 3≤sizeLine; decide,fun aj5 hj5=>?_⟩
   have sj5:Same Hj4 (upd Hj4 aj5 (.tup [.str "num",.int 1,.ref aj4])):=Same.upd hj5
   have ej5:upd Hj4 aj5 (.tup [.str "num",.int 1,.ref aj4]) aj5=some (.tup [.str "num",.int 1,.ref aj4]):=upd_same
   revert sj5 ej5
   generalize upd Hj4 aj5 (.tup [.str "num",.int 1,.ref aj4])=Hj5
   intro sj5 ej5
   have Sj5:=Sj4.trans sj5
   have hA:=sj5.seq hA
   have tA:=tA.same sj5
   have TR:=TR.same sj5
   have ej4:=sj5 _ _ ej4
   have TN:TrAt K Hj5 (.ref aj5) (numT 1):=tr_leaf ej5 ej4 rfl
   walk_at "r"
   refine ⟨by show 2≤sizeLine; decide,fun aj6 hj6=>?_⟩
   have sj6:Same Hj5 (upd Hj5 aj6 (.tup [.ref aj3,.ref aj5])):=Same.upd hj6
   have ej6:upd Hj5 aj6 (.tup [.ref aj3,.ref aj5]) aj6=some (.tup [.ref aj3,.ref aj5]):=upd_same
   revert sj6 ej6
   generalize upd Hj5 aj6 (.tup [.ref aj3,.ref aj5])=Hj6
   intro sj6 ej6
   have Sj6:=Sj5.trans sj6
   have hA:=sj6.seq hA
   have tA:=tA.same sj6
   have TR:=TR.same sj6
   have TN:=TN.same sj6
   walk_at "r"
   refine ⟨by show 3≤sizeLine; decide,fun aj7 hj7=>?_⟩
   have sj7:Same Hj6 (upd Hj6 aj7 (.tup [.str "call",.non,.ref aj6])):=Same.upd hj7
   have ej7:upd Hj6 aj7 (.tup [.str "call",.non,.ref aj6]) aj7=some (.tup [.str "call",.non,.ref aj6]):=upd_same
   revert sj7 ej7
   generalize upd Hj6 aj7 (.tup [.str "call",.non,.ref aj6])=Hj7
   intro sj7 ej7
   have Sj7:=Sj6.trans sj7
   have hA:=sj7.seq hA
   have tA:=tA.same sj7
   have TR:=TR.same sj7
   have TN:=TN.same sj7
   have ej6:=sj7 _ _ ej6
   have TW:TrAt K Hj7 (.ref aj7) (endT nf nx n):=tr_two ej7 ej6 TR TN
   exact q _ _ Sj7 TW
noncomputable def SameR (r:Addr) (H H':Hp):Prop:=∀ b o,b≠r→H b=some o→H' b=some o
theorem SameR.upd {r:Addr} {H:Hp} {o:HO}:SameR r H (upd H r o):=fun b o' n h=>by rw [upd_ne n]; exact h
theorem SameR.a {r:Addr} {H H':Hp} {rv:List V} (e:SameR r H H') (h:H r=some (.lst rv)):SameA (fun b=>b=r) H H':=⟨fun b=>⟨fun xs hb=>e b _ (fun z=>by rw [z,h] at hb; cases hb) hb,fun o u hb=>e b _ (fun z=>by rw [z,h] at hb; cases hb) hb⟩,fun b xs n hb=>e b _ n hb⟩
structure DueAt (K:W.Frag) (H:Hp) (r:Addr) (rs:List Rx):Prop where
 ex:∃ rv,H r=some (.lst rv)∧Al (RwAt K (fun b=>b=r) H) rv rs
theorem DueAt.same {K:W.Frag} {H H':Hp} {r:Addr} {rs:List Rx} (h:DueAt K H r rs) (e:Same H H'):DueAt K H' r rs:=by
 obtain ⟨rv,h1,h2⟩:=h.ex
 exact ⟨rv,e _ _ h1,h2.mono (RwAt.same e.a)⟩
theorem DueAt.add {K:W.Frag} {H:Hp} {r:Addr} {rs:List Rx} {rv:List V} {v:V} {x:Rx} (h1:H r=some (.lst rv)) (h2:Al (RwAt K (fun b=>b=r) H) rv rs) (hv:RwAt K (fun b=>b=r) H v x):DueAt K (upd H r (.lst (rv++[v]))) r (rs++[x]):=by
 have e:SameR r H (L2.upd H r (.lst (rv++[v]))):=SameR.upd
 exact ⟨_,upd_same,(h2.snoc hv).mono (RwAt.same (e.a h1))⟩
noncomputable def recRow:Rx:=⟨"rec",plI [0],[],[]⟩
noncomputable def tot (down:Int):Nat→Int→Int
 | 0,_=>0
 | t + 1,v=>v + tot down t (v - down)
theorem tot_eq (down:Int):∀ (t:Nat) (v:Int),tot down t v=t * v - down * ((t:Int) * ((t:Int) - 1) / 2)
 | 0,v=>by simp [tot]
 | t + 1,v=>by
  rw [tot,tot_eq down t (v - down)]
  have e1:((t + 1:Nat):Int)=(t:Int) + 1:=by omega
  have e2:((t:Int) + 1) * ((t:Int) + 1 - 1)=(t:Int) * ((t:Int) - 1) + 2 * (t:Int):=by
   rw [show (t:Int) + 1 - 1=t by omega,Int.add_mul,Int.one_mul,Int.mul_sub,Int.mul_one]
   omega
  rw [e1,e2]
  have e3:((t:Int) * ((t:Int) - 1) + 2 * (t:Int)) / 2=(t:Int) * ((t:Int) - 1) / 2 + t:=by omega
  rw [e3]
  generalize (t:Int) * ((t:Int) - 1) / 2=a
  rw [Int.mul_sub,Int.mul_add,Int.add_mul,Int.one_mul,Int.mul_comm down (t:Int)]
  omega
theorem join_nums (i j:Int) (pl:List Nat) (k:Nat):joinR "plus" pl k (nm i) (nm j)=(nm (i + j),[]):=by
 unfold joinR
 rw [if_pos ⟨by decide +kernel,rfl,rfl⟩]
 show (recT "plus" i j,_)=_
 unfold recT
 rw [if_pos rfl]
theorem mul_succ (down:Int) (k:Nat):down * ((k + 1:Nat):Int)=down * (k:Int) + down:=by rw [Int.natCast_add,Int.mul_add]; simp
theorem sumN {f x:Str} {down:Int} {bs:Str×V} {g:Int→Int} (h:∀ v k,leafG bs.1 bs.2 k [0,0,1] (arV f x (nm v))=(nm (g v),[])):∀ (t:Nat) (v:Int) (k:Nat),resG f x down bs t v k=(nm (tot down t v + g (v - down * t)),[])
 | 0,v,k=>by
  show leafG bs.1 bs.2 k [0,0,1] (arV f x (nm v))=_
  rw [h,tot]
  simp
 | t + 1,v,k=>by
  have ih:=sumN (down:=down) h t (v - down) k
  rw [resG,ih,join_nums,tot,mul_succ]
  simp only [List.append_nil]
  rw [show v - down - down * (t:Int)=v - (down * (t:Int) + down) by omega,show v + (tot down t (v - down) + g (v - (down * (t:Int) + down)))=v + tot down t (v - down) + g (v - (down * (t:Int) + down)) by omega]
theorem res_row {f x:Str} {down:Int} {bs:Str×V} (h:∀ v k,(leafG bs.1 bs.2 k [0,0,1] (arV f x (nm v))).1.1 ≠ "num") (t:Nat) (v:Int) (k:Nat):(resG f x down bs t v k).1.1 ≠ "num" ∧ resG f x down bs (t + 1) v k=(rwN (k + (resG f x down bs t (v - down) k).2.length),(resG f x down bs t (v - down) k).2++[⟨"plus",plI [0,0,2],[nm v,(resG f x down bs t (v - down) k).1],[]⟩]):=by
 have nn:∀ (t:Nat) (v:Int),(resG f x down bs t v k).1.1 ≠ "num" := by
  intro t
  induction t with
  | zero=>intro v; exact h v k
  | succ t ih =>
   intro v
   show (joinR _ _ _ _ _).1.1≠_
   unfold joinR
   rw [if_neg fun z=>ih (v - down) z.2.2]
   exact (by decide +kernel:("row" : Str) ≠ "num")
 refine ⟨nn t v,?_⟩
 rw [resG]
 have e:joinR "plus" [0,0,2] (k + (resG f x down bs t (v - down) k).2.length) (nm v) (resG f x down bs t (v - down) k).1=(rwN (k + (resG f x down bs t (v - down) k).2.length),[⟨"plus",plI [0,0,2],[nm v,(resG f x down bs t (v - down) k).1],[]⟩]):=by
  unfold joinR
  rw [if_neg fun z=>nn t (v - down) z.2.2]
 rw [e]
inductive BaseOk (x:Str):Str×V→Prop where
 | num (i:Int):BaseOk x ("num",.int i)
 | gap:BaseOk x ("gap",.non)
 | truth (b:Bool):BaseOk x ("truth",.bl b)
 | name:BaseOk x ("name",.str x)
theorem BaseOk.leaf {x:Str} {bs:Str×V} (h:BaseOk x bs):LeafOk bs.1 bs.2:=by
 cases h with
 | num i=>exact .inl ⟨rfl,i,rfl⟩
 | gap=>exact .inr (.inr (.inr (.inr ⟨rfl,rfl⟩)))
 | truth b=>exact .inr (.inl ⟨rfl,b,rfl⟩)
 | name=>exact .inr (.inr (.inl ⟨rfl,x,rfl⟩))
noncomputable def sp_due (K:W.Frag):Sp:=fun vs H Q _=>∃ (p:Addr) (f x:Str) (bv:V) (bs:Str×V) (start down:Int) (t:Nat),vs=[.ref p,bv,.int start,.int down,.int (t:Nat)]∧SqL K H p [.str f,.str x]∧TrAt K H bv (leafT bs.1 bs.2)∧BaseOk x bs∧t≤100 ∧
 ∀ (r rd:Addr) (av:V) (H':Hp),Same H H'→SqT K H' r [av,.ref rd]→ThAt K H' av (resG f x down bs t start 1).1→DueAt K H' rd ([recRow]++(resG f x down bs t start 1).2)→Q (.ref r) H'
theorem sc_law_due:FnScope ["_law_names_here", "_law_base", "_law_start", "_law_down", "_law_times", "_law_rows", "_law_last", "_law_total", "_law_thing", "_law_k"] ["_law_names_here", "_law_base", "_law_start", "_law_down", "_law_times"] (defScope s_law_due):=⟨rfl,rfl,rfl,by decide +kernel,rfl,by decide +kernel,by decide +kernel⟩
theorem viaS {t:TS} {X:St→Hp→Prop} {rt:VK} {bk ct:St→Hp→Prop} {σ:St} {H:Hp} (R:St→Hp→Prop) (h2:∀ σ' H',R σ' H'→X σ' H') (h1:∀ Y:St→Hp→Prop,(∀ σ' H',R σ' H'→Y σ' H')→t ⟨Y,rt,bk,ct⟩ σ H):t ⟨X,rt,bk,ct⟩ σ H:=h1 X h2
theorem ok_due {f:Addr} {fd:FuncData} (F:Fun K "_law_due" "_law_due" s_law_due f fd) (T:Txt K mg):FnOk P w K mg base CX0 1 f fd ["_law_names_here", "_law_base", "_law_start", "_law_down", "_law_times"] (sp_due K):=by
 refine F.okq sc_law_due (fun vs H Q E h=>?_) (fun cdv A outer s H vs Q E hr h=>?_)
 ·obtain ⟨p,f,x,bv,bs,start,down,t,rfl,_⟩:=h
  rfl
 ·obtain ⟨p,nf,nx,bv,bs,start,down,t,rfl,hp,hb,ok,ht,q⟩:=h
  refine ⟨_,qss_cons (qs_set (i:=5) sc_law_due.nd rfl (Or.inl rfl) (qe_lst (qa_cons (qe_tup (qa_cons (qe_str) (qa_cons (qe_tup (qa_cons (qe_int) qa_nil)) (qa_cons (qe_lst (qa_nil)) (qa_cons (qe_lst (qa_nil)) qa_nil))))) qa_nil)))
   (qss_cons (qs_set (i:=6) sc_law_due.nd rfl (Or.inl rfl) (qe_op op_sub (qv 2) (qe_op op_mulA (qv 3) (qv 4))))
   (qss_cons (qs_if (QW.qt (qw_or (qt_cmpR (k_eq K hr.u200) (qe_ix (k_ix K) (qv 1) (qe_int) (fun _ _=>rfl)) (qe_str) (nomark _)) (qw_or1 (qt_cmpR (k_eq K hr.u200) (qe_ix (k_ix K) (qv 1) (qe_int) (fun _ _=>rfl)) (qe_str) (nomark _))))) (qss_cons (qs_set (i:=7) sc_law_due.nd rfl (Or.inl rfl) (qe_op op_sub (qe_op op_mulA (qv 4) (qv 2)) (qe_op op_mulA (qv 3) (qe_op op_fdiv (qe_op op_mulA (qv 4) (qe_op op_sub (qv 4) (qe_int))) (qe_int)))))
   (qss_cons (qs_if (qt_cmpR (k_eq K hr.u200) (qe_ix (k_ix K) (qv 1) (qe_int) (fun _ _=>rfl)) (qe_str) (nomark _)) (qss_one (qs_ret (qe_tup (qa_cons (qe_tup (qa_cons (qe_str) (qa_cons (qe_op (k_add K) (qv 7) (qe_ix (k_ix K) (qv 1) (qe_int) (fun _ _=>rfl))) qa_nil))) (qa_cons (qv 5) qa_nil))))) (qss_nil))
   (qss_one (qs_ret (qe_tup (qa_cons (qe_tup (qa_cons (qe_str) (qa_cons (qe_op (k_add K) (qv 7) (qv 6)) qa_nil))) (qa_cons (qv 5) qa_nil))))))) (qss_nil))
   (qss_cons (qs_set (i:=8) sc_law_due.nd rfl (Or.inl rfl) (qe_tup (qa_cons (qe_str) (qa_cons (qe_ix (k_ix K) (qv 1) (qe_int) (fun _ _=>rfl)) qa_nil))))
   (qss_cons (qs_if (qt_cmpR (k_eq K hr.u200) (qe_ix (k_ix K) (qv 1) (qe_int) (fun _ _=>rfl)) (qe_str) (nomark _)) (qss_cons (qs_expr (qe_bmK K PySem.F.plainAttrs_list PySem.F.slot_list_append PySem.F.type_list_append mt_append (qv 5) (qa_cons (qe_tup (qa_cons (qe_str) (qa_cons (qe_tup (qa_cons (qe_int) (qa_cons (qe_int) (qa_cons (qe_int) qa_nil)))) (qa_cons (qe_lst (qa_nil)) (qa_cons (qe_lst (qa_cons (qe_tup (qa_cons (qe_ix (k_ix K) (qv 0) (qe_int) (fun _ _=>rfl)) (qa_cons (qe_tup (qa_cons (qe_str) (qa_cons (qe_int) qa_nil))) qa_nil))) (qa_cons (qe_tup (qa_cons (qe_ix (k_ix K) (qv 0) (qe_int) (fun _ _=>rfl)) (qa_cons (qe_tup (qa_cons (qe_str) (qa_cons (qv 6) qa_nil))) qa_nil))) qa_nil))) qa_nil))))) qa_nil)))
   (qss_one (qs_set (i:=8) sc_law_due.nd rfl (Or.inl rfl) (qe_tup (qa_cons (qe_str) (qa_cons (qe_int) qa_nil)))))) (qss_nil))
   (qss_cons (qs_for PassesOwn.never rfl (qi_range3 rfl T.range (qa_cons (qe_op op_sub (qv 4) (qe_int)) (qa_cons (qe_un un_neg (qe_int)) (qa_cons (qe_un un_neg (qe_int)) qa_nil)))) (qg_name (i:=9) sc_law_due.nd rfl (Or.inl rfl)) (qss_cons (qs_expr (qe_bmK K PySem.F.plainAttrs_list PySem.F.slot_list_append PySem.F.type_list_append mt_append (qv 5) (qa_cons (qe_tup (qa_cons (qe_str) (qa_cons (qe_tup (qa_cons (qe_int) (qa_cons (qe_int) (qa_cons (qe_int) qa_nil)))) (qa_cons (qe_lst (qa_cons (qe_tup (qa_cons (qe_str) (qa_cons (qe_op op_sub (qv 2) (qe_op op_mulA (qv 3) (qv 9))) qa_nil))) (qa_cons (qv 8) qa_nil))) (qa_cons (qe_lst (qa_nil)) qa_nil))))) qa_nil)))
   (qss_one (qs_set (i:=8) sc_law_due.nd rfl (Or.inl rfl) (qe_tup (qa_cons (qe_str) (qa_cons (qe_op op_sub (qe_callB (k_len K) (by rfl) T.len (by decide +kernel) (qa_cons (qv 5) qa_nil)) (qe_int)) qa_nil)))))))
   (qss_one (qs_ret (qe_tup (qa_cons (qv 8) (qa_cons (qv 5) qa_nil)))))))))),?_⟩
  have bg:=big
  walk_at "r"
  refine ⟨by show 1≤sizeLine; decide,fun a1 h1=>?_⟩
  have s1:Same H (upd H a1 (.tup [.int 0])):=Same.upd h1
  have e1:upd H a1 (.tup [.int 0]) a1=some (.tup [.int 0]):=upd_same
  revert s1 e1
  generalize upd H a1 (.tup [.int 0])=H1
  intro s1 e1
  have S1:=s1
  have hp:=s1.seq hp
  have hb:=hb.same s1
  walk_at "r"
  refine ⟨by show 0≤sizeLine; decide,fun a2 h2=>?_⟩
  have s2:Same H1 (upd H1 a2 (.lst [])):=Same.upd h2
  have e2:upd H1 a2 (.lst []) a2=some (.lst []):=upd_same
  revert s2 e2
  generalize upd H1 a2 (.lst [])=H2
  intro s2 e2
  have S2:=S1.trans s2
  have hp:=s2.seq hp
  have hb:=hb.same s2
  have e1:=s2 _ _ e1
  walk_at "r"
  refine ⟨by show 0≤sizeLine; decide,fun a3 h3=>?_⟩
  have s3:Same H2 (upd H2 a3 (.lst [])):=Same.upd h3
  have e3:upd H2 a3 (.lst []) a3=some (.lst []):=upd_same
  revert s3 e3
  generalize upd H2 a3 (.lst [])=H3
  intro s3 e3
  have S3:=S2.trans s3
  have hp:=s3.seq hp
  have hb:=hb.same s3
  have e1:=s3 _ _ e1
  have e2:=s3 _ _ e2
  walk_at "r"
  refine ⟨by show 4≤sizeLine; decide,fun a4 h4=>?_⟩
  have s4:Same H3 (upd H3 a4 (.tup [.str "rec",.ref a1,.ref a2,.ref a3])):=Same.upd h4
  have e4:upd H3 a4 (.tup [.str "rec",.ref a1,.ref a2,.ref a3]) a4=some (.tup [.str "rec",.ref a1,.ref a2,.ref a3]):=upd_same
  revert s4 e4
  generalize upd H3 a4 (.tup [.str "rec",.ref a1,.ref a2,.ref a3])=H4
  intro s4 e4
  have S4:=S3.trans s4
  have hp:=s4.seq hp
  have hb:=hb.same s4
  have e1:=s4 _ _ e1
  have e2:=s4 _ _ e2
  have e3:=s4 _ _ e3
  walk_at "r"
  refine ⟨by show 1≤sizeLine; decide,fun a5 h5=>?_⟩
  have s5:Same H4 (upd H4 a5 (.lst [.ref a4])):=Same.upd h5
  have e5:upd H4 a5 (.lst [.ref a4]) a5=some (.lst [.ref a4]):=upd_same
  revert s5 e5
  generalize upd H4 a5 (.lst [.ref a4])=H5
  intro s5 e5
  have S5:=S4.trans s5
  have hp:=s5.seq hp
  have hb:=hb.same s5
  have e1:=s5 _ _ e1
  have e2:=s5 _ _ e2
  have e3:=s5 _ _ e3
  have e4:=s5 _ _ e4
  have n2:a2≠a5:=fun z=>by rw [← z,s4 _ _ (s3 _ _ (by first | exact e2 | assumption))] at h5; cases h5
  have n3:a3≠a5:=fun z=>by rw [← z] at h5; rw [s4 _ _ (by first | exact e3 | assumption)] at h5; cases h5
  have D:DueAt K H5 a5 [recRow]:=⟨_,e5,Al.nil.snoc ⟨a4,a1,a2,a3,[],[],rfl,SqT.of e4,SqT.of e1,e2,.nil,e3,.nil,n2,n3⟩⟩
  have nr:H a5=none:=(s1.trans (s2.trans (s3.trans s4))).free h5
  clear e1 e2 e3 e4 e5 n2 n3 s1 s2 s3 s4 s5
  have S0:=S5
  clear S1 S2 S3 S4
  walk_at "r"
  refine s_mul_r (by omega) (by omega) ?_
  walk_at "r"
  cases hb with
  | @mk cb pb _ nv _ us _ qb hn qp l hch =>
  have en:nv=bs.2:=by
   rcases hn with ⟨_,h⟩ | ⟨_,_,_,_,_,h⟩
   ·injection h with h; exact h.symm
   ·cases h
  subst en
  have hb0:(0:Int)≤(t:Int) * ((t:Int) - 1)∧(t:Int) * ((t:Int) - 1)≤10000:=by
   have h1:(t:Int) * ((t:Int) - 1)≤(t:Int) * 100:=Int.mul_le_mul_of_nonneg_left (by omega) (by omega)
   refine ⟨?_,by omega⟩
   rcases Nat.eq_zero_or_pos t with h | h
   ·rw [h]; decide
   ·exact Int.mul_nonneg (by omega) (by omega)
  have hb1:-(2 ^ 64) < (t:Int) * ((t:Int) - 1) / 2:=by omega
  have hb2:(t:Int) * ((t:Int) - 1) / 2 < 2 ^ 64:=by omega
  cases ok with
  | num i =>
   walk_at "r"
   refine s_ix_tup qb rfl ?_
   walk_at "r"
   rw [dec_str]
   rw [decide_eq_true (Eq.refl _)]
   walk_at "r"
   refine s_mul_l (by omega) (by omega) ?_
   walk_at "r"
   refine s_mul_l (by omega) (by omega) ?_
   walk_at "r"
   refine s_mul_r hb1 hb2 ?_
   walk_at "r"
   refine s_ix_tup qb rfl ?_
   walk_at "r"
   rw [dec_str]
   rw [decide_eq_true (Eq.refl _)]
   walk_at "r"
   refine s_ix_tup qb rfl ?_
   walk_at "r"
   refine ⟨by show 2≤sizeLine; decide,fun ax1 hx1=>?_⟩
   have sx1:Same H5 (upd H5 ax1 (.tup [.str "num",.int ((t:Int) * start - down * ((t:Int) * ((t:Int) - 1) / 2) + i)])):=Same.upd hx1
   have ex1:upd H5 ax1 (.tup [.str "num",.int ((t:Int) * start - down * ((t:Int) * ((t:Int) - 1) / 2) + i)]) ax1=some (.tup [.str "num",.int ((t:Int) * start - down * ((t:Int) * ((t:Int) - 1) / 2) + i)]):=upd_same
   revert sx1 ex1
   generalize upd H5 ax1 (.tup [.str "num",.int ((t:Int) * start - down * ((t:Int) * ((t:Int) - 1) / 2) + i)])=Hx1
   intro sx1 ex1
   have Sx1:=S0.trans sx1
   walk_at "r"
   refine ⟨by show 2≤sizeLine; decide,fun ax2 hx2=>?_⟩
   have sx2:Same Hx1 (upd Hx1 ax2 (.tup [.ref ax1,.ref a5])):=Same.upd hx2
   have ex2:upd Hx1 ax2 (.tup [.ref ax1,.ref a5]) ax2=some (.tup [.ref ax1,.ref a5]):=upd_same
   revert sx2 ex2
   generalize upd Hx1 ax2 (.tup [.ref ax1,.ref a5])=Hx2
   intro sx2 ex2
   have Sx2:=Sx1.trans sx2
   have ex1:=sx2 _ _ ex1
   have eR:resG nf nx down (("num",.int i)) t start 1=(nm (tot down t start + (fun _=>i) (start - down * t)),[]):=sumN (g:=(fun _=>i)) (fun v k=>by
    show leafG "num" (.int i) k [0,0,1] (arV nf nx (nm v))=_
    unfold leafG; rw [if_pos (by decide +kernel)]) t start 1
   rw [eR,tot_eq] at q
   refine q _ a5 _ _ Sx2 (SqT.of ex2) ⟨rfl,_,rfl,SqT.of ex1⟩ ?_
   rw [List.append_nil]
   exact (D.same sx1).same sx2
  | name =>
   walk_at "r"
   refine s_ix_tup qb rfl ?_
   walk_at "r"
   rw [dec_str]
   rw [decide_eq_false (show ¬ ("name" : Str) = "num" by decide +kernel)]
   walk_at "r"
   refine s_ix_tup qb rfl ?_
   walk_at "r"
   rw [dec_str,decide_eq_true (Eq.refl _)]
   walk_at "r"
   refine s_mul_l (by omega) (by omega) ?_
   walk_at "r"
   refine s_mul_l (by omega) (by omega) ?_
   walk_at "r"
   refine s_mul_r hb1 hb2 ?_
   walk_at "r"
   refine s_ix_tup qb rfl ?_
   walk_at "r"
   rw [dec_str]
   rw [decide_eq_false (show ¬ ("name" : Str) = "num" by decide +kernel)]
   walk_at "r"
   refine ⟨by show 2≤sizeLine; decide,fun ax1 hx1=>?_⟩
   have sx1:Same H5 (upd H5 ax1 (.tup [.str "num",.int ((t:Int) * start - down * ((t:Int) * ((t:Int) - 1) / 2) + (start - down * (t:Int)))])):=Same.upd hx1
   have ex1:upd H5 ax1 (.tup [.str "num",.int ((t:Int) * start - down * ((t:Int) * ((t:Int) - 1) / 2) + (start - down * (t:Int)))]) ax1=some (.tup [.str "num",.int ((t:Int) * start - down * ((t:Int) * ((t:Int) - 1) / 2) + (start - down * (t:Int)))]):=upd_same
   revert sx1 ex1
   generalize upd H5 ax1 (.tup [.str "num",.int ((t:Int) * start - down * ((t:Int) * ((t:Int) - 1) / 2) + (start - down * (t:Int)))])=Hx1
   intro sx1 ex1
   have Sx1:=S0.trans sx1
   walk_at "r"
   refine ⟨by show 2≤sizeLine; decide,fun ax2 hx2=>?_⟩
   have sx2:Same Hx1 (upd Hx1 ax2 (.tup [.ref ax1,.ref a5])):=Same.upd hx2
   have ex2:upd Hx1 ax2 (.tup [.ref ax1,.ref a5]) ax2=some (.tup [.ref ax1,.ref a5]):=upd_same
   revert sx2 ex2
   generalize upd Hx1 ax2 (.tup [.ref ax1,.ref a5])=Hx2
   intro sx2 ex2
   have Sx2:=Sx1.trans sx2
   have ex1:=sx2 _ _ ex1
   have eR:resG nf nx down (("name",.str nx)) t start 1=(nm (tot down t start + (fun v=>v) (start - down * t)),[]):=sumN (g:=(fun v=>v)) (fun v k=>by
    show leafG "name" (.str nx) k [0,0,1] (arV nf nx (nm v))=_
    unfold leafG
    have e2:lookN "name" (.str nx) (arV nf nx (nm v))=some (nm v):=by
     show (if ("name" : Str) = "name" then lookA (arV nf nx (nm v)) nx else none)=some (nm v)
     rw [if_pos rfl]
     exact look_x nf nx (nm v)
    rw [if_neg (by decide +kernel),e2]) t start 1
   rw [eR,tot_eq] at q
   refine q _ a5 _ _ Sx2 (SqT.of ex2) ⟨rfl,_,rfl,SqT.of ex1⟩ ?_
   rw [List.append_nil]
   exact (D.same sx1).same sx2
  | truth b =>
   have nn:∀ v k,(leafG (("truth",.bl b):Str×V).1 (("truth",.bl b):Str×V).2 k [0,0,1] (arV nf nx (nm v))).1.1 ≠ "num" := fun v k=>by
    show (leafG "truth" (.bl b) k [0,0,1] (arV nf nx (nm v))).1.1 ≠ "num"
    unfold leafG
    rw [if_pos (by decide +kernel)]
    exact (by decide +kernel:("truth" : Str) ≠ "num")
   walk_at "r"
   refine s_ix_tup qb rfl ?_
   walk_at "r"
   rw [dec_str,decide_eq_false (show ¬ ("truth" : Str) = "num" by decide +kernel)]
   walk_at "r"
   refine s_ix_tup qb rfl ?_
   walk_at "r"
   rw [dec_str,decide_eq_false (show ¬ ("truth" : Str) = "name" by decide +kernel)]
   walk_at "r"
   refine s_ix_tup qb rfl ?_
   walk_at "r"
   refine ⟨by show 2≤sizeLine; decide,fun ax1 hx1=>?_⟩
   have sx1:Same H5 (upd H5 ax1 (.tup [.str "truth",.bl b])):=Same.upd hx1
   have ex1:upd H5 ax1 (.tup [.str "truth",.bl b]) ax1=some (.tup [.str "truth",.bl b]):=upd_same
   revert sx1 ex1
   generalize upd H5 ax1 (.tup [.str "truth",.bl b])=Hx1
   intro sx1 ex1
   have Sx1:=S0.trans sx1
   have hp:=sx1.seq hp
   have D1:=D.same sx1
   have qb1:=sx1.tup qb
   refine s_gname ?_
   with_reducible refine s_seq ?_
   refine viaS (t:=tIfS _ _ _) (R:=fun σ' H'=>∃ tv,σ'=[some (.ref p),some (.ref cb),some (.int start),some (.int down),some (.int (t:Nat)),some (.ref a5),some (.int (start - down * (t:Int))),none,some tv,none]∧Same H H'∧ThAt K H' tv (resG nf nx down ("truth",.bl b) 0 (start - down * t) 1).1∧DueAt K H' a5 ([recRow]++(resG nf nx down ("truth",.bl b) 0 (start - down * t) 1).2)) ?_ (fun Y hY=>?_)
   ·rintro _ HA ⟨tv,rfl,sA,tA,DA⟩
    walk_at "r"
    refine ⟨by omega,?_⟩
    have hn':((t:Int) - 1 - -1).toNat=t:=by omega
    rw [hn']
    refine for_down (n:=t) (fun i σ' H'=>∃ v9 tv,σ'=[some (.ref p),some (.ref cb),some (.int start),some (.int down),some (.int (t:Nat)),some (.ref a5),some (.int (start - down * (t:Int))),none,some tv,v9]∧Same H H'∧ThAt K H' tv (resG nf nx down ("truth",.bl b) i (start - down * ((t - i:Nat):Int)) 1).1∧DueAt K H' a5 ([recRow]++(resG nf nx down ("truth",.bl b) i (start - down * ((t - i:Nat):Int)) 1).2)) ⟨none,tv,rfl,sA,by rw [Nat.sub_zero]; exact tA,by rw [Nat.sub_zero]; exact DA⟩ ?_ ?_
    ·rintro i σ' HB hi ⟨v9,tv,rfl,sB,tB,DB⟩
     obtain ⟨m,em⟩:∃ m:Nat,t - (i + 1)=m:=⟨_,rfl⟩
     have hk:(t:Int) - 1 - (i:Int)=((m:Nat):Int):=by omega
     rw [hk,em]
     rw [show t - i=m + 1 by omega,mul_succ] at tB DB
     obtain ⟨_,rr⟩:=res_row (down:=down) nn i (start - down * (m:Int)) 1
     rw [show start - down * (m:Int) - down=start - (down * (m:Int) + down) by omega] at rr
     have rl:=resG_len (f:=nf) (x:=nx) (down:=down) (bs:=("truth",.bl b)) i (start - (down * (m:Int) + down)) 1
     rw [rr]
     obtain ⟨R,eR⟩:∃ R,resG nf nx down ("truth",.bl b) i (start - (down * (m:Int) + down)) 1=R:=⟨_,rfl⟩
     rw [eR] at tB DB rl ⊢
     obtain ⟨rv,er,ar⟩:=DB.ex
     have hrl:=ar.1
     rw [List.length_append,show [recRow].length=1 from rfl] at hrl
     walk_at "r"
     refine s_tyL (SqL.of er) ?_
     walk_at "r"
     refine ⟨by show 3≤sizeLine; decide,fun ay1 hy1=>?_⟩
     have sy1:Same HB (upd HB ay1 (.tup [.int 0,.int 0,.int 2])):=Same.upd hy1
     have ey1:upd HB ay1 (.tup [.int 0,.int 0,.int 2]) ay1=some (.tup [.int 0,.int 0,.int 2]):=upd_same
     revert sy1 ey1
     generalize upd HB ay1 (.tup [.int 0,.int 0,.int 2])=Hy1
     intro sy1 ey1
     have Sy1:=sy1
     walk_at "r"
     refine s_mul_r (by omega) (by omega) ?_
     walk_at "r"
     refine ⟨by show 2≤sizeLine; decide,fun ay2 hy2=>?_⟩
     have sy2:Same Hy1 (upd Hy1 ay2 (.tup [.str "num",.int (start - down * (m:Int))])):=Same.upd hy2
     have ey2:upd Hy1 ay2 (.tup [.str "num",.int (start - down * (m:Int))]) ay2=some (.tup [.str "num",.int (start - down * (m:Int))]):=upd_same
     revert sy2 ey2
     generalize upd Hy1 ay2 (.tup [.str "num",.int (start - down * (m:Int))])=Hy2
     intro sy2 ey2
     have Sy2:=Sy1.trans sy2
     have ey1:=sy2 _ _ ey1
     walk_at "r"
     refine ⟨by show 2≤sizeLine; decide,fun ay3 hy3=>?_⟩
     have sy3:Same Hy2 (upd Hy2 ay3 (.lst [.ref ay2,tv])):=Same.upd hy3
     have ey3:upd Hy2 ay3 (.lst [.ref ay2,tv]) ay3=some (.lst [.ref ay2,tv]):=upd_same
     revert sy3 ey3
     generalize upd Hy2 ay3 (.lst [.ref ay2,tv])=Hy3
     intro sy3 ey3
     have Sy3:=Sy2.trans sy3
     have ey1:=sy3 _ _ ey1
     have ey2:=sy3 _ _ ey2
     walk_at "r"
     refine ⟨by show 0≤sizeLine; decide,fun ay4 hy4=>?_⟩
     have sy4:Same Hy3 (upd Hy3 ay4 (.lst [])):=Same.upd hy4
     have ey4:upd Hy3 ay4 (.lst []) ay4=some (.lst []):=upd_same
     revert sy4 ey4
     generalize upd Hy3 ay4 (.lst [])=Hy4
     intro sy4 ey4
     have Sy4:=Sy3.trans sy4
     have ey1:=sy4 _ _ ey1
     have ey2:=sy4 _ _ ey2
     have ey3:=sy4 _ _ ey3
     walk_at "r"
     refine ⟨by show 4≤sizeLine; decide,fun ay5 hy5=>?_⟩
     have sy5:Same Hy4 (upd Hy4 ay5 (.tup [.str "plus",.ref ay1,.ref ay3,.ref ay4])):=Same.upd hy5
     have ey5:upd Hy4 ay5 (.tup [.str "plus",.ref ay1,.ref ay3,.ref ay4]) ay5=some (.tup [.str "plus",.ref ay1,.ref ay3,.ref ay4]):=upd_same
     revert sy5 ey5
     generalize upd Hy4 ay5 (.tup [.str "plus",.ref ay1,.ref ay3,.ref ay4])=Hy5
     intro sy5 ey5
     have Sy5:=Sy4.trans sy5
     have ey1:=sy5 _ _ ey1
     have ey2:=sy5 _ _ ey2
     have ey3:=sy5 _ _ ey3
     have ey4:=sy5 _ _ ey4
     have er5:=Sy5 _ _ er
     have n3:ay3≠a5:=fun z=>by rw [z,(sy1.trans sy2) _ _ er] at hy3; cases hy3
     have n4:ay4≠a5:=fun z=>by rw [z,(sy1.trans (sy2.trans sy3)) _ _ er] at hy4; cases hy4
     walk_at "r"
     refine s_app er5 (by omega) ?_
     have t5:=ThAt.same Sy5.t _ _ tB
     have D6:=DueAt.add (x:=⟨"plus",plI [0,0,2],[nm (start - down * (m:Int)),R.1],[]⟩) er5 (ar.mono (RwAt.same Sy5.a)) ⟨ay5,ay1,ay3,ay4,_,[],rfl,SqT.of ey5,SqT.of ey1,ey3,(Al.nil.snoc ⟨rfl,_,rfl,SqT.of ey2⟩).snoc t5,ey4,.nil,n3,n4⟩
     have s6:Same H (upd Hy5 a5 (.lst (rv++[.ref ay5]))):=(sB.trans Sy5).over nr
     have e6:upd Hy5 a5 (.lst (rv++[.ref ay5])) a5=some (.lst (rv++[.ref ay5])):=upd_same
     revert D6 s6 e6
     generalize upd Hy5 a5 (.lst (rv++[.ref ay5]))=H6
     intro D6 s6 e6
     walk_at "r"
     refine s_len_lst (SqL.of e6) ?_
     walk_at "r"
     refine ⟨by show 2≤sizeLine; decide,fun tt htt=>?_⟩
     have s7:=Same.upd (o:=.tup [.str "row",.int ((((rv++[V.ref ay5]).length:Nat):Int) - 1)]) htt
     refine ⟨_,.ref tt,rfl,s6.trans s7,⟨rfl,tt,rfl,?_⟩,?_⟩
     ·have e7:(((rv++[V.ref ay5]).length:Nat):Int) - 1=((1 + R.2.length:Nat):Int):=by
       rw [List.length_append,List.length_singleton,hrl]
       show (((1 + R.2.length) + 1:Nat):Int) - 1=_
       omega
      rw [e7] at *
      exact SqT.of upd_same
     ·rw [List.append_assoc] at D6
      exact D6.same s7
    ·rintro σ' HB ⟨v9,tv,rfl,sB,tB,DB⟩
     rw [Nat.sub_self,show start - down * ((0:Nat):Int)=start by simp] at tB DB
     walk_at "r"
     refine ⟨by show 2≤sizeLine; decide,fun rr hrr=>?_⟩
     have s7:Same HB (upd HB rr (.tup [tv,.ref a5])):=Same.upd hrr
     exact q rr a5 tv _ (sB.trans s7) (SqT.of upd_same) (ThAt.same s7.t _ _ tB) (DB.same s7)
   ·walk_at "r"
    refine s_ix_tup qb1 rfl ?_
    walk_at "r"
    rw [dec_str]
    rw [decide_eq_false (show ¬ ("truth" : Str) = "gap" by decide +kernel)]
    walk_at "r"
    have eR:resG nf nx down ("truth",.bl b) 0 (start - down * t) 1=(tr b,[]):=by
     show leafG "truth" (.bl b) 1 [0,0,1] (arV nf nx (nm (start - down * t)))=_
     unfold leafG
     rw [if_pos (by decide +kernel)]
    refine hY _ _ ⟨.ref ax1,rfl,Sx1,?_,?_⟩
    ·rw [eR]
     exact ⟨rfl,ax1,rfl,SqT.of ex1⟩
    ·rw [eR,List.append_nil]
     exact D1
  | gap =>
   have nn:∀ v k,(leafG (("gap",.non):Str×V).1 (("gap",.non):Str×V).2 k [0,0,1] (arV nf nx (nm v))).1.1 ≠ "num" := fun v k=>by
    show (leafG "gap" (.non) k [0,0,1] (arV nf nx (nm v))).1.1 ≠ "num"
    unfold leafG
    rw [if_neg (by decide +kernel)]
    exact (by decide +kernel:("row" : Str) ≠ "num")
   walk_at "r"
   refine s_ix_tup qb rfl ?_
   walk_at "r"
   rw [dec_str,decide_eq_false (show ¬ ("gap" : Str) = "num" by decide +kernel)]
   walk_at "r"
   refine s_ix_tup qb rfl ?_
   walk_at "r"
   rw [dec_str,decide_eq_false (show ¬ ("gap" : Str) = "name" by decide +kernel)]
   walk_at "r"
   refine s_ix_tup qb rfl ?_
   walk_at "r"
   refine ⟨by show 2≤sizeLine; decide,fun ax1 hx1=>?_⟩
   have sx1:Same H5 (upd H5 ax1 (.tup [.str "truth",.non])):=Same.upd hx1
   have ex1:upd H5 ax1 (.tup [.str "truth",.non]) ax1=some (.tup [.str "truth",.non]):=upd_same
   revert sx1 ex1
   generalize upd H5 ax1 (.tup [.str "truth",.non])=Hx1
   intro sx1 ex1
   have Sx1:=S0.trans sx1
   have hp:=sx1.seq hp
   have D1:=D.same sx1
   have qb1:=sx1.tup qb
   refine s_gname ?_
   with_reducible refine s_seq ?_
   refine viaS (t:=tIfS _ _ _) (R:=fun σ' H'=>∃ tv,σ'=[some (.ref p),some (.ref cb),some (.int start),some (.int down),some (.int (t:Nat)),some (.ref a5),some (.int (start - down * (t:Int))),none,some tv,none]∧Same H H'∧ThAt K H' tv (resG nf nx down ("gap",.non) 0 (start - down * t) 1).1∧DueAt K H' a5 ([recRow]++(resG nf nx down ("gap",.non) 0 (start - down * t) 1).2)) ?_ (fun Y hY=>?_)
   ·rintro _ HA ⟨tv,rfl,sA,tA,DA⟩
    walk_at "r"
    refine ⟨by omega,?_⟩
    have hn':((t:Int) - 1 - -1).toNat=t:=by omega
    rw [hn']
    refine for_down (n:=t) (fun i σ' H'=>∃ v9 tv,σ'=[some (.ref p),some (.ref cb),some (.int start),some (.int down),some (.int (t:Nat)),some (.ref a5),some (.int (start - down * (t:Int))),none,some tv,v9]∧Same H H'∧ThAt K H' tv (resG nf nx down ("gap",.non) i (start - down * ((t - i:Nat):Int)) 1).1∧DueAt K H' a5 ([recRow]++(resG nf nx down ("gap",.non) i (start - down * ((t - i:Nat):Int)) 1).2)) ⟨none,tv,rfl,sA,by rw [Nat.sub_zero]; exact tA,by rw [Nat.sub_zero]; exact DA⟩ ?_ ?_
    ·rintro i σ' HB hi ⟨v9,tv,rfl,sB,tB,DB⟩
     obtain ⟨m,em⟩:∃ m:Nat,t - (i + 1)=m:=⟨_,rfl⟩
     have hk:(t:Int) - 1 - (i:Int)=((m:Nat):Int):=by omega
     rw [hk,em]
     rw [show t - i=m + 1 by omega,mul_succ] at tB DB
     obtain ⟨_,rr⟩:=res_row (down:=down) nn i (start - down * (m:Int)) 1
     rw [show start - down * (m:Int) - down=start - (down * (m:Int) + down) by omega] at rr
     have rl:=resG_len (f:=nf) (x:=nx) (down:=down) (bs:=("gap",.non)) i (start - (down * (m:Int) + down)) 1
     rw [rr]
     obtain ⟨R,eR⟩:∃ R,resG nf nx down ("gap",.non) i (start - (down * (m:Int) + down)) 1=R:=⟨_,rfl⟩
     rw [eR] at tB DB rl ⊢
     obtain ⟨rv,er,ar⟩:=DB.ex
     have hrl:=ar.1
     rw [List.length_append,show [recRow].length=1 from rfl] at hrl
     walk_at "r"
     refine s_tyL (SqL.of er) ?_
     walk_at "r"
     refine ⟨by show 3≤sizeLine; decide,fun ay1 hy1=>?_⟩
     have sy1:Same HB (upd HB ay1 (.tup [.int 0,.int 0,.int 2])):=Same.upd hy1
     have ey1:upd HB ay1 (.tup [.int 0,.int 0,.int 2]) ay1=some (.tup [.int 0,.int 0,.int 2]):=upd_same
     revert sy1 ey1
     generalize upd HB ay1 (.tup [.int 0,.int 0,.int 2])=Hy1
     intro sy1 ey1
     have Sy1:=sy1
     walk_at "r"
     refine s_mul_r (by omega) (by omega) ?_
     walk_at "r"
     refine ⟨by show 2≤sizeLine; decide,fun ay2 hy2=>?_⟩
     have sy2:Same Hy1 (upd Hy1 ay2 (.tup [.str "num",.int (start - down * (m:Int))])):=Same.upd hy2
     have ey2:upd Hy1 ay2 (.tup [.str "num",.int (start - down * (m:Int))]) ay2=some (.tup [.str "num",.int (start - down * (m:Int))]):=upd_same
     revert sy2 ey2
     generalize upd Hy1 ay2 (.tup [.str "num",.int (start - down * (m:Int))])=Hy2
     intro sy2 ey2
     have Sy2:=Sy1.trans sy2
     have ey1:=sy2 _ _ ey1
     walk_at "r"
     refine ⟨by show 2≤sizeLine; decide,fun ay3 hy3=>?_⟩
     have sy3:Same Hy2 (upd Hy2 ay3 (.lst [.ref ay2,tv])):=Same.upd hy3
     have ey3:upd Hy2 ay3 (.lst [.ref ay2,tv]) ay3=some (.lst [.ref ay2,tv]):=upd_same
     revert sy3 ey3
     generalize upd Hy2 ay3 (.lst [.ref ay2,tv])=Hy3
     intro sy3 ey3
     have Sy3:=Sy2.trans sy3
     have ey1:=sy3 _ _ ey1
     have ey2:=sy3 _ _ ey2
     walk_at "r"
     refine ⟨by show 0≤sizeLine; decide,fun ay4 hy4=>?_⟩
     have sy4:Same Hy3 (upd Hy3 ay4 (.lst [])):=Same.upd hy4
     have ey4:upd Hy3 ay4 (.lst []) ay4=some (.lst []):=upd_same
     revert sy4 ey4
     generalize upd Hy3 ay4 (.lst [])=Hy4
     intro sy4 ey4
     have Sy4:=Sy3.trans sy4
     have ey1:=sy4 _ _ ey1
     have ey2:=sy4 _ _ ey2
     have ey3:=sy4 _ _ ey3
     walk_at "r"
     refine ⟨by show 4≤sizeLine; decide,fun ay5 hy5=>?_⟩
     have sy5:Same Hy4 (upd Hy4 ay5 (.tup [.str "plus",.ref ay1,.ref ay3,.ref ay4])):=Same.upd hy5
     have ey5:upd Hy4 ay5 (.tup [.str "plus",.ref ay1,.ref ay3,.ref ay4]) ay5=some (.tup [.str "plus",.ref ay1,.ref ay3,.ref ay4]):=upd_same
     revert sy5 ey5
     generalize upd Hy4 ay5 (.tup [.str "plus",.ref ay1,.ref ay3,.ref ay4])=Hy5
     intro sy5 ey5
     have Sy5:=Sy4.trans sy5
     have ey1:=sy5 _ _ ey1
     have ey2:=sy5 _ _ ey2
     have ey3:=sy5 _ _ ey3
     have ey4:=sy5 _ _ ey4
     have er5:=Sy5 _ _ er
     have n3:ay3≠a5:=fun z=>by rw [z,(sy1.trans sy2) _ _ er] at hy3; cases hy3
     have n4:ay4≠a5:=fun z=>by rw [z,(sy1.trans (sy2.trans sy3)) _ _ er] at hy4; cases hy4
     walk_at "r"
     refine s_app er5 (by omega) ?_
     have t5:=ThAt.same Sy5.t _ _ tB
     have D6:=DueAt.add (x:=⟨"plus",plI [0,0,2],[nm (start - down * (m:Int)),R.1],[]⟩) er5 (ar.mono (RwAt.same Sy5.a)) ⟨ay5,ay1,ay3,ay4,_,[],rfl,SqT.of ey5,SqT.of ey1,ey3,(Al.nil.snoc ⟨rfl,_,rfl,SqT.of ey2⟩).snoc t5,ey4,.nil,n3,n4⟩
     have s6:Same H (upd Hy5 a5 (.lst (rv++[.ref ay5]))):=(sB.trans Sy5).over nr
     have e6:upd Hy5 a5 (.lst (rv++[.ref ay5])) a5=some (.lst (rv++[.ref ay5])):=upd_same
     revert D6 s6 e6
     generalize upd Hy5 a5 (.lst (rv++[.ref ay5]))=H6
     intro D6 s6 e6
     walk_at "r"
     refine s_len_lst (SqL.of e6) ?_
     walk_at "r"
     refine ⟨by show 2≤sizeLine; decide,fun tt htt=>?_⟩
     have s7:=Same.upd (o:=.tup [.str "row",.int ((((rv++[V.ref ay5]).length:Nat):Int) - 1)]) htt
     refine ⟨_,.ref tt,rfl,s6.trans s7,⟨rfl,tt,rfl,?_⟩,?_⟩
     ·have e7:(((rv++[V.ref ay5]).length:Nat):Int) - 1=((1 + R.2.length:Nat):Int):=by
       rw [List.length_append,List.length_singleton,hrl]
       show (((1 + R.2.length) + 1:Nat):Int) - 1=_
       omega
      rw [e7] at *
      exact SqT.of upd_same
     ·rw [List.append_assoc] at D6
      exact D6.same s7
    ·rintro σ' HB ⟨v9,tv,rfl,sB,tB,DB⟩
     rw [Nat.sub_self,show start - down * ((0:Nat):Int)=start by simp] at tB DB
     walk_at "r"
     refine ⟨by show 2≤sizeLine; decide,fun rr hrr=>?_⟩
     have s7:Same HB (upd HB rr (.tup [tv,.ref a5])):=Same.upd hrr
     exact q rr a5 tv _ (sB.trans s7) (SqT.of upd_same) (ThAt.same s7.t _ _ tB) (DB.same s7)
   ·walk_at "r"
    refine s_ix_tup qb1 rfl ?_
    walk_at "r"
    rw [dec_str]
    rw [decide_eq_true (Eq.refl _)]
    obtain ⟨rv,er,ar⟩:=D1.ex
    have hrl:=ar.1
    walk_at "r"
    refine s_tyL (SqL.of er) ?_
    walk_at "r"
    refine ⟨by show 3≤sizeLine; decide,fun az1 hz1=>?_⟩
    have sz1:Same Hx1 (upd Hx1 az1 (.tup [.int 0,.int 0,.int 1])):=Same.upd hz1
    have ez1:upd Hx1 az1 (.tup [.int 0,.int 0,.int 1]) az1=some (.tup [.int 0,.int 0,.int 1]):=upd_same
    revert sz1 ez1
    generalize upd Hx1 az1 (.tup [.int 0,.int 0,.int 1])=Hz1
    intro sz1 ez1
    have Sz1:=Sx1.trans sz1
    have hp:=sz1.seq hp
    walk_at "r"
    refine ⟨by show 0≤sizeLine; decide,fun az2 hz2=>?_⟩
    have sz2:Same Hz1 (upd Hz1 az2 (.lst [])):=Same.upd hz2
    have ez2:upd Hz1 az2 (.lst []) az2=some (.lst []):=upd_same
    revert sz2 ez2
    generalize upd Hz1 az2 (.lst [])=Hz2
    intro sz2 ez2
    have Sz2:=Sz1.trans sz2
    have hp:=sz2.seq hp
    have ez1:=sz2 _ _ ez1
    walk_at "r"
    refine s_ix_lst hp (atI_nat (j:=0) rfl) ?_
    walk_at "r"
    refine ⟨by show 2≤sizeLine; decide,fun az3 hz3=>?_⟩
    have sz3:Same Hz2 (upd Hz2 az3 (.tup [.str "row",.int 0])):=Same.upd hz3
    have ez3:upd Hz2 az3 (.tup [.str "row",.int 0]) az3=some (.tup [.str "row",.int 0]):=upd_same
    revert sz3 ez3
    generalize upd Hz2 az3 (.tup [.str "row",.int 0])=Hz3
    intro sz3 ez3
    have Sz3:=Sz2.trans sz3
    have hp:=sz3.seq hp
    have ez1:=sz3 _ _ ez1
    have ez2:=sz3 _ _ ez2
    walk_at "r"
    refine ⟨by show 2≤sizeLine; decide,fun az4 hz4=>?_⟩
    have sz4:Same Hz3 (upd Hz3 az4 (.tup [.str nf,.ref az3])):=Same.upd hz4
    have ez4:upd Hz3 az4 (.tup [.str nf,.ref az3]) az4=some (.tup [.str nf,.ref az3]):=upd_same
    revert sz4 ez4
    generalize upd Hz3 az4 (.tup [.str nf,.ref az3])=Hz4
    intro sz4 ez4
    have Sz4:=Sz3.trans sz4
    have hp:=sz4.seq hp
    have ez1:=sz4 _ _ ez1
    have ez2:=sz4 _ _ ez2
    have ez3:=sz4 _ _ ez3
    walk_at "r"
    refine s_ix_lst hp (atI_nat (j:=1) rfl) ?_
    walk_at "r"
    refine ⟨by show 2≤sizeLine; decide,fun az5 hz5=>?_⟩
    have sz5:Same Hz4 (upd Hz4 az5 (.tup [.str "num",.int (start - down * (t:Int))])):=Same.upd hz5
    have ez5:upd Hz4 az5 (.tup [.str "num",.int (start - down * (t:Int))]) az5=some (.tup [.str "num",.int (start - down * (t:Int))]):=upd_same
    revert sz5 ez5
    generalize upd Hz4 az5 (.tup [.str "num",.int (start - down * (t:Int))])=Hz5
    intro sz5 ez5
    have Sz5:=Sz4.trans sz5
    have hp:=sz5.seq hp
    have ez1:=sz5 _ _ ez1
    have ez2:=sz5 _ _ ez2
    have ez3:=sz5 _ _ ez3
    have ez4:=sz5 _ _ ez4
    walk_at "r"
    refine ⟨by show 2≤sizeLine; decide,fun az6 hz6=>?_⟩
    have sz6:Same Hz5 (upd Hz5 az6 (.tup [.str nx,.ref az5])):=Same.upd hz6
    have ez6:upd Hz5 az6 (.tup [.str nx,.ref az5]) az6=some (.tup [.str nx,.ref az5]):=upd_same
    revert sz6 ez6
    generalize upd Hz5 az6 (.tup [.str nx,.ref az5])=Hz6
    intro sz6 ez6
    have Sz6:=Sz5.trans sz6
    have hp:=sz6.seq hp
    have ez1:=sz6 _ _ ez1
    have ez2:=sz6 _ _ ez2
    have ez3:=sz6 _ _ ez3
    have ez4:=sz6 _ _ ez4
    have ez5:=sz6 _ _ ez5
    walk_at "r"
    refine ⟨by show 2≤sizeLine; decide,fun az7 hz7=>?_⟩
    have sz7:Same Hz6 (upd Hz6 az7 (.lst [.ref az4,.ref az6])):=Same.upd hz7
    have ez7:upd Hz6 az7 (.lst [.ref az4,.ref az6]) az7=some (.lst [.ref az4,.ref az6]):=upd_same
    revert sz7 ez7
    generalize upd Hz6 az7 (.lst [.ref az4,.ref az6])=Hz7
    intro sz7 ez7
    have Sz7:=Sz6.trans sz7
    have hp:=sz7.seq hp
    have ez1:=sz7 _ _ ez1
    have ez2:=sz7 _ _ ez2
    have ez3:=sz7 _ _ ez3
    have ez4:=sz7 _ _ ez4
    have ez5:=sz7 _ _ ez5
    have ez6:=sz7 _ _ ez6
    walk_at "r"
    refine ⟨by show 4≤sizeLine; decide,fun az8 hz8=>?_⟩
    have sz8:Same Hz7 (upd Hz7 az8 (.tup [.str "gap",.ref az1,.ref az2,.ref az7])):=Same.upd hz8
    have ez8:upd Hz7 az8 (.tup [.str "gap",.ref az1,.ref az2,.ref az7]) az8=some (.tup [.str "gap",.ref az1,.ref az2,.ref az7]):=upd_same
    revert sz8 ez8
    generalize upd Hz7 az8 (.tup [.str "gap",.ref az1,.ref az2,.ref az7])=Hz8
    intro sz8 ez8
    have Sz8:=Sz7.trans sz8
    have hp:=sz8.seq hp
    have ez1:=sz8 _ _ ez1
    have ez2:=sz8 _ _ ez2
    have ez3:=sz8 _ _ ez3
    have ez4:=sz8 _ _ ez4
    have ez5:=sz8 _ _ ez5
    have ez6:=sz8 _ _ ez6
    have ez7:=sz8 _ _ ez7
    have sz:=sz1.trans (sz2.trans (sz3.trans (sz4.trans (sz5.trans (sz6.trans (sz7.trans sz8))))))
    have er8:=sz _ _ er
    have n2:az2≠a5:=fun z=>by rw [z,sz1 _ _ er] at hz2; cases hz2
    have n7:az7≠a5:=fun z=>by rw [z,(sz1.trans (sz2.trans (sz3.trans (sz4.trans (sz5.trans sz6))))) _ _ er] at hz7; cases hz7
    walk_at "r"
    refine s_app er8 (by rw [hrl]; show 1 + 1≤_; omega) ?_
    have D6:=DueAt.add (x:=⟨"gap",plI [0,0,1],[],arV nf nx (nm (start - down * (t:Int)))⟩) er8 (ar.mono (RwAt.same sz.a)) ⟨az8,az1,az2,az7,[],_,rfl,SqT.of ez8,SqT.of ez1,ez2,.nil,ez7,(Al.nil.snoc ⟨az4,_,rfl,SqT.of ez4,rfl,az3,rfl,SqT.of ez3⟩).snoc ⟨az6,_,rfl,SqT.of ez6,rfl,az5,rfl,SqT.of ez5⟩,n2,n7⟩
    have s6:Same H (upd Hz8 a5 (.lst (rv++[.ref az8]))):=Sz8.over nr
    revert D6 s6
    generalize upd Hz8 a5 (.lst (rv++[.ref az8]))=H6
    intro D6 s6
    walk_at "r"
    refine ⟨by show 2≤sizeLine; decide,fun tt htt=>?_⟩
    have s7:=Same.upd (o:=.tup [.str "row",.int 1]) htt
    have eR:resG nf nx down ("gap",.non) 0 (start - down * t) 1=(rwN 1,[⟨"gap",plI [0,0,1],[],arV nf nx (nm (start - down * (t:Int)))⟩]):=by
     show leafG "gap" .non 1 [0,0,1] (arV nf nx (nm (start - down * t)))=_
     unfold leafG
     rw [if_neg (by decide +kernel)]
     rfl
    refine hY _ _ ⟨.ref tt,rfl,s6.trans s7,?_,?_⟩
    ·rw [eR]
     exact ⟨rfl,tt,rfl,SqT.of upd_same⟩
    ·rw [eR]
     exact D6.same s7
structure TLc (K:W.Frag) (TL GE TB ND:Addr):Prop where
 s:W.subIn K (.ref TL) (.ref GE)=some true
 k:W.kitOne K (.ref TL) (.ref TL)=some true
 v:W.kitOne K (.ref TL) (.type "ValueError")=some true
 n:W.kitAny K (.ref TL) [.ref TB,.ref ND]=some false
 x:ExN K TL
noncomputable def sp_runX (K:W.Frag) (TL:Addr):Sp:=fun vs H Q E=>sp_run K vs H Q E∨sp_runL K TL vs H Q E
noncomputable def sp_late (K:W.Frag):Sp:=fun vs H Q _=>∃ (tv:V) (t:Tr) (n:Nat),vs=[tv]∧TrAt K H tv t∧t.size≤2000∧RunL (subW t) n ⟨[],[⟨[],[],false⟩],[],0⟩∧∀ H',Q (.bl true) H'
theorem sc_law_late:FnScope ["_law_tree_here", "_law_late_here", "e"] ["_law_tree_here"] (defScope s_law_late):=⟨rfl,rfl,rfl,by decide +kernel,rfl,by decide +kernel,by decide +kernel⟩
theorem ok_late {GE N_TooBig N_NoDeed N_TooLong:Addr} {f:Addr} {fd:FuncData} (F:Fun K "_law_late" "_law_late" s_law_late f fd) (T:Txt K mg) (C_run:CalleeX P w K mg base 7 "run" ["tree"] (sp_runX K N_TooLong)) (X_GapError:ExcC K GE) (G_GapError:mg "GapError" = some (.ref GE)) (G_TooLong:mg "TooLong" = some (.ref N_TooLong)) (G_TooBig:mg "TooBig" = some (.ref N_TooBig)) (G_NoDeed:mg "NoDeed" = some (.ref N_NoDeed)) (O:TLc K N_TooLong GE N_TooBig N_NoDeed):FnOk P w K mg base CX0 8 f fd ["_law_tree_here"] (sp_late K):=by
 refine F.okq sc_law_late (fun vs H Q E h=>?_) (fun cdv A outer s H vs Q E hr h=>?_)
 ·obtain ⟨tv,t,n,rfl,_⟩:=h
  rfl
 ·obtain ⟨tv,t,n,rfl,ht,hz,R,q⟩:=h
  refine ⟨_,qss_cons (qs_set (i:=1) sc_law_late.nd rfl (Or.inl rfl) (qe_bl))
   (qss_cons (qs_try (i:=2) sc_law_late.nd rfl rfl X_GapError G_GapError rfl rfl (qxs_expr (qx_fn C_run (hr.mono (by decide)) (fun _=>qa_cons (qv 0) qa_nil))) (fun _ _=>qss_one (qs_set (i:=1) sc_law_late.nd rfl (Or.inl rfl) (qe_and (qe_callB (k_isY (K:=K)) (by rfl) T.isinstance (by decide +kernel) (qa_cons (qv 2) (qa_cons (qe_glob (v:=.ref N_TooLong) (by rfl) G_TooLong rfl) qa_nil))) (qe_and (qe_callB (k_isYT (K:=K) "ValueError") (by rfl) T.isinstance (by decide +kernel) (qa_cons (qv 2) (qa_cons (qe_bltn (v:=.ty "ValueError") (by rfl) T.ValueError (by decide +kernel) rfl) qa_nil))) (qe_one (qe_not (qe_callB (k_isZ (K:=K)) (by rfl) T.isinstance (by decide +kernel) (qa_cons (qv 2) (qa_cons (qe_tup (qa_cons (qe_glob (v:=.ref N_TooBig) (by rfl) G_TooBig rfl) (qa_cons (qe_glob (v:=.ref N_NoDeed) (by rfl) G_NoDeed rfl) (qa_nil)))) qa_nil))))))))))
   (qss_one (qs_ret (qv 1)))),?_⟩
  walk_at "r"
  refine ⟨tv,rfl,?_⟩
  refine .inr ⟨tv,t,n,rfl,ht,hz,R,fun H' s'=>⟨⟨N_TooLong,rfl,O.s⟩,fun a1 ha1=>?_⟩⟩
  have e1:upd H' a1 (exk a1 (.ref N_TooLong) none) a1=some (exk a1 (.ref N_TooLong) none):=upd_same
  revert e1
  generalize upd H' a1 (exk a1 (.ref N_TooLong) none)=H1
  intro e1
  walk_at "r"
  refine ⟨a1,_,_,none,_,rfl,e1,(fun d hd=>nomatch hd),O.x,O.k,?_⟩
  walk_at "r"
  refine ⟨a1,_,none,_,rfl,e1,(fun d hd=>nomatch hd),O.x,O.v,?_⟩
  walk_at "r"
  refine ⟨by show 2≤sizeLine; decide,fun p hp=>?_⟩
  walk_at "r"
  refine ⟨a1,p,_,none,_,[N_TooBig,N_NoDeed],rfl,SqT.of upd_same,Same.upd hp _ _ e1,(fun d hd=>nomatch hd),O.x,O.n,?_⟩
  walk_at "r"
  dsimp only [Ends.gone]
  walk_at "r"
  exact q _
noncomputable def recD (x:Str×V) (rs:List Rx) (n:Int):Dt:=.tup [thD x,.lst (rs.map rzD),.flat (.int n)]
theorem rec_isD {K:W.Frag} {H:Hp} {A:Addr→Prop} {r rd:Addr} {av:V} {rv:List V} {x:Str×V} {rs:List Rx} {n:Int} (q:SqT K H r [av,.ref rd,.int n]) (hx:ThAt K H av x) (hr:H rd=some (.lst rv)) (al:Al (RwAt K A H) rv rs):IsD K H 6 (.ref r) (recD x rs n):=by
 refine .tup q rfl fun j v d h1 h2=>?_
 match j,h1,h2 with
 | 0,h1,h2=>cases h1; cases h2; exact (ThAt.d hx).up (by decide)
 | 1,h1,h2=>cases h1; cases h2; exact Al.lstD al (SqL.of hr) fun v x h=>RwAt.d h
 | 2,h1,h2=>cases h1; cases h2; exact .flat rfl
theorem stp_eq (w:Str):(if (!decide (V.str w=V.str "gap"))=true then (1:Int) else 0)=stp w:=by
 unfold stp
 by_cases h:w = "gap"
 ·subst h; simp
 ·have:¬ V.str w=V.str "gap" := fun x=>h (V.str.inj x)
  simp [h,this]
theorem hand_size (start:Int):∀ m,(handT start m).size=2 * m + 1
 | 0=>rfl
 | m + 1=>by
  have:=hand_size start m
  simp [handT,twoT,numT,leafT,Tr.size,sizes,this]
  omega
theorem whole_size (f x:Str) (limit down start:Int) (bs:Str×V) (m:Nat):(wholeT f x limit down start bs m).size=2 * m + 15:=by
 simp [wholeT,twoT,recTr,bodyT,nameT,numT,leafT,Tr.size,sizes,hand_size]
 omega
theorem letsT_size (x:Str) (b:Tr):∀ n,(letsT x b n).size=2 * n + b.size
 | 0=>by simp [letsT]
 | n + 1=>by
  have:=letsT_size x b n
  simp [letsT,leafT,Tr.size,sizes,this]
  omega
theorem end_size (f x:Str) (n:Nat):(endT f x n).size=2 * n + 6:=by
 simp [endT,twoT,recTr,nameT,numT,leafT,Tr.size,sizes,letsT_size]
 omega
theorem leafG_okr (bs:Str×V) (k:Nat) (f x:Str) (v:Int):∀ y∈(leafG bs.1 bs.2 k [0,0,1] (arV f x (nm v))).2,y.Ok:=by
 unfold leafG
 split
 ·intro y hy; exact nomatch hy
 ·split
  ·intro y hy; exact nomatch hy
  ·intro y hy
   rw [List.mem_singleton.mp hy]
   refine ⟨by show 3≤5000; decide,by show 0≤5000; decide,?_⟩
   show (if bs.1 = "gap" then arV f x (nm v) else []).length≤5000
   split
   ·show 2≤5000; decide
   ·show 0≤5000; decide
theorem res_ok0 {f x:Str} {down:Int} {bs:Str×V}:∀ (t:Nat) (v:Int) (k:Nat),∀ y∈(resG f x down bs t v k).2,y.Ok
 | 0,v,k=>leafG_okr bs k f x v
 | t + 1,v,k=>by
  intro y hy
  rcases List.mem_append.mp (show y∈_++_ from hy) with hy | hy
  ·exact res_ok0 t _ k y hy
  ·unfold joinR at hy
   split at hy
   ·exact nomatch hy
   ·rw [List.mem_singleton.mp hy]
    exact ⟨by show 3≤5000; decide,by show 2≤5000; decide,by show 0≤5000; decide⟩
theorem res_ok {f x:Str} {down:Int} {bs:Str×V} (t:Nat) (v:Int) (k:Nat):∀ y∈[(⟨"rec",plI [0],[],[]⟩:Rx)]++(resG f x down bs t v k).2,y.Ok:=by
 intro y hy
 rcases List.mem_append.mp hy with hy | hy
 ·rw [List.mem_singleton.mp hy]
  exact ⟨by show 1≤5000; decide,by show 0≤5000; decide,by show 0≤5000; decide⟩
 ·exact res_ok0 t v k y hy
noncomputable def sp_law (K:W.Frag):Sp:=fun vs H Q _=>∃ (a:Addr) (ns:List Int),vs=[.ref a]∧SqL K H a (ns.map V.int)∧ns.length≤63∧∀ H',Q (.bl true) H'
theorem sc_law:FnScope ["_law_script", "_law_names_here", "_law_limit", "_law_down", "_law_times", "_law_more", "_law_other", "_law_start", "_law_cell_here", "_law_base", "_law_handed", "_law_k", "_law_tree_here", "_law_steps", "_law_found", "_law_late_here", "_law_answer", "_law_rows"] ["_law_script"] (defScope s_law):=⟨rfl,rfl,rfl,by decide +kernel,rfl,by decide +kernel,by decide +kernel⟩
theorem ok_law {N_TooLong:Addr} {f:Addr} {fd:FuncData} (F:Fun K "law" "law" s_law f fd) (T:Txt K mg) (C__law_cell:Callee P w K mg base 1 "_law_cell" ["_law_script", "_law_k"] (sp_cell K)) (C__law_mixed:Callee P w K mg base 1 "_law_mixed" ["_law_cell_here", "_law_k"] sp_mixed) (C__law_names:Callee P w K mg base 2 "_law_names" ["_law_cell_here", "_law_many"] sp_names) (C__law_small:Callee P w K mg base 1 "_law_small" ["_law_cell_here", "_law_many"] sp_small) (C__law_tree:Callee P w K mg base 1 "_law_tree" ["_law_names_here", "_law_limit", "_law_base", "_law_down"] (sp_ltree K)) (C__law_endless:Callee P w K mg base 1 "_law_endless" ["_law_names_here", "_law_many"] (sp_endl K)) (C__law_due:Callee P w K mg base 1 "_law_due" ["_law_names_here", "_law_base", "_law_start", "_law_down", "_law_times"] (sp_due K))
  (C_run:CalleeX P w K mg base 7 "run" ["tree"] (sp_runX K N_TooLong)) (C__law_late:Callee P w K mg base 8 "_law_late" ["_law_tree_here"] (sp_late K)) (X_TooLong:ExcC K N_TooLong) (G_TooLong:mg "TooLong" = some (.ref N_TooLong)) (hsub:W.subIn K (.ref N_TooLong) (.ref N_TooLong)=some true) (C__law_same:Callee P w K mg base 9 "_law_same" ["_law_found", "_law_due_here"] (sp_same K 8)):FnOk P w K mg base CX0 10 f fd ["_law_script"] (sp_law K):=by
 refine F.okq sc_law (fun vs H Q E h=>?_) (fun cdv A outer s H vs Q E hr h=>?_)
 ·obtain ⟨a,ns,rfl,_⟩:=h
  rfl
 ·obtain ⟨a,ns,rfl,hS,hn,q⟩:=h
  have S:Script K H a:=⟨ns,hS,hn⟩
  refine ⟨_,qss_cons (qs_set (i:=1) sc_law.nd rfl (Or.inl rfl) (qe_fn C__law_names (hr.mono (by decide)) (qa_cons (qe_fn C__law_cell (hr.mono (by decide)) (qa_cons (qv 0) (qa_cons (qe_int) qa_nil))) (qa_cons (qe_int) qa_nil))))
   (qss_cons (qs_set (i:=2) sc_law.nd rfl (Or.inl rfl) (qe_fn C__law_small (hr.mono (by decide)) (qa_cons (qe_fn C__law_cell (hr.mono (by decide)) (qa_cons (qv 0) (qa_cons (qe_int) qa_nil))) (qa_cons (qe_op op_pow (qe_int) (qe_int)) qa_nil))))
   (qss_cons (qs_set (i:=3) sc_law.nd rfl (Or.inl rfl) (qe_fn C__law_small (hr.mono (by decide)) (qa_cons (qe_fn C__law_cell (hr.mono (by decide)) (qa_cons (qv 0) (qa_cons (qe_int) qa_nil))) (qa_cons (qe_op op_pow (qe_int) (qe_int)) qa_nil))))
   (qss_cons (qs_set (i:=4) sc_law.nd rfl (Or.inl rfl) (qe_op op_mod (qe_fn C__law_cell (hr.mono (by decide)) (qa_cons (qv 0) (qa_cons (qe_int) qa_nil))) (qe_int)))
   (qss_cons (qs_set (i:=5) sc_law.nd rfl (Or.inl rfl) (qe_callB (call_max2 rfl) (by rfl) T.max (by decide +kernel) (qa_cons (qe_int) (qa_cons (qe_op op_sub (qe_op op_mod (qe_fn C__law_cell (hr.mono (by decide)) (qa_cons (qv 0) (qa_cons (qe_int) qa_nil))) (qe_int)) (qe_int)) qa_nil))))
   (qss_cons (qs_set (i:=6) sc_law.nd rfl (Or.inl rfl) (qe_fn C__law_mixed (hr.mono (by decide)) (qa_cons (qe_fn C__law_cell (hr.mono (by decide)) (qa_cons (qv 0) (qa_cons (qe_int) qa_nil))) (qa_cons (qe_int) qa_nil))))
   (qss_cons (qs_if (qt_cmpR (k_eq K hr.u200) (qe_op op_mod (qv 6) (qe_int)) (qe_int) (nomark _)) (qss_cons (qs_set (i:=4) sc_law.nd rfl (Or.inl rfl) (qe_ix (k_ix K) (qe_lst (qa_cons (qe_int) (qa_cons (qe_int) (qa_cons (qe_int) (qa_cons (qe_op op_sub (qe_int) (qe_op op_mod (qe_op op_fdiv (qv 6) (qe_int)) (qe_int))) qa_nil))))) (qe_op op_mod (qe_op op_fdiv (qv 6) (qe_int)) (qe_int)) (fun _ _=>rfl)))
   (qss_one (qs_set (i:=5) sc_law.nd rfl (Or.inl rfl) (qe_op (k_add K) (qe_int) (qe_op op_mod (qe_fn C__law_cell (hr.mono (by decide)) (qa_cons (qv 0) (qa_cons (qe_int) qa_nil))) (qe_int)))))) (qss_nil))
   (qss_cons (qs_set (i:=7) sc_law.nd rfl (Or.inl rfl) (qe_op op_mod (qe_fn C__law_cell (hr.mono (by decide)) (qa_cons (qv 0) (qa_cons (qe_int) qa_nil))) (qv 2)))
   (qss_cons (qs_if (qt_cmpR op_gt (qv 4) (qe_int) (nomark _)) (qss_one (qs_set (i:=7) sc_law.nd rfl (Or.inl rfl) (qe_op (k_add K) (qe_op (k_add K) (qv 2) (qe_op op_mulA (qv 3) (qe_op op_sub (qv 4) (qe_int)))) (qe_op op_mod (qe_fn C__law_cell (hr.mono (by decide)) (qa_cons (qv 0) (qa_cons (qe_int) qa_nil))) (qv 3))))) (qss_nil))
   (qss_cons (qs_set (i:=8) sc_law.nd rfl (Or.inl rfl) (qe_fn C__law_cell (hr.mono (by decide)) (qa_cons (qv 0) (qa_cons (qe_int) qa_nil))))
   (qss_cons (qs_set (i:=9) sc_law.nd rfl (Or.inl rfl) (qe_ix (k_ix K) (qe_lst (qa_cons (qe_tup (qa_cons (qe_str) (qa_cons (qe_op op_mod (qe_op op_fdiv (qv 8) (qe_int)) (qe_op op_pow (qe_int) (qe_int))) (qa_cons (qe_tup (qa_nil)) qa_nil)))) (qa_cons (qe_tup (qa_cons (qe_str) (qa_cons (qe_non) (qa_cons (qe_tup (qa_nil)) qa_nil)))) (qa_cons (qe_tup (qa_cons (qe_str) (qa_cons (qe_cmpR (k_eq K hr.u200) (qe_op op_mod (qe_op op_fdiv (qv 8) (qe_int)) (qe_int)) (qe_int) (nomark _)) (qa_cons (qe_tup (qa_nil)) qa_nil)))) (qa_cons (qe_tup (qa_cons (qe_str) (qa_cons (qe_ix (k_ix K) (qv 1) (qe_int) (fun _ _=>rfl)) (qa_cons (qe_tup (qa_nil)) qa_nil)))) (qa_cons (qe_tup (qa_cons (qe_str) (qa_cons (qe_non) (qa_cons (qe_tup (qa_nil)) qa_nil)))) qa_nil)))))) (qe_op op_mod (qv 8) (qe_int)) (fun _ _=>rfl)))
   (qss_cons (qs_set (i:=10) sc_law.nd rfl (Or.inl rfl) (qe_tup (qa_cons (qe_str) (qa_cons (qv 7) (qa_cons (qe_tup (qa_nil)) qa_nil)))))
   (qss_cons (qs_for PassesOwn.never rfl (qi_range1 rfl T.range (qa_cons (qv 5) qa_nil)) (qg_name (i:=11) sc_law.nd rfl (Or.inl rfl)) (qss_one (qs_set (i:=10) sc_law.nd rfl (Or.inl rfl) (qe_tup (qa_cons (qe_str) (qa_cons (qe_non) (qa_cons (qe_tup (qa_cons (qv 10) (qa_cons (qe_tup (qa_cons (qe_str) (qa_cons (qe_int) (qa_cons (qe_tup (qa_nil)) qa_nil)))) qa_nil))) qa_nil)))))))
   (qss_cons (qs_set (i:=12) sc_law.nd rfl (Or.inl rfl) (qe_tup (qa_cons (qe_str) (qa_cons (qe_non) (qa_cons (qe_tup (qa_cons (qe_fn C__law_tree (hr.mono (by decide)) (qa_cons (qv 1) (qa_cons (qv 2) (qa_cons (qv 9) (qa_cons (qv 3) qa_nil))))) (qa_cons (qv 10) qa_nil))) qa_nil)))))
   (qss_cons (qs_set (i:=13) sc_law.nd rfl (Or.inl rfl) (qe_op (k_add K) (qe_op (k_add K) (qe_op (k_add K) (qe_int) (qe_op op_mulA (qe_int) (qv 4))) (qe_op op_mulA (qe_int) (qv 5))) (qe_callTy k_int (by rfl) T.int (by decide +kernel) (qa_cons (qe_cmpR (k_ne K hr.u200) (qe_ix (k_ix K) (qv 9) (qe_int) (fun _ _=>rfl)) (qe_str) (nomark _)) qa_nil))))
   (qss_cons (qs_if (qt_cmpR (k_eq K hr.u200) (qe_op op_mod (qe_op op_fdiv (qv 6) (qe_int)) (qe_int)) (qe_int) (nomark _)) (qss_cons (qs_set (i:=12) sc_law.nd rfl (Or.inl rfl) (qe_fn C__law_endless (hr.mono (by decide)) (qa_cons (qv 1) (qa_cons (qe_op op_mod (qe_op op_fdiv (qv 6) (qe_int)) (qe_int)) qa_nil))))
   (qss_one (qs_set (i:=13) sc_law.nd rfl (Or.inl rfl) (qe_int)))) (qss_nil))
   (qss_cons (qs_set (i:=14) sc_law.nd rfl (Or.inl rfl) (qe_non))
   (qss_cons (qs_set (i:=15) sc_law.nd rfl (Or.inl rfl) (qe_bl))
   (qss_cons (qs_try0 X_TooLong G_TooLong rfl rfl (qxs_set (i:=14) sc_law.nd rfl (Or.inl rfl) (qx_fn C_run (hr.mono (by decide)) (fun _=>qa_cons (qv 12) qa_nil))) (fun _ _=>qss_one (qs_set (i:=15) sc_law.nd rfl (Or.inl rfl) (qe_bl))))
   (qss_cons (qs_if (QW.qt (qw_or (qt_cmpR op_gt (qv 13) (qe_int) (nomark _)) (qw_or1 (qt_truthK K (qv 15) (by intro _; rfl))))) (qss_one (qs_ret (qe_and (qv 15) (qe_and (qe_cmpR op_gt (qv 13) (qe_int) (nomark _)) (qe_one (qe_fn C__law_late (hr.mono (by decide)) (qa_cons (qv 12) qa_nil))))))) (qss_nil))
   (qss_cons (qs_asg (qe_fn C__law_due (hr.mono (by decide)) (qa_cons (qv 1) (qa_cons (qv 9) (qa_cons (qv 7) (qa_cons (qv 3) (qa_cons (qv 4) qa_nil)))))) (qg_tupK K (n:=2) rfl (qgs_cons (qg_name (i:=16) sc_law.nd rfl (Or.inl rfl)) (qgs_cons (qg_name (i:=17) sc_law.nd rfl (Or.inl rfl)) (qgs_nil)))))
   (qss_one (qs_ret (qe_fn C__law_same (hr.mono (by decide)) (qa_cons (qv 14) (qa_cons (qe_tup (qa_cons (qv 16) (qa_cons (qv 17) (qa_cons (qv 13) qa_nil)))) qa_nil))))))))))))))))))))))))),?_⟩
  have bg:=big
  walk_at "r"
  refine ⟨a,1,rfl,S,by decide,by decide,fun z1=>?_⟩
  walk_at "r"
  refine ⟨z1,rfl,fun pn nf nx H1 s1 _ hfx hpn=>?_⟩
  have S1:=S.same s1
  walk_at "r"
  refine ⟨a,2,rfl,S1,by decide,by decide,fun z2=>?_⟩
  walk_at "r"
  refine ⟨z2,_,rfl,by decide,fun limit hlim=>?_⟩
  walk_at "r"
  refine ⟨a,3,rfl,S1,by decide,by decide,fun z3=>?_⟩
  walk_at "r"
  refine ⟨z3,_,rfl,by decide,fun down hdown=>?_⟩
  walk_at "r"
  refine ⟨a,0,rfl,S1,by decide,by decide,fun z4=>?_⟩
  walk_at "r"
  refine ⟨a,6,rfl,S1,by decide,by decide,fun z5=>?_⟩
  walk_at "r"
  refine ⟨0,_,rfl,?_⟩
  walk_at "r"
  refine ⟨a,0,rfl,S1,by decide,by decide,fun z6=>?_⟩
  walk_at "r"
  refine ⟨z6,0,rfl,by decide,by decide,fun o ho0 ho1=>?_⟩
  refine s_gname ?_
  with_reducible refine s_seq ?_
  refine viaS (t:=tIfS _ _ _) (R:=fun σ' H'=>∃ t m:Nat,t≤50∧m≤8∧σ'=[some (.ref a),some (.ref pn),some (.int limit),some (.int down),some (.int (t:Nat)),some (.int (m:Nat)),some (.int o),none,none,none,none,none,none,none,none,none,none,none]∧Same H1 H') ?_ (fun Y hY=>?_)
  ·rintro _ H2 ⟨t,m,ht,hm,rfl,s2⟩
   have S2:=S1.same s2
   have hpn2:=s2 _ _ hpn
   clear S1 hpn s2
   walk_at "r"
   refine ⟨a,4,rfl,S2,by decide,by decide,fun z8=>?_⟩
   walk_at "r"
   refine s_rI hlim ?_
   refine s_gname ?_
   with_reducible refine s_seq ?_
   refine viaS (t:=tIfS _ _ _) (R:=fun σ' H'=>∃ start:Int,σ'=[some (.ref a),some (.ref pn),some (.int limit),some (.int down),some (.int (t:Nat)),some (.int (m:Nat)),some (.int o),some (.int start),none,none,none,none,none,none,none,none,none,none]∧(∀ k:Nat,k < t→limit≤start - down * k)∧start - down * t < limit∧Same H2 H') ?_ (fun Y hY=>?_)
   ·rintro _ HA ⟨start,rfl,hs1,hs2,sA⟩
    have SA:=S2.same sA
    have hq:SqL K HA pn [.str nf,.str nx]:=SqL.of (sA _ _ hpn2)
    walk_at "r"
    refine ⟨a,5,rfl,SA,by decide,by decide,fun c=>?_⟩
    walk_at "r"
    refine ⟨by show 0≤sizeLine; decide,fun ab1 hb1=>?_⟩
    have sb1:Same HA (upd HA ab1 (.tup [])):=Same.upd hb1
    have eb1:upd HA ab1 (.tup []) ab1=some (.tup []):=upd_same
    revert sb1 eb1
    generalize upd HA ab1 (.tup [])=Hb1
    intro sb1 eb1
    have Sb1:=sA.trans sb1
    have hq:=sb1.seq hq
    walk_at "r"
    refine ⟨by show 3≤sizeLine; decide,fun ab2 hb2=>?_⟩
    have sb2:Same Hb1 (upd Hb1 ab2 (.tup [.str "num",.int (c / 5 % 10 ^ Int.toNat 18),.ref ab1])):=Same.upd hb2
    have eb2:upd Hb1 ab2 (.tup [.str "num",.int (c / 5 % 10 ^ Int.toNat 18),.ref ab1]) ab2=some (.tup [.str "num",.int (c / 5 % 10 ^ Int.toNat 18),.ref ab1]):=upd_same
    revert sb2 eb2
    generalize upd Hb1 ab2 (.tup [.str "num",.int (c / 5 % 10 ^ Int.toNat 18),.ref ab1])=Hb2
    intro sb2 eb2
    have Sb2:=Sb1.trans sb2
    have hq:=sb2.seq hq
    have eb1:=sb2 _ _ eb1
    have TN:TrAt K Hb2 (.ref ab2) (leafT "num" (.int (c / 5 % 10 ^ Int.toNat 18))):=tr_leaf eb2 eb1 rfl
    walk_at "r"
    refine ⟨by show 0≤sizeLine; decide,fun ab3 hb3=>?_⟩
    have sb3:Same Hb2 (upd Hb2 ab3 (.tup [])):=Same.upd hb3
    have eb3:upd Hb2 ab3 (.tup []) ab3=some (.tup []):=upd_same
    revert sb3 eb3
    generalize upd Hb2 ab3 (.tup [])=Hb3
    intro sb3 eb3
    have Sb3:=Sb2.trans sb3
    have hq:=sb3.seq hq
    have TN:=TN.same sb3
    walk_at "r"
    refine ⟨by show 3≤sizeLine; decide,fun ab4 hb4=>?_⟩
    have sb4:Same Hb3 (upd Hb3 ab4 (.tup [.str "gap",.non,.ref ab3])):=Same.upd hb4
    have eb4:upd Hb3 ab4 (.tup [.str "gap",.non,.ref ab3]) ab4=some (.tup [.str "gap",.non,.ref ab3]):=upd_same
    revert sb4 eb4
    generalize upd Hb3 ab4 (.tup [.str "gap",.non,.ref ab3])=Hb4
    intro sb4 eb4
    have Sb4:=Sb3.trans sb4
    have hq:=sb4.seq hq
    have TN:=TN.same sb4
    have eb3:=sb4 _ _ eb3
    have TG:TrAt K Hb4 (.ref ab4) (leafT "gap" .non):=tr_leaf eb4 eb3 rfl
    walk_at "r"
    refine ⟨by show 0≤sizeLine; decide,fun ab5 hb5=>?_⟩
    have sb5:Same Hb4 (upd Hb4 ab5 (.tup [])):=Same.upd hb5
    have eb5:upd Hb4 ab5 (.tup []) ab5=some (.tup []):=upd_same
    revert sb5 eb5
    generalize upd Hb4 ab5 (.tup [])=Hb5
    intro sb5 eb5
    have Sb5:=Sb4.trans sb5
    have hq:=sb5.seq hq
    have TN:=TN.same sb5
    have TG:=TG.same sb5
    walk_at "r"
    refine ⟨by show 3≤sizeLine; decide,fun ab6 hb6=>?_⟩
    have sb6:Same Hb5 (upd Hb5 ab6 (.tup [.str "truth",.bl (decide (V.int (c / 5 % 2)=V.int 0)),.ref ab5])):=Same.upd hb6
    have eb6:upd Hb5 ab6 (.tup [.str "truth",.bl (decide (V.int (c / 5 % 2)=V.int 0)),.ref ab5]) ab6=some (.tup [.str "truth",.bl (decide (V.int (c / 5 % 2)=V.int 0)),.ref ab5]):=upd_same
    revert sb6 eb6
    generalize upd Hb5 ab6 (.tup [.str "truth",.bl (decide (V.int (c / 5 % 2)=V.int 0)),.ref ab5])=Hb6
    intro sb6 eb6
    have Sb6:=Sb5.trans sb6
    have hq:=sb6.seq hq
    have TN:=TN.same sb6
    have TG:=TG.same sb6
    have eb5:=sb6 _ _ eb5
    have TT:TrAt K Hb6 (.ref ab6) (leafT "truth" (.bl (decide (V.int (c / 5 % 2)=V.int 0)))):=tr_leaf eb6 eb5 rfl
    walk_at "r"
    refine s_ix_lst hq (atI_nat (j:=1) rfl) ?_
    walk_at "r"
    refine ⟨by show 0≤sizeLine; decide,fun ab7 hb7=>?_⟩
    have sb7:Same Hb6 (upd Hb6 ab7 (.tup [])):=Same.upd hb7
    have eb7:upd Hb6 ab7 (.tup []) ab7=some (.tup []):=upd_same
    revert sb7 eb7
    generalize upd Hb6 ab7 (.tup [])=Hb7
    intro sb7 eb7
    have Sb7:=Sb6.trans sb7
    have hq:=sb7.seq hq
    have TN:=TN.same sb7
    have TG:=TG.same sb7
    have TT:=TT.same sb7
    walk_at "r"
    refine ⟨by show 3≤sizeLine; decide,fun ab8 hb8=>?_⟩
    have sb8:Same Hb7 (upd Hb7 ab8 (.tup [.str "name",.str nx,.ref ab7])):=Same.upd hb8
    have eb8:upd Hb7 ab8 (.tup [.str "name",.str nx,.ref ab7]) ab8=some (.tup [.str "name",.str nx,.ref ab7]):=upd_same
    revert sb8 eb8
    generalize upd Hb7 ab8 (.tup [.str "name",.str nx,.ref ab7])=Hb8
    intro sb8 eb8
    have Sb8:=Sb7.trans sb8
    have hq:=sb8.seq hq
    have TN:=TN.same sb8
    have TG:=TG.same sb8
    have TT:=TT.same sb8
    have eb7:=sb8 _ _ eb7
    have TM:TrAt K Hb8 (.ref ab8) (leafT "name" (.str nx)):=tr_leaf eb8 eb7 rfl
    walk_at "r"
    refine ⟨by show 0≤sizeLine; decide,fun ab9 hb9=>?_⟩
    have sb9:Same Hb8 (upd Hb8 ab9 (.tup [])):=Same.upd hb9
    have eb9:upd Hb8 ab9 (.tup []) ab9=some (.tup []):=upd_same
    revert sb9 eb9
    generalize upd Hb8 ab9 (.tup [])=Hb9
    intro sb9 eb9
    have Sb9:=Sb8.trans sb9
    have hq:=sb9.seq hq
    have TN:=TN.same sb9
    have TG:=TG.same sb9
    have TT:=TT.same sb9
    have TM:=TM.same sb9
    walk_at "r"
    refine ⟨by show 3≤sizeLine; decide,fun ab10 hb10=>?_⟩
    have sb10:Same Hb9 (upd Hb9 ab10 (.tup [.str "gap",.non,.ref ab9])):=Same.upd hb10
    have eb10:upd Hb9 ab10 (.tup [.str "gap",.non,.ref ab9]) ab10=some (.tup [.str "gap",.non,.ref ab9]):=upd_same
    revert sb10 eb10
    generalize upd Hb9 ab10 (.tup [.str "gap",.non,.ref ab9])=Hb10
    intro sb10 eb10
    have Sb10:=Sb9.trans sb10
    have hq:=sb10.seq hq
    have TN:=TN.same sb10
    have TG:=TG.same sb10
    have TT:=TT.same sb10
    have TM:=TM.same sb10
    have eb9:=sb10 _ _ eb9
    have TO:TrAt K Hb10 (.ref ab10) (leafT "gap" .non):=tr_leaf eb10 eb9 rfl
    walk_at "r"
    refine ⟨by show 5≤sizeLine; decide,fun ab11 hb11=>?_⟩
    have sb11:Same Hb10 (upd Hb10 ab11 (.lst [.ref ab2,.ref ab4,.ref ab6,.ref ab8,.ref ab10])):=Same.upd hb11
    have eb11:upd Hb10 ab11 (.lst [.ref ab2,.ref ab4,.ref ab6,.ref ab8,.ref ab10]) ab11=some (.lst [.ref ab2,.ref ab4,.ref ab6,.ref ab8,.ref ab10]):=upd_same
    revert sb11 eb11
    generalize upd Hb10 ab11 (.lst [.ref ab2,.ref ab4,.ref ab6,.ref ab8,.ref ab10])=Hb11
    intro sb11 eb11
    have Sb11:=Sb10.trans sb11
    have hq:=sb11.seq hq
    have TN:=TN.same sb11
    have TG:=TG.same sb11
    have TT:=TT.same sb11
    have TM:=TM.same sb11
    have TO:=TO.same sb11
    obtain ⟨bv,hbv,mv⟩:=atI_in (xs:=([.ref ab2,.ref ab4,.ref ab6,.ref ab8,.ref ab10]:List V)) (i:=c % 5) (Int.emod_nonneg _ (by decide)) (Int.emod_lt_of_pos _ (by decide))
    obtain ⟨bs,htb,okb⟩:∃ bs:Str×V,TrAt K Hb11 bv (leafT bs.1 bs.2)∧BaseOk nx bs:=by
     simp only [List.mem_cons,List.not_mem_nil,or_false] at mv
     rcases mv with h | h | h | h | h
     ·exact ⟨("num",.int (c / 5 % 10 ^ Int.toNat 18)),by rw [h]; exact TN,.num _⟩
     ·exact ⟨("gap",.non),by rw [h]; exact TG,.gap⟩
     ·exact ⟨("truth",.bl (decide (V.int (c / 5 % 2)=V.int 0))),by rw [h]; exact TT,.truth _⟩
     ·exact ⟨("name",.str nx),by rw [h]; exact TM,.name⟩
     ·exact ⟨("gap",.non),by rw [h]; exact TO,.gap⟩
    walk_at "r"
    refine s_ix_lst (SqL.of eb11) hbv ?_
    clear TN TG TT TM TO mv
    walk_at "r"
    refine ⟨by show 0≤sizeLine; decide,fun ab12 hb12=>?_⟩
    have sb12:Same Hb11 (upd Hb11 ab12 (.tup [])):=Same.upd hb12
    have eb12:upd Hb11 ab12 (.tup []) ab12=some (.tup []):=upd_same
    revert sb12 eb12
    generalize upd Hb11 ab12 (.tup [])=Hb12
    intro sb12 eb12
    have Sb12:=Sb11.trans sb12
    have hq:=sb12.seq hq
    have htb:=htb.same sb12
    walk_at "r"
    refine ⟨by show 3≤sizeLine; decide,fun ab13 hb13=>?_⟩
    have sb13:Same Hb12 (upd Hb12 ab13 (.tup [.str "num",.int start,.ref ab12])):=Same.upd hb13
    have eb13:upd Hb12 ab13 (.tup [.str "num",.int start,.ref ab12]) ab13=some (.tup [.str "num",.int start,.ref ab12]):=upd_same
    revert sb13 eb13
    generalize upd Hb12 ab13 (.tup [.str "num",.int start,.ref ab12])=Hb13
    intro sb13 eb13
    have Sb13:=Sb12.trans sb13
    have hq:=sb13.seq hq
    have htb:=htb.same sb13
    have eb12:=sb13 _ _ eb12
    have TH:TrAt K Hb13 (.ref ab13) (handT start 0):=tr_leaf eb13 eb12 rfl
    walk_at "r"
    refine ⟨by omega,by omega,?_⟩
    refine for_range (n:=m) (fun i σ' H'=>∃ v11 hv,σ'=[some (.ref a),some (.ref pn),some (.int limit),some (.int down),some (.int (t:Nat)),some (.int (m:Nat)),some (.int o),some (.int start),some (.int c),some bv,some hv,v11,none,none,none,none,none,none]∧Same Hb13 H'∧TrAt K H' hv (handT start i)) ⟨none,.ref ab13,rfl,Same.refl _,TH⟩ ?_ ?_
    ·rintro i σ' HB hi ⟨v11,hv,rfl,sB,tB⟩
     walk_at "r"
     refine ⟨by show 0≤sizeLine; decide,fun ac1 hc1=>?_⟩
     have sc1:Same HB (upd HB ac1 (.tup [])):=Same.upd hc1
     have ec1:upd HB ac1 (.tup []) ac1=some (.tup []):=upd_same
     revert sc1 ec1
     generalize upd HB ac1 (.tup [])=Hc1
     intro sc1 ec1
     have Sc1:=sB.trans sc1
     have tB:=tB.same sc1
     walk_at "r"
     refine ⟨by show 3≤sizeLine; decide,fun ac2 hc2=>?_⟩
     have sc2:Same Hc1 (upd Hc1 ac2 (.tup [.str "num",.int 0,.ref ac1])):=Same.upd hc2
     have ec2:upd Hc1 ac2 (.tup [.str "num",.int 0,.ref ac1]) ac2=some (.tup [.str "num",.int 0,.ref ac1]):=upd_same
     revert sc2 ec2
     generalize upd Hc1 ac2 (.tup [.str "num",.int 0,.ref ac1])=Hc2
     intro sc2 ec2
     have Sc2:=Sc1.trans sc2
     have tB:=tB.same sc2
     have ec1:=sc2 _ _ ec1
     have TZ:TrAt K Hc2 (.ref ac2) (numT 0):=tr_leaf ec2 ec1 rfl
     walk_at "r"
     refine ⟨by show 2≤sizeLine; decide,fun ac3 hc3=>?_⟩
     have sc3:Same Hc2 (upd Hc2 ac3 (.tup [hv,.ref ac2])):=Same.upd hc3
     have ec3:upd Hc2 ac3 (.tup [hv,.ref ac2]) ac3=some (.tup [hv,.ref ac2]):=upd_same
     revert sc3 ec3
     generalize upd Hc2 ac3 (.tup [hv,.ref ac2])=Hc3
     intro sc3 ec3
     have Sc3:=Sc2.trans sc3
     have tB:=tB.same sc3
     have TZ:=TZ.same sc3
     walk_at "r"
     refine ⟨by show 3≤sizeLine; decide,fun ac4 hc4=>?_⟩
     have sc4:Same Hc3 (upd Hc3 ac4 (.tup [.str "plus",.non,.ref ac3])):=Same.upd hc4
     have ec4:upd Hc3 ac4 (.tup [.str "plus",.non,.ref ac3]) ac4=some (.tup [.str "plus",.non,.ref ac3]):=upd_same
     revert sc4 ec4
     generalize upd Hc3 ac4 (.tup [.str "plus",.non,.ref ac3])=Hc4
     intro sc4 ec4
     have Sc4:=Sc3.trans sc4
     have tB:=tB.same sc4
     have TZ:=TZ.same sc4
     have ec3:=sc4 _ _ ec3
     have TP:TrAt K Hc4 (.ref ac4) (handT start (i + 1)):=tr_two ec4 ec3 tB TZ
     exact ⟨_,.ref ac4,rfl,Sc4,TP⟩
    ·rintro σ' HB ⟨v11,hv,rfl,sB,tB⟩
     have SB:=Sb13.trans sB
     have hq:=sB.seq hq
     have htb:=htb.same sB
     walk_at "r"
     refine ⟨pn,nf,nx,limit,down,bv,_,rfl,hq,htb,fun rv HC sC tC=>?_⟩
     have SC:=SB.trans sC
     have hq:=sC.seq hq
     have htb:=htb.same sC
     have tB:=tB.same sC
     walk_at "r"
     refine ⟨by show 2≤sizeLine; decide,fun ad1 hd1=>?_⟩
     have sd1:Same HC (upd HC ad1 (.tup [rv,hv])):=Same.upd hd1
     have ed1:upd HC ad1 (.tup [rv,hv]) ad1=some (.tup [rv,hv]):=upd_same
     revert sd1 ed1
     generalize upd HC ad1 (.tup [rv,hv])=Hd1
     intro sd1 ed1
     have Sd1:=SC.trans sd1
     have hq:=sd1.seq hq
     have tB:=tB.same sd1
     have htb:=htb.same sd1
     have tC:=tC.same sd1
     walk_at "r"
     refine ⟨by show 3≤sizeLine; decide,fun ad2 hd2=>?_⟩
     have sd2:Same Hd1 (upd Hd1 ad2 (.tup [.str "call",.non,.ref ad1])):=Same.upd hd2
     have ed2:upd Hd1 ad2 (.tup [.str "call",.non,.ref ad1]) ad2=some (.tup [.str "call",.non,.ref ad1]):=upd_same
     revert sd2 ed2
     generalize upd Hd1 ad2 (.tup [.str "call",.non,.ref ad1])=Hd2
     intro sd2 ed2
     have Sd2:=Sd1.trans sd2
     have hq:=sd2.seq hq
     have tB:=tB.same sd2
     have htb:=htb.same sd2
     have tC:=tC.same sd2
     have ed1:=sd2 _ _ ed1
     have TW:TrAt K Hd2 (.ref ad2) (wholeT nf nx limit down start bs m):=tr_two ed2 ed1 tC tB
     have okl:=okb.leaf
     obtain ⟨cb,pb,nb,ecb,qcb⟩:∃ (b p:Addr) (n:V),bv=.ref b∧SqT K Hd2 b [.str bs.1,n,.ref p]:=by
      cases htb with
      | mk q hn qp l hs=>exact ⟨_,_,_,rfl,q⟩
     subst ecb
     walk_at "r"
     refine s_ix_tup qcb rfl ?_
     iterate 5 walk_at "r1"
     rw [stp_eq]
     refine s_gname ?_
     with_reducible refine s_seq ?_
     refine viaS (t:=tIfS _ _ _) (R:=fun σ' H'=>∃ tv tre sp',σ'=[some (.ref a),some (.ref pn),some (.int limit),some (.int down),some (.int (t:Nat)),some (.int (m:Nat)),some (.int o),some (.int start),some (.int c),some (.ref cb),some hv,v11,some tv,some (.int sp'),none,none,none,none]∧Same Hd2 H'∧TrAt K H' tv tre∧tre.size≤2000∧((sp'≤500∧sp'=7 + 11 * (t:Int) + 2 * (m:Int) + stp bs.1∧tre=wholeT nf nx limit down start bs m)∨(500 < sp'∧∃ n,RunL (subW tre) n ⟨[],[⟨[],[],false⟩],[],0⟩))) ?_ (fun Y hY=>?_)
     ·rintro _ HE ⟨tv,tre,sp',rfl,sE,tE,zE,hcase⟩
      have hq:=sE.seq hq
      have htb:=htb.same sE
      walk_at "r"
      rcases hcase with ⟨h5,hsp,htre⟩ | ⟨h5,n,RL⟩
      ·subst htre
       obtain ⟨n,RM⟩:=whole_fine (limit:=limit) (m:=m) hfx okl hs1 hs2 (by omega) (by omega) (by omega)
       have rl:=resG_len (f:=nf) (x:=nx) (down:=down) (bs:=bs) t start 1
       have rk:=res_ok (f:=nf) (x:=nx) (down:=down) (bs:=bs) t start 1
       refine ⟨tv,rfl,?_⟩
       refine .inl ⟨tv,_,n,_,_,rfl,tE,zE,RM,rfl,fun r rd av rvv HF sF qF tF eF alF spF nF=>?_⟩
       have qF:SqT K HF r [av,.ref rd,.int (7 + 11 * (t:Int) + 2 * (m:Int) + stp bs.1)]:=qF
       rw [← hsp] at qF
       walk_at "r"
       rw [decide_eq_false (by omega)]
       walk_at "r"
       refine ⟨false,rfl,?_⟩
       walk_at "r"
       refine ⟨pn,nf,nx,.ref cb,bs,start,down,t,rfl,sF.seq hq,htb.same sF,okb,by omega,fun r2 rd2 av2 HG sG qG tG DG=>?_⟩
       walk_at "r"
       refine s_gtup qG rfl ?_
       walk_at "r"
       refine ⟨by show 3≤sizeLine; decide,fun p9 hp9=>?_⟩
       have s9:Same HG (upd HG p9 (.tup [av2,.ref rd2,.int sp'])):=Same.upd hp9
       obtain ⟨rve,ere,are⟩:=(DG.same s9).ex
       have sFG:=sG.trans s9
       walk_at "r"
       refine ⟨.ref r,.ref p9,_,6,rfl,by decide,rec_isD (sFG.tup qF) (ThAt.same sFG.t _ _ tF) (sFG _ _ eF) (alF.mono (RwAt.same sFG.a)),rec_isD (SqT.of upd_same) (ThAt.same s9.t _ _ tG) ere are,?_,fun _ _=>q _⟩
       refine .tup (by show 3≤5000; decide) fun d hd=>?_
       simp only [List.mem_cons,List.not_mem_nil,or_false] at hd
       rcases hd with rfl | rfl | rfl
       ·exact thD_ok _
       ·exact lstD_ok (by rw [List.length_append]; show 1 + _≤5000; omega) fun x hx=>rzD_ok (rk x hx)
       ·exact .flat _
      ·refine ⟨tv,rfl,?_⟩
       refine .inr ⟨tv,tre,n,rfl,tE,zE,RL,fun HF sF=>⟨⟨N_TooLong,rfl,hsub⟩,fun a1 ha1=>?_⟩⟩
       have s9:Same HE (upd HF a1 (exk a1 (.ref N_TooLong) none)):=sF.trans (Same.upd ha1)
       revert s9
       generalize upd HF a1 (exk a1 (.ref N_TooLong) none)=HG
       intro s9
       walk_at "r"
       rw [decide_eq_true (show (500:Int) < sp' from h5)]
       walk_at "r"
       rw [if_pos (decide_eq_true (show (500:Int) < sp' from h5))]
       walk_at "r"
       exact ⟨tv,tre,n,rfl,tE.same s9,zE,RL,q⟩
     ·walk_at "r"
      refine ite2 (fun _=>?_) (fun _=>?_)
      ·walk_at "r"
       have c0:=Int.emod_nonneg (o / 1260) (show (61:Int)≠0 by decide)
       have c1:=Int.emod_lt_of_pos (o / 1260) (show (0:Int) < 61 by decide)
       obtain ⟨en,een⟩:∃ en:Nat,o / 1260 % 61=(en:Int):=⟨(o / 1260 % 61).toNat,(Int.toNat_of_nonneg c0).symm⟩
       rw [een] at c1 ⊢
       refine ⟨pn,nf,nx,en,rfl,hq,by omega,fun v HE sE tE=>?_⟩
       walk_at "r"
       exact hY _ _ ⟨v,_,501,rfl,sE,tE,by rw [end_size]; omega,.inr ⟨by decide,end_late hfx (by omega)⟩⟩
      ·walk_at "r"
       refine hY _ _ ⟨.ref ad2,_,_,rfl,Same.refl _,TW,by rw [whole_size]; omega,?_⟩
       rcases Int.lt_or_le 500 (7 + 11 * (t:Int) + 2 * (m:Int) + stp bs.1) with h | h
       ·exact .inr ⟨h,whole_late hfx okl hs1 hs2 (by omega) (by omega) h⟩
       ·exact .inl ⟨h,rfl,rfl⟩
   ·walk_at "r"
    refine ite2 (fun h=>?_) (fun h=>?_)
    ·have h:0 < (t:Int):=of_decide_eq_true h
     walk_at "r"
     refine s_mul_r (by omega) (by omega) ?_
     walk_at "r"
     refine ⟨a,4,rfl,S2,by decide,by decide,fun z9=>?_⟩
     walk_at "r"
     refine s_rI hdown ?_
     walk_at "r"
     have b0:=Int.emod_nonneg z9 (show down≠0 by omega)
     have b1:=Int.emod_lt_of_pos z9 hdown
     have e1:down * (t:Int)=down * ((t:Int) - 1) + down:=by rw [Int.mul_sub,Int.mul_one]; omega
     refine hY _ _ ⟨_,rfl,fun k hk=>?_,?_,Same.refl _⟩
     ·have:=Int.mul_le_mul_of_nonneg_left (show (k:Int)≤(t:Int) - 1 by omega) (show 0≤down by omega)
      omega
     ·omega
    ·have h:t=0:=by
      have h:¬ (0:Int) < (t:Int):=fun z=>h (decide_eq_true z)
      omega
     subst h
     walk_at "r"
     have b1:=Int.emod_lt_of_pos z8 hlim
     exact hY _ _ ⟨_,rfl,fun k hk=>absurd hk (Nat.not_lt_zero _),by simpa using b1,Same.refl _⟩
  ·walk_at "r"
   refine ite2 (fun _=>?_) (fun _=>?_)
   ·walk_at "r"
    refine ⟨by show 4≤sizeLine; decide,fun p2 h2=>?_⟩
    have s2:Same H1 (upd H1 p2 (.lst [.int 44,.int 44,.int 45,.int (50 - o / 12 % 21)])):=Same.upd h2
    have e2:upd H1 p2 (.lst [.int 44,.int 44,.int 45,.int (50 - o / 12 % 21)]) p2=some (.lst [.int 44,.int 44,.int 45,.int (50 - o / 12 % 21)]):=upd_same
    revert s2 e2
    generalize upd H1 p2 (.lst [.int 44,.int 44,.int 45,.int (50 - o / 12 % 21)])=H2
    intro s2 e2
    walk_at "r"
    obtain ⟨v,hv,mv⟩:=atI_in (xs:=([.int 44,.int 44,.int 45,.int (50 - o / 12 % 21)]:List V)) (i:=o / 3 % 4) (Int.emod_nonneg _ (by decide)) (Int.emod_lt_of_pos _ (by decide))
    have b0:=Int.emod_nonneg (o / 12) (show (21:Int)≠0 by decide)
    have b1:=Int.emod_lt_of_pos (o / 12) (show (0:Int) < 21 by decide)
    obtain ⟨t,rfl,ht⟩:∃ t:Nat,v=V.int (t:Nat)∧t≤50:=by
     simp only [List.mem_cons,List.not_mem_nil,or_false] at mv
     rcases mv with h | h | h | h
     ·exact ⟨44,h,by decide⟩
     ·exact ⟨44,h,by decide⟩
     ·exact ⟨45,h,by decide⟩
     ·exact ⟨(50 - o / 12 % 21).toNat,by rw [h,Int.toNat_of_nonneg (by omega)],by omega⟩
    refine s_ix_lst (SqL.of e2) hv ?_
    walk_at "r"
    refine ⟨a,6,rfl,S1.same s2,by decide,by decide,fun z7=>?_⟩
    walk_at "r"
    have c0:=Int.emod_nonneg z7 (show (4:Int)≠0 by decide)
    have c1:=Int.emod_lt_of_pos z7 (show (0:Int) < 4 by decide)
    exact hY _ _ ⟨t,(3 + z7 % 4).toNat,ht,by omega,by rw [Int.toNat_of_nonneg (by omega)]; rfl,s2⟩
   ·walk_at "r"
    have c0:=Int.emod_nonneg z4 (show (9:Int)≠0 by decide)
    have c1:=Int.emod_lt_of_pos z4 (show (0:Int) < 9 by decide)
    have d0:=Int.emod_nonneg z5 (show (16:Int)≠0 by decide)
    have d1:=Int.emod_lt_of_pos z5 (show (0:Int) < 16 by decide)
    have em:0≤(if z5 % 16 - 8 > 0 then z5 % 16 - 8 else 0)∧(if z5 % 16 - 8 > 0 then z5 % 16 - 8 else 0)≤8:=by split <;> omega
    exact hY _ _ ⟨(z4 % 9).toNat,(if z5 % 16 - 8 > 0 then z5 % 16 - 8 else 0).toNat,by omega,by omega,by rw [Int.toNat_of_nonneg c0,Int.toNat_of_nonneg em.1]; rfl,Same.refl _⟩
end
end K44
namespace K44
open PySem L2
local macro_rules | `(tactic| walk_at "zF")=>`(tactic| exact (let +zeta a:=_; let +zeta b:=_; let +zeta c:=_; let +zeta d:=_; let +zeta e:=_; let +zeta f:=_; let +zeta g:=_; let +zeta h:=_; let +zeta i:=_; let +zeta j:=_; have +usedOnly q:(‹Stmt›:Stmt)=.FunctionDef a b c d e f g h i j:=rfl; .FunctionDef a b c d e f g h i j))
local macro_rules | `(tactic| walk_at "zA")=>`(tactic| exact (let +zeta a:=_; let +zeta b:=_; let +zeta c:=_; have +usedOnly q:(‹Stmt›:Stmt)=.Assign a b c:=rfl; .Assign a b c))
local macro_rules | `(tactic| walk_at "zC")=>`(tactic| exact (let +zeta a:=_; let +zeta b:=_; let +zeta c:=_; let +zeta d:=_; let +zeta e:=_; let +zeta f:=_; let +zeta g:=_; let +zeta h:=_; let +zeta i:=_; let +zeta j:=_; let +zeta k:=_; have +usedOnly q:(‹Stmt›:Stmt)=.ClassDef a b c d e f g h i j k:=rfl; .ClassDef a b c d e f g h i j k))
noncomputable def w0:Stmt:=by let +zeta s:=top 0; walk_at "zF"
noncomputable def w1:Stmt:=by let +zeta s:=top 1; walk_at "zA"
noncomputable def w2:Stmt:=by let +zeta s:=top 2; walk_at "zC"
noncomputable def w3:Stmt:=by let +zeta s:=top 3; walk_at "zC"
noncomputable def w4:Stmt:=by let +zeta s:=top 4; walk_at "zC"
noncomputable def w5:Stmt:=by let +zeta s:=top 5; walk_at "zC"
noncomputable def w6:Stmt:=by let +zeta s:=top 6; walk_at "zA"
noncomputable def w7:Stmt:=by let +zeta s:=top 7; walk_at "zF"
noncomputable def w8:Stmt:=by let +zeta s:=top 8; walk_at "zA"
noncomputable def w9:Stmt:=by let +zeta s:=top 9; walk_at "zF"
noncomputable def w10:Stmt:=by let +zeta s:=top 10; walk_at "zA"
noncomputable def w11:Stmt:=by let +zeta s:=top 11; walk_at "zF"
noncomputable def w12:Stmt:=by let +zeta s:=top 12; walk_at "zA"
noncomputable def w13:Stmt:=by let +zeta s:=top 13; walk_at "zA"
noncomputable def w14:Stmt:=by let +zeta s:=top 14; walk_at "zA"
noncomputable def w15:Stmt:=by let +zeta s:=top 15; walk_at "zA"
noncomputable def w16:Stmt:=by let +zeta s:=top 16; walk_at "zF"
noncomputable def w17:Stmt:=by let +zeta s:=top 17; walk_at "zF"
noncomputable def w18_0:Stmt:=by let +zeta s:=(match top 18 with | .ClassDef _ _ _ b _ _ _ _ _ _ _=>b.getD 0 (.Pass ⟨0,0,0,0⟩) | s=>s); walk_at "zF"
noncomputable def w18_1:Stmt:=by let +zeta s:=(match top 18 with | .ClassDef _ _ _ b _ _ _ _ _ _ _=>b.getD 1 (.Pass ⟨0,0,0,0⟩) | s=>s); walk_at "zF"
noncomputable def w18_2:Stmt:=by let +zeta s:=(match top 18 with | .ClassDef _ _ _ b _ _ _ _ _ _ _=>b.getD 2 (.Pass ⟨0,0,0,0⟩) | s=>s); walk_at "zF"
noncomputable def w18_3:Stmt:=by let +zeta s:=(match top 18 with | .ClassDef _ _ _ b _ _ _ _ _ _ _=>b.getD 3 (.Pass ⟨0,0,0,0⟩) | s=>s); walk_at "zF"
noncomputable def w18_4:Stmt:=by let +zeta s:=(match top 18 with | .ClassDef _ _ _ b _ _ _ _ _ _ _=>b.getD 4 (.Pass ⟨0,0,0,0⟩) | s=>s); walk_at "zF"
noncomputable def w18_5:Stmt:=by let +zeta s:=(match top 18 with | .ClassDef _ _ _ b _ _ _ _ _ _ _=>b.getD 5 (.Pass ⟨0,0,0,0⟩) | s=>s); walk_at "zF"
noncomputable def w18_6:Stmt:=by let +zeta s:=(match top 18 with | .ClassDef _ _ _ b _ _ _ _ _ _ _=>b.getD 6 (.Pass ⟨0,0,0,0⟩) | s=>s); walk_at "zF"
noncomputable def w18_7:Stmt:=by let +zeta s:=(match top 18 with | .ClassDef _ _ _ b _ _ _ _ _ _ _=>b.getD 7 (.Pass ⟨0,0,0,0⟩) | s=>s); walk_at "zF"
noncomputable def w18_8:Stmt:=by let +zeta s:=(match top 18 with | .ClassDef _ _ _ b _ _ _ _ _ _ _=>b.getD 8 (.Pass ⟨0,0,0,0⟩) | s=>s); walk_at "zF"
noncomputable def w18_9:Stmt:=by let +zeta s:=(match top 18 with | .ClassDef _ _ _ b _ _ _ _ _ _ _=>b.getD 9 (.Pass ⟨0,0,0,0⟩) | s=>s); walk_at "zF"
noncomputable def w18_10:Stmt:=by let +zeta s:=(match top 18 with | .ClassDef _ _ _ b _ _ _ _ _ _ _=>b.getD 10 (.Pass ⟨0,0,0,0⟩) | s=>s); walk_at "zF"
noncomputable def w18_11:Stmt:=by let +zeta s:=(match top 18 with | .ClassDef _ _ _ b _ _ _ _ _ _ _=>b.getD 11 (.Pass ⟨0,0,0,0⟩) | s=>s); walk_at "zF"
noncomputable def w18_12:Stmt:=by let +zeta s:=(match top 18 with | .ClassDef _ _ _ b _ _ _ _ _ _ _=>b.getD 12 (.Pass ⟨0,0,0,0⟩) | s=>s); walk_at "zF"
noncomputable def w18:Stmt:=let +zeta a:=_; let +zeta b:=_; let +zeta c:=_; let +zeta d:=_; let +zeta e:=_; let +zeta f:=_; let +zeta g:=_; let +zeta h:=_; let +zeta i:=_; let +zeta j:=_; let +zeta k:=_; have +usedOnly q:top 18=.ClassDef a b c d e f g h i j k:=rfl; .ClassDef a b c [w18_0,w18_1,w18_2,w18_3,w18_4,w18_5,w18_6,w18_7,w18_8,w18_9,w18_10,w18_11,w18_12] e f g h i j k
noncomputable def w19:Stmt:=by let +zeta s:=top 19; walk_at "zA"
noncomputable def w20:Stmt:=by let +zeta s:=top 20; walk_at "zF"
noncomputable def w21:Stmt:=by let +zeta s:=top 21; walk_at "zA"
noncomputable def w22:Stmt:=by let +zeta s:=top 22; walk_at "zF"
noncomputable def w23:Stmt:=by let +zeta s:=top 23; walk_at "zF"
noncomputable def w24:Stmt:=by let +zeta s:=top 24; walk_at "zF"
noncomputable def w25:Stmt:=by let +zeta s:=top 25; walk_at "zF"
noncomputable def w26:Stmt:=by let +zeta s:=top 26; walk_at "zF"
noncomputable def w27:Stmt:=by let +zeta s:=top 27; walk_at "zF"
noncomputable def w28:Stmt:=by let +zeta s:=top 28; walk_at "zF"
noncomputable def w29:Stmt:=by let +zeta s:=top 29; walk_at "zF"
noncomputable def w30:Stmt:=by let +zeta s:=top 30; walk_at "zF"
noncomputable def w31:Stmt:=by let +zeta s:=top 31; walk_at "zF"
noncomputable def PWc:Program:=let +zeta a:=_; let +zeta b:=_; let +zeta c:=_; let +zeta d:=_; let +zeta e:=_; let +zeta f:=_; let +zeta g:=_; let +zeta h:=_; let +zeta i:=_; let +zeta j:=_; have +usedOnly q:PySem.Challenge.pw_gapscribe_k44_rec_and_steps=⟨⟨a,b,c,d,e⟩,f,g,h,i,j⟩:=rfl; ⟨⟨[w0,w1,w2,w3,w4,w5,w6,w7,w8,w9,w10,w11,w12,w13,w14,w15,w16,w17,w18,w19,w20,w21,w22,w23,w24,w25,w26,w27,w28,w29,w30,w31],b,c,d,e⟩,f,g,h,i,j⟩
theorem e_PW:PWc=PWc:=rfl
name_quick x_PW for K44.PWc by K44.e_PW
end K44
noncomputable def PySem.W.Fast.tw10574762322266872442:PySem.Program:=PySem.W.Fast.tw17280427269173362411
theorem PySem.W.Fast.te10574762322266872442:PySem.Challenge.pw_gapscribe_k44_rec_and_steps=PySem.W.Fast.tw10574762322266872442:=(rfl:PySem.Challenge.pw_gapscribe_k44_rec_and_steps=K44.PWc).trans PySem.W.Fast.te17280427269173362411
namespace K44
open PySem L2
noncomputable def VWc:Program:={ PySem.Challenge.pw_gapscribe_k44_rec_and_steps with main:={ PySem.Challenge.pw_gapscribe_k44_rec_and_steps.main with body:=[w0,w2,w3,w4,w5,w7,w9,w11,w13,w14,w15,w16,w17,w18,w20,w22,w23,w24,w25,w26,w27,w28,w29,w30,w31] } }
noncomputable def S0:List Stmt:=[w4]
noncomputable def S1:List Stmt:=[w0,w1,w2]
noncomputable def S2:List Stmt:=[w14,w15,w16,w17]
noncomputable def S3:List Stmt:=[w3]
noncomputable def S4:List Stmt:=[w18]
noncomputable def S5:List Stmt:=[w19,w20,w21,w22,w23,w24,w25,w26,w27,w28,w29,w30,w31]
noncomputable def S6:List Stmt:=[w5,w6,w7,w8,w9,w10,w11,w12,w13]
noncomputable def SB:Program×List (List Stmt):=(VWc,[S0,S1,S2,S3,S4,S5,S6])
theorem e_SB:SB=SB:=rfl
name_quick x_SB for K44.SB by K44.e_SB
end K44
noncomputable def PySem.W.Fast.tw1027542743450399463:PySem.Program:=PySem.W.Fast.tw7150926154775651917
theorem PySem.W.Fast.te1027542743450399463:K44.VWc=PySem.W.Fast.tw1027542743450399463:=PySem.W.Fast.te7150926154775651917
noncomputable def PySem.W.Fast.tw15212691288344353894:List PySem.Stmt:=PySem.W.Fast.tw4725368437273173057
theorem PySem.W.Fast.te15212691288344353894:K44.S0=PySem.W.Fast.tw15212691288344353894:=PySem.W.Fast.te4725368437273173057
noncomputable def PySem.W.Fast.tw2065141955276456747:List PySem.Stmt:=PySem.W.Fast.tw2468158523144832668
theorem PySem.W.Fast.te2065141955276456747:K44.S1=PySem.W.Fast.tw2065141955276456747:=PySem.W.Fast.te2468158523144832668
noncomputable def PySem.W.Fast.tw13788988875922519697:List PySem.Stmt:=PySem.W.Fast.tw7236428322481895947
theorem PySem.W.Fast.te13788988875922519697:K44.S2=PySem.W.Fast.tw13788988875922519697:=PySem.W.Fast.te7236428322481895947
noncomputable def PySem.W.Fast.tw10104689154903700531:List PySem.Stmt:=PySem.W.Fast.tw10266654710487643741
theorem PySem.W.Fast.te10104689154903700531:K44.S3=PySem.W.Fast.tw10104689154903700531:=PySem.W.Fast.te10266654710487643741
noncomputable def PySem.W.Fast.tw716902716986804727:List PySem.Stmt:=PySem.W.Fast.tw7192718001334436680
theorem PySem.W.Fast.te716902716986804727:K44.S4=PySem.W.Fast.tw716902716986804727:=PySem.W.Fast.te7192718001334436680
noncomputable def PySem.W.Fast.tw10921974982609822556:List PySem.Stmt:=PySem.W.Fast.tw7803184388647742560
theorem PySem.W.Fast.te10921974982609822556:K44.S5=PySem.W.Fast.tw10921974982609822556:=PySem.W.Fast.te7803184388647742560
noncomputable def PySem.W.Fast.tw15430072608399008831:List PySem.Stmt:=PySem.W.Fast.tw2767287599267365209
theorem PySem.W.Fast.te15430072608399008831:K44.S6=PySem.W.Fast.tw15430072608399008831:=PySem.W.Fast.te2767287599267365209
namespace K44
open PySem L2 PySem.W
noncomputable def zs (i j:Nat):Stmt:=match top i with | .ClassDef _ _ _ b _ _ _ _ _ _ _=>b.getD j (.Pass ⟨0,0,0,0⟩) | s=>s
noncomputable def ze (P:Params) (s:Str) (t:Tok) (v:Value):DictEntry:=⟨PyData.keyHash P s,.str s t,v⟩
noncomputable abbrev B:=W.BT
noncomputable def evb (l:List Obj):Bool→List Obj:=@List.rec Obj (fun _=>Bool→List Obj) (fun _=>[]) (fun a _ ih b=>@Bool.rec (fun _=>List Obj) (ih true) (a :: ih false) b) l
noncomputable def tO (l:List Obj):B:=@Nat.rec (fun _=>List Obj→B) (fun _=>.nil) (fun _ ih l=>@List.rec Obj (fun _=>B) .nil (fun x r _=>.node x (ih (evb r true)) (ih (evb r false))) l) 12 l
noncomputable def zv:List (Str×Tok)→List Value
 | []=>[]
 | (a,b) :: t=>.str a b :: zv t
noncomputable def zu (l:List (Str×Tok)):Obj:=⟨.type "tuple",none,.seq ⟨zv l⟩,#[]⟩
noncomputable def zt (c:String) (d:Data):Obj:=⟨.type c,none,d,#[]⟩
noncomputable def zf (n q:Str) (s:Stmt) (m:Str) (t:Tok) (c:Addr):Obj:=⟨.type "function",none,.func (W.fnOf n q (defArgs s) (defBody s) (defScope s) .none .none .none (.str m t) none (.ref c) .none),#[]⟩
noncomputable def zh (n q:Str) (s:Stmt):Obj:=⟨.none,none,.func ⟨n,q,defArgs s,.stmts (defBody s),defScope s,0,[],.none,.none,.none,.none,none,.none,.none,0⟩,#[]⟩
noncomputable def zk (n q:Str) (t:Tok) (l a g:Int) (r:Addr) (b:Bool) (x:Value) (u:Int) (v:Tok):Obj:=⟨.type "code",none,.fields #[.str n t,.str q (t + 1),.str "/claim/cut.py" (t + 2),.int l 0,.int a 0,.int 0 0,.int 0 0,.int g 0,.ref r,.bool b,.int 181 0,.ref (r + 1),.none,.none,.none,x,.int u 0,.int l 0,.str "/claim/cut.py" v],#[]⟩
noncomputable def zw:List (Int×Int×Addr)→List Value
 | []=>[]
 | (a,b,c) :: t=>.int a 0 :: .int b 0 :: .ref c :: zw t
noncomputable def zy (l:List (Int×Int×Addr)):Obj:=⟨.none,none,.fields ⟨zw l⟩,#[]⟩
noncomputable def zc (n q:Str) (t:Tok) (l a g:Int) (r:Addr) (u:Int) (v:Tok):Obj:=⟨.type "code",none,.fields #[.str n t,.str q (t + 1),.str "/claim/cut.py" (t + 2),.int l 0,.int a 0,.int 0 0,.int 0 0,.int g 0,.ref r,.bool true,.int 181 0,.ref (r + 1),.none,.ref (r + 2),.ref (r + 3),.ref (r + 4),.int u 0,.int l 0,.str "/claim/cut.py" v],#[]⟩
noncomputable def zb (n:Str):=zc n n
noncomputable def zi (n:Str):=zf n n
noncomputable def zj (n:Str):=zh n n
noncomputable def d0 (P:Params):List DictEntry:=[ze P "__name__" 165 (.str "gapscribe.errors" 194),ze P "__doc__" 166 .none,ze P "__package__" 167 .none,ze P "__loader__" 168 (.builtin "__main__.__loader__#opaque"),ze P "__spec__" 169 .none,ze P "__annotations__" 170 (.ref 6),ze P "__builtins__" 171 (.ref 4),ze P "__file__" 173 (.str "/claim/cut.py" 172),ze P "__cached__" 174 .none,ze P "_wall" 193 (.ref 21),ze P "GapError" 213 (.ref 31)]
noncomputable def z0 (P:Params):Obj:=zt "dict" (.dict ⟨d0 P⟩ 11)
noncomputable def z1:Obj:=zt "tuple" (.seq #[])
noncomputable def z2:Obj:=zy [(1,0,20),(5,0,27)]
noncomputable def z3:Obj:=zk "<module>" "<module>" 182 1 0 0 11 false .none 185 186
noncomputable def z4:Obj:=Obj.mk (.type "frame") none Data.plain #[some (.ref 13),some (.ref 3),some (.ref 3),none,some (.str "__main__" 164),none,some (.ref 0)]
noncomputable def h0_0 (P:Params) (t:List Obj):List Obj:=(boot_o_0 P) :: (boot_o_1 P) :: (boot_o_2 P) :: (z0 P) :: (boot_o_4 P) :: (boot_o_5 P) :: (boot_o_6 P) :: (boot_o_7 P) :: (boot_o_8 P) :: (boot_o_9 P) :: (boot_o_10 P) :: z1 :: z2 :: z3 :: z4 :: z1 :: t
noncomputable def z5:Obj:=Obj.mk .none none (.fields #[]) #[]
noncomputable def z6:Obj:=zu [("k",190)]
noncomputable def z7:Obj:=zj "_wall" w0
noncomputable def z8:Obj:=zb "_wall" 187 1 1 3 15 191 192
noncomputable def z9:Obj:=zi "_wall" w0 "__main__" 164 20
noncomputable def z10:Obj:=zt "tuple" (.seq #[.type "ValueError"])
noncomputable def z11:Obj:=zt "builtin_function_or_method" (.fields #[.builtin "type.__prepare__",.type "type"])
noncomputable def z12 (P:Params):Obj:=zt "dict" (.dict #[ze P "__module__" 203 (.str "gapscribe.errors" 194),ze P "__qualname__" 205 (.str "GapError" 204),ze P "__firstlineno__" 207 (.int 5 206),ze P "__static_attributes__" 208 (.ref 29)] 4)
noncomputable def z13:Obj:=zk "GapError" "GapError" 198 5 0 0 25 false .none 201 202
noncomputable def z14:Obj:=Obj.mk (.type "frame") none Data.plain #[some (.ref 27),some (.ref 3),some (.ref 24),none,some (.str "gapscribe.errors" 194),none,some (.ref 0)]
noncomputable def z15 (P:Params):Obj:=zt "dict" (.dict #[ze P "__module__" 203 (.str "gapscribe.errors" 194),ze P "__firstlineno__" 207 (.int 5 206),ze P "__static_attributes__" 208 (.ref 29),ze P "__weakref__" 210 (.ref 32),ze P "__doc__" 211 .none] 3)
noncomputable def z16:Obj:=Obj.mk (.type "type") none (.cls (ClassData.mk "GapError" [.type "ValueError"] [.ref 31,.type "ValueError",.type "Exception",.type "BaseException",.type "object"] 30 "GapError" true [] [] false none false)) #[some (.ref 22),none,some (.str "GapError" 196),some (.str "GapError" 204),some (.builtin "ValueError.__new__"),some (.bool true)]
noncomputable def h1_0 (P:Params) (t:List Obj):List Obj:=z5 :: z6 :: z1 :: z7 :: z8 :: z9 :: z10 :: z11 :: (z12 P) :: z1 :: z5 :: z13 :: z14 :: z1 :: (z15 P) :: z16 :: t
noncomputable def z17:Obj:=zt "getset_descriptor" (.fields #[.str "__weakref__" 209,.ref 31,.builtin "ExceptionGroup.__weakref__",.none])
noncomputable def z18:Obj:=zt "super" (.fields #[.ref 31,.ref 31,.ref 31])
noncomputable def z19:Obj:=zt "builtin_function_or_method" (.fields #[.builtin "object.__init_subclass__",.ref 31])
noncomputable def h2_0 (P:Params) (t:List Obj):List Obj:=z17 :: z18 :: z19 :: t
noncomputable def Rtree_70:Params→B:=fun P=>tO (h0_0 P (h1_0 P (h2_0 P [])))
noncomputable def d1 (P:Params):List DictEntry:=d0 P++[ze P "NoDeed" 229 (.ref 44)]
noncomputable def z20 (P:Params):Obj:=zt "dict" (.dict ⟨d1 P⟩ 12)
noncomputable def z21:Obj:=zy [(1,0,20),(5,0,27),(7,0,40)]
noncomputable def h3_0 (P:Params) (t:List Obj):List Obj:=(boot_o_0 P) :: (boot_o_1 P) :: (boot_o_2 P) :: (z20 P) :: (boot_o_4 P) :: (boot_o_5 P) :: (boot_o_6 P) :: (boot_o_7 P) :: (boot_o_8 P) :: (boot_o_9 P) :: (boot_o_10 P) :: z1 :: z21 :: z3 :: z4 :: z1 :: t
noncomputable def z22:Obj:=Obj.mk (.type "type") none (.cls (ClassData.mk "GapError" [.type "ValueError"] [.ref 31,.type "ValueError",.type "Exception",.type "BaseException",.type "object"] 30 "GapError" true [] [.ref 44] false none false)) #[some (.ref 22),none,some (.str "GapError" 196),some (.str "GapError" 204),some (.builtin "ValueError.__new__"),some (.bool true)]
noncomputable def h4_0 (P:Params) (t:List Obj):List Obj:=z5 :: z6 :: z1 :: z7 :: z8 :: z9 :: z10 :: z11 :: (z12 P) :: z1 :: z5 :: z13 :: z14 :: z1 :: (z15 P) :: z22 :: t
noncomputable def z23:Obj:=zt "tuple" (.seq #[.ref 31])
noncomputable def z24 (P:Params):Obj:=zt "dict" (.dict #[ze P "__module__" 221 (.str "gapscribe.errors" 194),ze P "__qualname__" 223 (.str "NoDeed" 222),ze P "__firstlineno__" 225 (.int 7 224),ze P "__static_attributes__" 226 (.ref 42)] 4)
noncomputable def z25:Obj:=zk "NoDeed" "NoDeed" 216 7 0 0 38 false .none 219 220
noncomputable def z26:Obj:=Obj.mk (.type "frame") none Data.plain #[some (.ref 40),some (.ref 3),some (.ref 37),none,some (.str "gapscribe.errors" 194),none,some (.ref 0)]
noncomputable def z27 (P:Params):Obj:=zt "dict" (.dict #[ze P "__module__" 221 (.str "gapscribe.errors" 194),ze P "__firstlineno__" 225 (.int 7 224),ze P "__static_attributes__" 226 (.ref 42),ze P "__doc__" 227 .none] 2)
noncomputable def z28:Obj:=Obj.mk (.type "type") none (.cls (ClassData.mk "NoDeed" [.ref 31] [.ref 44,.ref 31,.type "ValueError",.type "Exception",.type "BaseException",.type "object"] 43 "NoDeed" true [] [] false none false)) #[some (.ref 35),none,some (.str "NoDeed" 214),some (.str "NoDeed" 222),some (.builtin "ValueError.__new__"),some (.bool true)]
noncomputable def z29:Obj:=zt "super" (.fields #[.ref 44,.ref 44,.ref 44])
noncomputable def z30:Obj:=zt "builtin_function_or_method" (.fields #[.builtin "object.__init_subclass__",.ref 44])
noncomputable def h5_0 (P:Params) (t:List Obj):List Obj:=z17 :: z18 :: z19 :: z23 :: z11 :: (z24 P) :: z1 :: z5 :: z25 :: z26 :: z1 :: (z27 P) :: z28 :: z29 :: z30 :: t
noncomputable def Rtree_85:Params→B:=fun P=>tO (h3_0 P (h4_0 P (h5_0 P [])))
noncomputable def d2 (P:Params):List DictEntry:=d1 P++[ze P "TooBig" 245 (.ref 56)]
noncomputable def z31 (P:Params):Obj:=zt "dict" (.dict ⟨d2 P⟩ 13)
noncomputable def z32:Obj:=zy [(1,0,20),(5,0,27),(7,0,40),(9,0,52)]
noncomputable def h6_0 (P:Params) (t:List Obj):List Obj:=(boot_o_0 P) :: (boot_o_1 P) :: (boot_o_2 P) :: (z31 P) :: (boot_o_4 P) :: (boot_o_5 P) :: (boot_o_6 P) :: (boot_o_7 P) :: (boot_o_8 P) :: (boot_o_9 P) :: (boot_o_10 P) :: z1 :: z32 :: z3 :: z4 :: z1 :: t
noncomputable def z33:Obj:=Obj.mk (.type "type") none (.cls (ClassData.mk "GapError" [.type "ValueError"] [.ref 31,.type "ValueError",.type "Exception",.type "BaseException",.type "object"] 30 "GapError" true [] [.ref 44,.ref 56] false none false)) #[some (.ref 22),none,some (.str "GapError" 196),some (.str "GapError" 204),some (.builtin "ValueError.__new__"),some (.bool true)]
noncomputable def h7_0 (P:Params) (t:List Obj):List Obj:=z5 :: z6 :: z1 :: z7 :: z8 :: z9 :: z10 :: z11 :: (z12 P) :: z1 :: z5 :: z13 :: z14 :: z1 :: (z15 P) :: z33 :: t
noncomputable def h8_0 (P:Params) (t:List Obj):List Obj:=z17 :: z18 :: z19 :: z23 :: z11 :: (z24 P) :: z1 :: z5 :: z25 :: z26 :: z1 :: (z27 P) :: z28 :: z29 :: z30 :: z23 :: t
noncomputable def z34 (P:Params):Obj:=zt "dict" (.dict #[ze P "__module__" 237 (.str "gapscribe.errors" 194),ze P "__qualname__" 239 (.str "TooBig" 238),ze P "__firstlineno__" 241 (.int 9 240),ze P "__static_attributes__" 242 (.ref 54)] 4)
noncomputable def z35:Obj:=zk "TooBig" "TooBig" 232 9 0 0 50 false .none 235 236
noncomputable def z36:Obj:=Obj.mk (.type "frame") none Data.plain #[some (.ref 52),some (.ref 3),some (.ref 49),none,some (.str "gapscribe.errors" 194),none,some (.ref 0)]
noncomputable def z37 (P:Params):Obj:=zt "dict" (.dict #[ze P "__module__" 237 (.str "gapscribe.errors" 194),ze P "__firstlineno__" 241 (.int 9 240),ze P "__static_attributes__" 242 (.ref 54),ze P "__doc__" 243 .none] 2)
noncomputable def z38:Obj:=Obj.mk (.type "type") none (.cls (ClassData.mk "TooBig" [.ref 31] [.ref 56,.ref 31,.type "ValueError",.type "Exception",.type "BaseException",.type "object"] 55 "TooBig" true [] [] false none false)) #[some (.ref 47),none,some (.str "TooBig" 230),some (.str "TooBig" 238),some (.builtin "ValueError.__new__"),some (.bool true)]
noncomputable def z39:Obj:=zt "super" (.fields #[.ref 56,.ref 56,.ref 56])
noncomputable def z40:Obj:=zt "builtin_function_or_method" (.fields #[.builtin "object.__init_subclass__",.ref 56])
noncomputable def h9_0 (P:Params) (t:List Obj):List Obj:=z11 :: (z34 P) :: z1 :: z5 :: z35 :: z36 :: z1 :: (z37 P) :: z38 :: z39 :: z40 :: t
noncomputable def Rtree_100:Params→B:=fun P=>tO (h6_0 P (h7_0 P (h8_0 P (h9_0 P []))))
noncomputable def d3 (P:Params):List DictEntry:=[ze P "__name__" 165 (.str "gapscribe.machine" 296),ze P "__doc__" 166 .none,ze P "__package__" 167 .none,ze P "__loader__" 168 (.builtin "__main__.__loader__#opaque"),ze P "__spec__" 169 .none,ze P "__annotations__" 170 (.ref 6),ze P "__builtins__" 171 (.ref 4),ze P "__file__" 173 (.str "/claim/cut.py" 172),ze P "__cached__" 174 .none,ze P "_wall" 193 (.ref 21),ze P "GapError" 213 (.ref 31),ze P "NoDeed" 229 (.ref 44),ze P "TooBig" 245 (.ref 56),ze P "TooLong" 261 (.ref 68),ze P "placed_forms" 275 (.ref 77),ze P "is_finished" 285 (.ref 84),ze P "names_bound" 295 (.ref 91),ze P "MOST_STEPS" 299 (.int 500 298)]
noncomputable def z41 (P:Params):Obj:=zt "dict" (.dict ⟨d3 P⟩ 18)
noncomputable def z42:Obj:=zy [(1,0,20),(5,0,27),(7,0,40),(9,0,52),(11,0,64),(14,0,76),(24,0,83),(27,0,90)]
noncomputable def h10_0 (P:Params) (t:List Obj):List Obj:=(boot_o_0 P) :: (boot_o_1 P) :: (boot_o_2 P) :: (z41 P) :: (boot_o_4 P) :: (boot_o_5 P) :: (boot_o_6 P) :: (boot_o_7 P) :: (boot_o_8 P) :: (boot_o_9 P) :: (boot_o_10 P) :: z1 :: z42 :: z3 :: z4 :: z1 :: t
noncomputable def z43:Obj:=Obj.mk (.type "type") none (.cls (ClassData.mk "GapError" [.type "ValueError"] [.ref 31,.type "ValueError",.type "Exception",.type "BaseException",.type "object"] 30 "GapError" true [] [.ref 44,.ref 56,.ref 68] false none false)) #[some (.ref 22),none,some (.str "GapError" 196),some (.str "GapError" 204),some (.builtin "ValueError.__new__"),some (.bool true)]
noncomputable def h11_0 (P:Params) (t:List Obj):List Obj:=z5 :: z6 :: z1 :: z7 :: z8 :: z9 :: z10 :: z11 :: (z12 P) :: z1 :: z5 :: z13 :: z14 :: z1 :: (z15 P) :: z43 :: t
noncomputable def z44 (P:Params):Obj:=zt "dict" (.dict #[ze P "__module__" 253 (.str "gapscribe.errors" 194),ze P "__qualname__" 255 (.str "TooLong" 254),ze P "__firstlineno__" 257 (.int 11 256),ze P "__static_attributes__" 258 (.ref 66)] 4)
noncomputable def h12_0 (P:Params) (t:List Obj):List Obj:=z11 :: (z34 P) :: z1 :: z5 :: z35 :: z36 :: z1 :: (z37 P) :: z38 :: z39 :: z40 :: z23 :: z11 :: (z44 P) :: z1 :: z5 :: t
noncomputable def z45:Obj:=zk "TooLong" "TooLong" 248 11 0 0 62 false .none 251 252
noncomputable def z46:Obj:=Obj.mk (.type "frame") none Data.plain #[some (.ref 64),some (.ref 3),some (.ref 61),none,some (.str "gapscribe.errors" 194),none,some (.ref 0)]
noncomputable def z47 (P:Params):Obj:=zt "dict" (.dict #[ze P "__module__" 253 (.str "gapscribe.errors" 194),ze P "__firstlineno__" 257 (.int 11 256),ze P "__static_attributes__" 258 (.ref 66),ze P "__doc__" 259 .none] 2)
noncomputable def z48:Obj:=Obj.mk (.type "type") none (.cls (ClassData.mk "TooLong" [.ref 31] [.ref 68,.ref 31,.type "ValueError",.type "Exception",.type "BaseException",.type "object"] 67 "TooLong" true [] [] false none false)) #[some (.ref 59),none,some (.str "TooLong" 246),some (.str "TooLong" 254),some (.builtin "ValueError.__new__"),some (.bool true)]
noncomputable def z49:Obj:=zt "super" (.fields #[.ref 68,.ref 68,.ref 68])
noncomputable def z50:Obj:=zt "builtin_function_or_method" (.fields #[.builtin "object.__init_subclass__",.ref 68])
noncomputable def z51:Obj:=zu [("tree",267),("told",268),("waiting",269),("pair",270),("number",271),("part",272)]
noncomputable def z52:Obj:=zj "placed_forms" s_placed_forms
noncomputable def z53:Obj:=zb "placed_forms" 264 14 1 3 71 273 274
noncomputable def z54:Obj:=zi "placed_forms" s_placed_forms "gapscribe.places" 262 76
noncomputable def h13_0 (P:Params) (t:List Obj):List Obj:=z45 :: z46 :: z1 :: (z47 P) :: z48 :: z49 :: z50 :: z1 :: z5 :: z51 :: z1 :: z52 :: z53 :: z54 :: z1 :: z5 :: t
noncomputable def z55:Obj:=zu [("thing",281),("rows",282)]
noncomputable def z56:Obj:=zj "is_finished" s_is_finished
noncomputable def z57:Obj:=zb "is_finished" 278 24 2 3 78 283 284
noncomputable def z58:Obj:=zi "is_finished" s_is_finished "gapscribe.rows" 276 83
noncomputable def z59:Obj:=zu [("form",291),("number",292)]
noncomputable def z60:Obj:=zj "names_bound" s_names_bound
noncomputable def z61:Obj:=zb "names_bound" 288 27 2 3 85 293 294
noncomputable def z62:Obj:=zi "names_bound" s_names_bound "gapscribe.scopes" 286 90
noncomputable def h14_0 (P:Params) (t:List Obj):List Obj:=z55 :: z1 :: z56 :: z57 :: z58 :: z1 :: z5 :: z59 :: z1 :: z60 :: z61 :: z62 :: t
noncomputable def Rtree_136:Params→B:=fun P=>tO (h10_0 P (h11_0 P (h8_0 P (h12_0 P (h13_0 P (h14_0 P []))))))
noncomputable def d4 (P:Params):List DictEntry:=d3 P++[ze P "PARTS_AWAITED" 322 (.ref 92),ze P "WORDS_WITH_AROUND" 327 (.ref 99),ze P "are_numbers" 333 (.ref 104),ze P "reckoned" 342 (.ref 111)]
noncomputable def z63 (P:Params):Obj:=zt "dict" (.dict ⟨d4 P⟩ 22)
noncomputable def z64:Obj:=zy [(1,0,20),(5,0,27),(7,0,40),(9,0,52),(11,0,64),(14,0,76),(24,0,83),(27,0,90),(39,0,103),(41,0,110)]
noncomputable def h15_0 (P:Params) (t:List Obj):List Obj:=(boot_o_0 P) :: (boot_o_1 P) :: (boot_o_2 P) :: (z63 P) :: (boot_o_4 P) :: (boot_o_5 P) :: (boot_o_6 P) :: (boot_o_7 P) :: (boot_o_8 P) :: (boot_o_9 P) :: (boot_o_10 P) :: z1 :: z64 :: z3 :: z4 :: z1 :: t
noncomputable def z65 (P:Params):Obj:=zt "dict" (.dict #[ze P "plus" 300 (.ref 93),ze P "minus" 303 (.ref 94),ze P "less" 306 (.ref 95),ze P "call" 309 (.ref 96),ze P "if" 312 (.ref 97),ze P "let" 314 (.ref 98)] 6)
noncomputable def z66:Obj:=zt "tuple" (.seq #[.int 1 301,.int 0 302])
noncomputable def z67:Obj:=zt "tuple" (.seq #[.int 1 304,.int 0 305])
noncomputable def z68:Obj:=zt "tuple" (.seq #[.int 1 307,.int 0 308])
noncomputable def h16_0 (P:Params) (t:List Obj):List Obj:=z55 :: z1 :: z56 :: z57 :: z58 :: z1 :: z5 :: z59 :: z1 :: z60 :: z61 :: z62 :: (z65 P) :: z66 :: z67 :: z68 :: t
noncomputable def z69:Obj:=zt "tuple" (.seq #[.int 1 310,.int 0 311])
noncomputable def z70:Obj:=zt "tuple" (.seq #[.int 0 313])
noncomputable def z71:Obj:=zt "tuple" (.seq #[.int 0 315])
noncomputable def z72:Obj:=zu [("gap",323),("fn",324),("rec",325),("if",326)]
noncomputable def z73:Obj:=zj "are_numbers" s_are_numbers
noncomputable def z74:Obj:=zk "are_numbers" "are_numbers" 328 39 1 3 100 true (.ref 102) 331 332
noncomputable def z75:Obj:=zi "are_numbers" s_are_numbers "gapscribe.machine" 296 103
noncomputable def z76:Obj:=zu [("word",337),("left",338),("right",339)]
noncomputable def z77:Obj:=zj "reckoned" s_reckoned
noncomputable def z78:Obj:=zb "reckoned" 334 41 3 3 105 340 341
noncomputable def z79:Obj:=zi "reckoned" s_reckoned "gapscribe.machine" 296 110
noncomputable def h17_0 (P:Params) (t:List Obj):List Obj:=z69 :: z70 :: z71 :: z72 :: z1 :: z5 :: z73 :: z74 :: z75 :: z1 :: z5 :: z76 :: z1 :: z77 :: z78 :: z79 :: t
noncomputable def Rtree_158:Params→B:=fun P=>tO (h15_0 P (h11_0 P (h8_0 P (h12_0 P (h13_0 P (h16_0 P (h17_0 P [])))))))
noncomputable def d5 (P:Params):List DictEntry:=d4 P++[ze P "Machine" 492 (.ref 210)]
noncomputable def z80 (P:Params):Obj:=zt "dict" (.dict ⟨d5 P⟩ 23)
noncomputable def z81:Obj:=zy [(1,0,20),(5,0,27),(7,0,40),(9,0,52),(11,0,64),(14,0,76),(24,0,83),(27,0,90),(39,0,103),(41,0,110),(47,0,117)]
noncomputable def h18_0 (P:Params) (t:List Obj):List Obj:=(boot_o_0 P) :: (boot_o_1 P) :: (boot_o_2 P) :: (z80 P) :: (boot_o_4 P) :: (boot_o_5 P) :: (boot_o_6 P) :: (boot_o_7 P) :: (boot_o_8 P) :: (boot_o_9 P) :: (boot_o_10 P) :: z1 :: z81 :: z3 :: z4 :: z1 :: t
noncomputable def d6 (P:Params):List DictEntry:=[ze P "__module__" 350 (.str "gapscribe.machine" 296),ze P "__qualname__" 352 (.str "Machine" 351),ze P "__firstlineno__" 354 (.int 47 353),ze P "__init__" 363 (.ref 125),ze P "make_steps" 371 (.ref 132),ze P "new_row" 383 (.ref 139),ze P "thing_of_form" 392 (.ref 146),ze P "thing_of_parts" 402 (.ref 153),ze P "thing_at_the_end" 412 (.ref 160),ze P "come_to" 418 (.ref 165),ze P "thing_of_leaf" 430 (.ref 172),ze P "go_further" 441 (.ref 179),ze P "taken_things" 450 (.ref 186),ze P "is_function" 458 (.ref 193),ze P "call" 467 (.ref 200),ze P "go_within" 479 (.ref 207),ze P "__static_attributes__" 485 (.ref 208)]
noncomputable def z82 (P:Params):Obj:=zt "dict" (.dict ⟨d6 P⟩ 17)
noncomputable def z83:Obj:=zy [(49,4,124),(57,4,131),(62,4,138),(67,4,145),(71,4,152),(74,4,159),(83,4,164),(93,4,171),(101,4,178),(115,4,185),(120,4,192),(123,4,199),(127,4,206)]
noncomputable def z84:Obj:=zk "Machine" "Machine" 345 47 0 0 115 false .none 348 349
noncomputable def z85:Obj:=Obj.mk (.type "frame") none Data.plain #[some (.ref 117),some (.ref 3),some (.ref 114),none,some (.str "gapscribe.machine" 296),none,some (.ref 0)]
noncomputable def z86:Obj:=zu [("self",358),("tree",359),("steps",360)]
noncomputable def z87:Obj:=zh "__init__" "Machine.__init__" s_Machine_init
noncomputable def z88:Obj:=zc "__init__" "Machine.__init__" 355 49 3 3 119 361 362
noncomputable def z89:Obj:=zf "__init__" "Machine.__init__" s_Machine_init "gapscribe.machine" 296 124
noncomputable def h19_0 (P:Params) (t:List Obj):List Obj:=z1 :: z11 :: (z82 P) :: z1 :: z83 :: z84 :: z85 :: z1 :: z5 :: z86 :: z1 :: z87 :: z88 :: z89 :: z1 :: z5 :: t
noncomputable def z90:Obj:=zu [("self",367),("many",368)]
noncomputable def z91:Obj:=zh "make_steps" "Machine.make_steps" s_Machine_make_steps
noncomputable def z92:Obj:=zc "make_steps" "Machine.make_steps" 364 57 2 3 126 369 370
noncomputable def z93:Obj:=zf "make_steps" "Machine.make_steps" s_Machine_make_steps "gapscribe.machine" 296 131
noncomputable def z94:Obj:=zu [("self",375),("word",376),("place",377),("operands",378),("around",379),("kept",380)]
noncomputable def z95:Obj:=zh "new_row" "Machine.new_row" s_Machine_new_row
noncomputable def z96:Obj:=zc "new_row" "Machine.new_row" 372 62 5 3 133 381 382
noncomputable def z97:Obj:=zf "new_row" "Machine.new_row" s_Machine_new_row "gapscribe.machine" 296 138
noncomputable def z98:Obj:=zu [("self",387),("place",388),("around",389)]
noncomputable def h20_0 (P:Params) (t:List Obj):List Obj:=z90 :: z1 :: z91 :: z92 :: z93 :: z1 :: z5 :: z94 :: z1 :: z95 :: z96 :: z97 :: z1 :: z5 :: z98 :: z1 :: t
noncomputable def z99:Obj:=zh "thing_of_form" "Machine.thing_of_form" s_Machine_thing_of_form
noncomputable def z100:Obj:=zc "thing_of_form" "Machine.thing_of_form" 384 67 3 3 140 390 391
noncomputable def z101:Obj:=zf "thing_of_form" "Machine.thing_of_form" s_Machine_thing_of_form "gapscribe.machine" 296 145
noncomputable def z102:Obj:=zu [("self",396),("place",397),("operands",398),("around",399)]
noncomputable def z103:Obj:=zh "thing_of_parts" "Machine.thing_of_parts" w18_4
noncomputable def z104:Obj:=zc "thing_of_parts" "Machine.thing_of_parts" 393 71 4 3 147 400 401
noncomputable def z105:Obj:=zf "thing_of_parts" "Machine.thing_of_parts" w18_4 "gapscribe.machine" 296 152
noncomputable def z106:Obj:=zu [("self",406),("place",407),("around",408),("parts_came",409)]
noncomputable def z107:Obj:=zh "thing_at_the_end" "Machine.thing_at_the_end" s_Machine_thing_at_the_end
noncomputable def z108:Obj:=zc "thing_at_the_end" "Machine.thing_at_the_end" 403 74 1 3 154 410 411
noncomputable def h21_0 (P:Params) (t:List Obj):List Obj:=z99 :: z100 :: z101 :: z1 :: z5 :: z102 :: z1 :: z103 :: z104 :: z105 :: z1 :: z5 :: z106 :: z1 :: z107 :: z108 :: t
noncomputable def z109:Obj:=zf "thing_at_the_end" "Machine.thing_at_the_end" s_Machine_thing_at_the_end "gapscribe.machine" 296 159
noncomputable def z110:Obj:=zh "come_to" "Machine.come_to" s_Machine_come_to
noncomputable def z111:Obj:=zk "come_to" "Machine.come_to" 413 83 3 3 161 true (.ref 163) 416 417
noncomputable def z112:Obj:=zf "come_to" "Machine.come_to" s_Machine_come_to "gapscribe.machine" 296 164
noncomputable def z113:Obj:=zu [("self",422),("word",423),("note",424),("place",425),("around",426),("bound",427)]
noncomputable def z114:Obj:=zh "thing_of_leaf" "Machine.thing_of_leaf" s_Machine_thing_of_leaf
noncomputable def z115:Obj:=zc "thing_of_leaf" "Machine.thing_of_leaf" 419 93 5 3 166 428 429
noncomputable def z116:Obj:=zf "thing_of_leaf" "Machine.thing_of_leaf" s_Machine_thing_of_leaf "gapscribe.machine" 296 171
noncomputable def z117:Obj:=zu [("self",434),("place",435),("around",436),("word",437),("operands",438)]
noncomputable def h22_0 (P:Params) (t:List Obj):List Obj:=z109 :: z1 :: z5 :: z110 :: z111 :: z112 :: z1 :: z5 :: z113 :: z1 :: z114 :: z115 :: z116 :: z1 :: z5 :: z117 :: t
noncomputable def z118:Obj:=zh "go_further" "Machine.go_further" s_Machine_go_further
noncomputable def z119:Obj:=zc "go_further" "Machine.go_further" 431 101 3 3 173 439 440
noncomputable def z120:Obj:=zf "go_further" "Machine.go_further" s_Machine_go_further "gapscribe.machine" 296 178
noncomputable def z121:Obj:=zu [("self",445),("many",446),("taken",447)]
noncomputable def z122:Obj:=zh "taken_things" "Machine.taken_things" s_Machine_taken_things
noncomputable def z123:Obj:=zc "taken_things" "Machine.taken_things" 442 115 2 3 180 448 449
noncomputable def z124:Obj:=zf "taken_things" "Machine.taken_things" s_Machine_taken_things "gapscribe.machine" 296 185
noncomputable def z125:Obj:=zu [("self",454),("thing",455)]
noncomputable def z126:Obj:=zh "is_function" "Machine.is_function" s_Machine_is_function
noncomputable def h23_0 (P:Params) (t:List Obj):List Obj:=z1 :: z118 :: z119 :: z120 :: z1 :: z5 :: z121 :: z1 :: z122 :: z123 :: z124 :: z1 :: z5 :: z125 :: z1 :: z126 :: t
noncomputable def z127:Obj:=zc "is_function" "Machine.is_function" 451 120 2 3 187 456 457
noncomputable def z128:Obj:=zf "is_function" "Machine.is_function" s_Machine_is_function "gapscribe.machine" 296 192
noncomputable def z129:Obj:=zu [("self",462),("operands",463),("row",464)]
noncomputable def z130:Obj:=zh "call" "Machine.call" s_Machine_call
noncomputable def z131:Obj:=zc "call" "Machine.call" 459 123 2 3 194 465 466
noncomputable def z132:Obj:=zf "call" "Machine.call" s_Machine_call "gapscribe.machine" 296 199
noncomputable def z133:Obj:=zu [("self",471),("place",472),("number",473),("around",474),("things",475),("names",476)]
noncomputable def z134:Obj:=zh "go_within" "Machine.go_within" s_Machine_go_within
noncomputable def z135:Obj:=zc "go_within" "Machine.go_within" 468 127 5 3 201 477 478
noncomputable def z136:Obj:=zf "go_within" "Machine.go_within" s_Machine_go_within "gapscribe.machine" 296 206
noncomputable def h24_0 (P:Params) (t:List Obj):List Obj:=z127 :: z128 :: z1 :: z5 :: z129 :: z1 :: z130 :: z131 :: z132 :: z1 :: z5 :: z133 :: z1 :: z134 :: z135 :: z136 :: t
noncomputable def z137:Obj:=zu [("forms",480),("rows",481),("steps",482),("things",483),("waiting",484)]
noncomputable def d7 (P:Params):List DictEntry:=[ze P "__module__" 350 (.str "gapscribe.machine" 296),ze P "__firstlineno__" 354 (.int 47 353),ze P "__init__" 363 (.ref 125),ze P "make_steps" 371 (.ref 132),ze P "new_row" 383 (.ref 139),ze P "thing_of_form" 392 (.ref 146),ze P "thing_of_parts" 402 (.ref 153),ze P "thing_at_the_end" 412 (.ref 160),ze P "come_to" 418 (.ref 165),ze P "thing_of_leaf" 430 (.ref 172),ze P "go_further" 441 (.ref 179),ze P "taken_things" 450 (.ref 186),ze P "is_function" 458 (.ref 193),ze P "call" 467 (.ref 200),ze P "go_within" 479 (.ref 207),ze P "__static_attributes__" 485 (.ref 208),ze P "__dict__" 487 (.ref 211),ze P "__weakref__" 489 (.ref 212),ze P "__doc__" 490 .none]
noncomputable def z138 (P:Params):Obj:=zt "dict" (.dict ⟨d7 P⟩ 4)
noncomputable def z139:Obj:=Obj.mk (.type "type") none (.cls (ClassData.mk "Machine" [.type "object"] [.ref 210,.type "object"] 209 "Machine" true [] [] false none false)) #[none,none,some (.str "Machine" 343),some (.str "Machine" 351),some (.builtin "object.__new__"),some (.bool true)]
noncomputable def z140:Obj:=zt "getset_descriptor" (.fields #[.str "__dict__" 486,.ref 210,.builtin "function.__dict__",.builtin "function.__dict__#set"])
noncomputable def z141:Obj:=zt "getset_descriptor" (.fields #[.str "__weakref__" 488,.ref 210,.builtin "ExceptionGroup.__weakref__",.none])
noncomputable def z142:Obj:=zt "super" (.fields #[.ref 210,.ref 210,.ref 210])
noncomputable def z143:Obj:=zt "builtin_function_or_method" (.fields #[.builtin "object.__init_subclass__",.ref 210])
noncomputable def h25_0 (P:Params) (t:List Obj):List Obj:=z137 :: (z138 P) :: z139 :: z140 :: z141 :: z142 :: z143 :: t
noncomputable def Rtree_265:Params→B:=fun P=>tO (h18_0 P (h11_0 P (h8_0 P (h12_0 P (h13_0 P (h16_0 P (h17_0 P (h19_0 P (h20_0 P (h21_0 P (h22_0 P (h23_0 P (h24_0 P (h25_0 P []))))))))))))))
noncomputable def h26_0 (P:Params) (t:List Obj):List Obj:=(boot_o_0 P) :: (boot_o_1 P) :: (boot_o_2 P) :: (z63 P) :: (boot_o_4 P) :: (boot_o_5 P) :: (boot_o_6 P) :: (boot_o_7 P) :: (boot_o_8 P) :: (boot_o_9 P) :: (boot_o_10 P) :: z1 :: z81 :: z3 :: z4 :: z1 :: t
noncomputable def d8 (P:Params):List DictEntry:=[ze P "__module__" 350 (.str "gapscribe.machine" 296),ze P "__qualname__" 352 (.str "Machine" 351),ze P "__firstlineno__" 354 (.int 47 353),ze P "__init__" 363 (.ref 125),ze P "make_steps" 371 (.ref 132),ze P "new_row" 383 (.ref 139),ze P "thing_of_form" 392 (.ref 146),ze P "thing_of_parts" 402 (.ref 153),ze P "thing_at_the_end" 412 (.ref 160),ze P "come_to" 418 (.ref 165),ze P "thing_of_leaf" 430 (.ref 172),ze P "go_further" 441 (.ref 179),ze P "taken_things" 450 (.ref 186)]
noncomputable def z144 (P:Params):Obj:=zt "dict" (.dict ⟨d8 P⟩ 13)
noncomputable def z145:Obj:=zy [(49,4,124),(57,4,131),(62,4,138),(67,4,145),(71,4,152),(74,4,159),(83,4,164),(93,4,171),(101,4,178),(115,4,185)]
noncomputable def h27_0 (P:Params) (t:List Obj):List Obj:=z1 :: z11 :: (z144 P) :: z1 :: z145 :: z84 :: z85 :: z1 :: z5 :: z86 :: z1 :: z87 :: z88 :: z89 :: z1 :: z5 :: t
noncomputable def h28_0 (P:Params) (t:List Obj):List Obj:=z127 :: t
noncomputable def Rtree_347:Params→B:=fun P=>tO (h26_0 P (h11_0 P (h8_0 P (h12_0 P (h13_0 P (h16_0 P (h17_0 P (h27_0 P (h20_0 P (h21_0 P (h22_0 P (h23_0 P (h28_0 P [])))))))))))))
noncomputable def d9 (P:Params):List DictEntry:=[ze P "__name__" 165 (.str "law_gapscribe_k44_rec_and_steps" 504),ze P "__doc__" 166 .none,ze P "__package__" 167 .none,ze P "__loader__" 168 (.builtin "__main__.__loader__#opaque"),ze P "__spec__" 169 .none,ze P "__annotations__" 170 (.ref 6),ze P "__builtins__" 171 (.ref 4),ze P "__file__" 173 (.str "/claim/cut.py" 172),ze P "__cached__" 174 .none,ze P "_wall" 193 (.ref 21),ze P "GapError" 213 (.ref 31),ze P "NoDeed" 229 (.ref 44),ze P "TooBig" 245 (.ref 56),ze P "TooLong" 261 (.ref 68),ze P "placed_forms" 275 (.ref 77),ze P "is_finished" 285 (.ref 84),ze P "names_bound" 295 (.ref 91),ze P "MOST_STEPS" 299 (.int 500 298),ze P "PARTS_AWAITED" 322 (.ref 92),ze P "WORDS_WITH_AROUND" 327 (.ref 99),ze P "are_numbers" 333 (.ref 104),ze P "reckoned" 342 (.ref 111),ze P "Machine" 492 (.ref 210),ze P "run" 503 (.ref 221),ze P "_law_cell" 513 (.ref 228),ze P "_law_mixed" 521 (.ref 235),ze P "_law_same" 530 (.ref 242),ze P "_law_names" 547 (.ref 249),ze P "_law_small" 555 (.ref 256),ze P "_law_tree" 568 (.ref 263),ze P "_law_endless" 578 (.ref 270),ze P "_law_due" 594 (.ref 277),ze P "_law_late" 603 (.ref 284),ze P "law" 627 (.ref 291)]
noncomputable def z146 (P:Params):Obj:=zt "dict" (.dict ⟨d9 P⟩ 34)
noncomputable def z147:Obj:=zy [(1,0,20),(5,0,27),(7,0,40),(9,0,52),(11,0,64),(14,0,76),(24,0,83),(27,0,90),(39,0,103),(41,0,110),(47,0,117),(131,0,220),(136,0,227),(140,0,234),(142,0,241),(159,0,248),(175,0,255),(179,0,262),(184,0,269),(189,0,276),(205,0,283),(212,0,290)]
noncomputable def h29_0 (P:Params) (t:List Obj):List Obj:=(boot_o_0 P) :: (boot_o_1 P) :: (boot_o_2 P) :: (z146 P) :: (boot_o_4 P) :: (boot_o_5 P) :: (boot_o_6 P) :: (boot_o_7 P) :: (boot_o_8 P) :: (boot_o_9 P) :: (boot_o_10 P) :: z1 :: z147 :: z3 :: z4 :: z1 :: t
noncomputable def z148:Obj:=zu [("tree",498),("machine",499),("answer",500)]
noncomputable def z149:Obj:=zj "run" s_run
noncomputable def z150:Obj:=zb "run" 495 131 1 3 215 501 502
noncomputable def z151:Obj:=zi "run" s_run "gapscribe.runs" 493 220
noncomputable def h30_0 (P:Params) (t:List Obj):List Obj:=z137 :: (z138 P) :: z139 :: z140 :: z141 :: z142 :: z143 :: z1 :: z5 :: z148 :: z1 :: z149 :: z150 :: z151 :: z1 :: z5 :: t
noncomputable def z152:Obj:=zu [("_law_script",509),("_law_k",510)]
noncomputable def z153:Obj:=zj "_law_cell" s_law_cell
noncomputable def z154:Obj:=zb "_law_cell" 506 136 2 3 222 511 512
noncomputable def z155:Obj:=zi "_law_cell" s_law_cell "law_gapscribe_k44_rec_and_steps" 504 227
noncomputable def z156:Obj:=zu [("_law_cell_here",517),("_law_k",518)]
noncomputable def z157:Obj:=zj "_law_mixed" s_law_mixed
noncomputable def z158:Obj:=zb "_law_mixed" 514 140 2 3 229 519 520
noncomputable def z159:Obj:=zi "_law_mixed" s_law_mixed "law_gapscribe_k44_rec_and_steps" 504 234
noncomputable def z160:Obj:=zu [("_law_found",525),("_law_due_here",526),("_law_k",527)]
noncomputable def h31_0 (P:Params) (t:List Obj):List Obj:=z152 :: z1 :: z153 :: z154 :: z155 :: z1 :: z5 :: z156 :: z1 :: z157 :: z158 :: z159 :: z1 :: z5 :: z160 :: z1 :: t
noncomputable def z161:Obj:=zj "_law_same" s_law_same
noncomputable def z162:Obj:=zb "_law_same" 522 142 2 3 236 528 529
noncomputable def z163:Obj:=zi "_law_same" s_law_same "law_gapscribe_k44_rec_and_steps" 504 241
noncomputable def z164:Obj:=zu [("_law_cell_here",534),("_law_many",535),("_law_signs",536),("_law_kept",537),("_law_size",538),("_law_at",539),("_law_names_here",540),("_law_k",541),("_law_word",542),("_law_j",543),("_law_step",544)]
noncomputable def z165:Obj:=zj "_law_names" s_law_names
noncomputable def z166:Obj:=zb "_law_names" 531 159 2 3 243 545 546
noncomputable def z167:Obj:=zi "_law_names" s_law_names "law_gapscribe_k44_rec_and_steps" 504 248
noncomputable def z168:Obj:=zu [("_law_cell_here",551),("_law_many",552)]
noncomputable def z169:Obj:=zj "_law_small" s_law_small
noncomputable def z170:Obj:=zb "_law_small" 548 175 2 3 250 553 554
noncomputable def h32_0 (P:Params) (t:List Obj):List Obj:=z161 :: z162 :: z163 :: z1 :: z5 :: z164 :: z1 :: z165 :: z166 :: z167 :: z1 :: z5 :: z168 :: z1 :: z169 :: z170 :: t
noncomputable def z171:Obj:=zi "_law_small" s_law_small "law_gapscribe_k44_rec_and_steps" 504 255
noncomputable def z172:Obj:=zu [("_law_names_here",559),("_law_limit",560),("_law_base",561),("_law_down",562),("_law_x",563),("_law_again",564),("_law_form",565)]
noncomputable def z173:Obj:=zj "_law_tree" s_law_tree
noncomputable def z174:Obj:=zb "_law_tree" 556 179 4 3 257 566 567
noncomputable def z175:Obj:=zi "_law_tree" s_law_tree "law_gapscribe_k44_rec_and_steps" 504 262
noncomputable def z176:Obj:=zu [("_law_names_here",572),("_law_many",573),("_law_form",574),("_law_k",575)]
noncomputable def z177:Obj:=zj "_law_endless" s_law_endless
noncomputable def z178:Obj:=zb "_law_endless" 569 184 2 3 264 576 577
noncomputable def z179:Obj:=zi "_law_endless" s_law_endless "law_gapscribe_k44_rec_and_steps" 504 269
noncomputable def h33_0 (P:Params) (t:List Obj):List Obj:=z171 :: z1 :: z5 :: z172 :: z1 :: z173 :: z174 :: z175 :: z1 :: z5 :: z176 :: z1 :: z177 :: z178 :: z179 :: z1 :: t
noncomputable def z180:Obj:=zu [("_law_names_here",582),("_law_base",583),("_law_start",584),("_law_down",585),("_law_times",586),("_law_rows",587),("_law_last",588),("_law_total",589),("_law_thing",590),("_law_k",591)]
noncomputable def z181:Obj:=zj "_law_due" s_law_due
noncomputable def z182:Obj:=zb "_law_due" 579 189 5 3 271 592 593
noncomputable def z183:Obj:=zi "_law_due" s_law_due "law_gapscribe_k44_rec_and_steps" 504 276
noncomputable def z184:Obj:=zu [("_law_tree_here",598),("_law_late_here",599),("e",600)]
noncomputable def z185:Obj:=zj "_law_late" s_law_late
noncomputable def z186:Obj:=zb "_law_late" 595 205 1 3 278 601 602
noncomputable def z187:Obj:=zi "_law_late" s_law_late "law_gapscribe_k44_rec_and_steps" 504 283
noncomputable def z188:Obj:=zu [("_law_script",607),("_law_names_here",608),("_law_limit",609),("_law_down",610),("_law_times",611),("_law_more",612),("_law_other",613),("_law_start",614),("_law_cell_here",615),("_law_base",616),("_law_handed",617),("_law_k",618),("_law_tree_here",619),("_law_steps",620),("_law_found",621),("_law_late_here",622),("_law_answer",623),("_law_rows",624)]
noncomputable def h34_0 (P:Params) (t:List Obj):List Obj:=z5 :: z180 :: z1 :: z181 :: z182 :: z183 :: z1 :: z5 :: z184 :: z1 :: z185 :: z186 :: z187 :: z1 :: z5 :: z188 :: t
noncomputable def z189:Obj:=zj "law" s_law
noncomputable def z190:Obj:=zb "law" 604 212 1 3 285 625 626
noncomputable def z191:Obj:=zi "law" s_law "law_gapscribe_k44_rec_and_steps" 504 290
noncomputable def h35_0 (P:Params) (t:List Obj):List Obj:=z1 :: z189 :: z190 :: z191 :: t
noncomputable def Rtree_429:Params→B:=fun P=>tO (h29_0 P (h11_0 P (h8_0 P (h12_0 P (h13_0 P (h16_0 P (h17_0 P (h19_0 P (h20_0 P (h21_0 P (h22_0 P (h23_0 P (h24_0 P (h30_0 P (h31_0 P (h32_0 P (h33_0 P (h34_0 P (h35_0 P [])))))))))))))))))))
noncomputable def Rheap_430:Params→Heap:=fun P=>⟨⟨h29_0 P (h11_0 P (h8_0 P (h12_0 P (h13_0 P (h16_0 P (h17_0 P (h19_0 P (h20_0 P (h21_0 P (h22_0 P (h23_0 P (h24_0 P (h30_0 P (h31_0 P (h32_0 P (h33_0 P (h34_0 P (h35_0 P []))))))))))))))))))⟩,Life.mk [] [] [] 0 [] [] false #[] [] 0 false false false 0 [2000,10,10] false 0 true [] [] 0 false⟩
noncomputable def KK:Params→W.Frag:=fun P=>(nat_lit 2,boot_o_2 P) :: (nat_lit 3,z146 P) :: (nat_lit 30,z15 P) :: (nat_lit 31,z43) :: (nat_lit 43,z27 P) :: (nat_lit 44,z28) :: (nat_lit 55,z37 P) :: (nat_lit 56,z38) :: (nat_lit 67,z47 P) :: (nat_lit 68,z48) :: (nat_lit 76,z53) :: (nat_lit 77,z54) :: (nat_lit 83,z57) :: (nat_lit 84,z58) :: (nat_lit 90,z61) :: (nat_lit 91,z62) :: (nat_lit 92,z65 P) :: (nat_lit 93,z66) :: (nat_lit 94,z67) :: (nat_lit 95,z68) :: (nat_lit 96,z69) :: (nat_lit 97,z70) :: (nat_lit 98,z71) :: (nat_lit 99,z72) :: (nat_lit 103,z74) :: (nat_lit 104,z75) :: (nat_lit 110,z78) :: (nat_lit 111,z79) :: (nat_lit 124,z88) :: (nat_lit 125,z89) :: (nat_lit 131,z92) :: (nat_lit 132,z93) :: (nat_lit 138,z96) :: (nat_lit 139,z97) :: (nat_lit 145,z100) :: (nat_lit 146,z101) :: (nat_lit 159,z108) :: (nat_lit 160,z109) :: (nat_lit 164,z111) :: (nat_lit 165,z112) :: (nat_lit 171,z115) :: (nat_lit 172,z116) :: (nat_lit 178,z119) :: (nat_lit 179,z120) :: (nat_lit 185,z123) :: (nat_lit 186,z124) :: (nat_lit 192,z127) :: (nat_lit 193,z128) :: (nat_lit 199,z131) :: (nat_lit 200,z132) :: (nat_lit 206,z135) :: (nat_lit 207,z136) :: (nat_lit 209,z138 P) :: (nat_lit 210,z139) :: (nat_lit 220,z150) :: (nat_lit 221,z151) :: (nat_lit 227,z154) :: (nat_lit 228,z155) :: (nat_lit 234,z158) :: (nat_lit 235,z159) :: (nat_lit 241,z162) :: (nat_lit 242,z163) :: (nat_lit 248,z166) :: (nat_lit 249,z167) :: (nat_lit 255,z170) :: (nat_lit 256,z171) :: (nat_lit 262,z174) :: (nat_lit 263,z175) :: (nat_lit 269,z178) :: (nat_lit 270,z179) :: (nat_lit 276,z182) :: (nat_lit 277,z183) :: (nat_lit 283,z186) :: (nat_lit 284,z187) :: (nat_lit 290,z190) :: (nat_lit 291,z191) :: []
noncomputable def KA:List Addr:=[2,3,30,31,43,44,55,56,67,68,76,77,83,84,90,91,92,93,94,95,96,97,98,99,103,104,110,111,124,125,131,132,138,139,145,146,159,160,164,165,171,172,178,179,185,186,192,193,199,200,206,207,209,210,220,221,227,228,234,235,241,242,248,249,255,256,262,263,269,270,276,277,283,284,290,291]
noncomputable def RB (P:Params):List W.BT×List Heap:=([Rtree_70 P,Rtree_85 P,Rtree_100 P,Rtree_136 P,Rtree_158 P,Rtree_265 P,Rtree_347 P,Rtree_429 P],[Rheap_430 P])
theorem e_RB:RB=RB:=rfl
name_quick x_RB for K44.RB by K44.e_RB
end K44
namespace PySem.W.Fast
noncomputable def tw595273549471987446:PySem.Params→W.BT:=tw16057032822272432528
theorem te595273549471987446:K44.Rtree_70=tw595273549471987446:=te16057032822272432528
noncomputable def tw6557206745931194987:PySem.Params→W.BT:=tw7251083921459975381
theorem te6557206745931194987:K44.Rtree_85=tw6557206745931194987:=te7251083921459975381
noncomputable def tw2681773261011138824:PySem.Params→W.BT:=tw1209638971660501741
theorem te2681773261011138824:K44.Rtree_100=tw2681773261011138824:=te1209638971660501741
noncomputable def tw4129352437008719651:PySem.Params→W.BT:=tw11181042718814763731
theorem te4129352437008719651:K44.Rtree_136=tw4129352437008719651:=te11181042718814763731
noncomputable def tw15319849231166852238:PySem.Params→W.BT:=tw13549780735773971745
theorem te15319849231166852238:K44.Rtree_158=tw15319849231166852238:=te13549780735773971745
noncomputable def tw11657654317503043689:PySem.Params→W.BT:=tw15335971029337764615
theorem te11657654317503043689:K44.Rtree_265=tw11657654317503043689:=te15335971029337764615
noncomputable def tw7188087817893367082:PySem.Params→W.BT:=tw199762631109930213
theorem te7188087817893367082:K44.Rtree_347=tw7188087817893367082:=te199762631109930213
noncomputable def tw18089007237729335761:PySem.Params→W.BT:=tw13417683294996501365
theorem te18089007237729335761:K44.Rtree_429=tw18089007237729335761:=te13417683294996501365
noncomputable def tw16959630200341357061:PySem.Params→PySem.Heap:=tw2391944466492687522
theorem te16959630200341357061:K44.Rheap_430=tw16959630200341357061:=te2391944466492687522
end PySem.W.Fast
namespace K44
open PySem L2
noncomputable abbrev spLaw:=sp_law
theorem all1 {α:Type} {P:List α→Prop} (h:∀ a,P [a]):∀ us:List α,us.length=1→P us
 | [a],_=>h a
theorem all2 {α:Type} {P:List α→Prop} (h:∀ a b,P [a,b]):∀ us:List α,us.length=2→P us
 | [a,b],_=>h a b
theorem all3 {α:Type} {P:List α→Prop} (h:∀ a b c,P [a,b,c]):∀ us:List α,us.length=3→P us
 | [a,b,c],_=>h a b c
theorem all4 {α:Type} {P:List α→Prop} (h:∀ a b c d,P [a,b,c,d]):∀ us:List α,us.length=4→P us
 | [a,b,c,d],_=>h a b c d
theorem all5 {α:Type} {P:List α→Prop} (h:∀ a b c d e,P [a,b,c,d,e]):∀ us:List α,us.length=5→P us
 | [a,b,c,d,e],_=>h a b c d e
theorem rec_same {P:Program} {w:World} {K:W.Frag} {mg:Str→Option Value} {base:Heap} {f:Addr} {fd:FuncData} (F:Fun K "_law_same" "_law_same" s_law_same f fd) (T:Txt K mg)
  (mk:∀ n,FnOk P w K mg base CX0 (n + 1) f fd ["_law_found", "_law_due_here"] (sp_same K n)→Callee P w K mg base (n + 1) "_law_same" ["_law_found", "_law_due_here"] (sp_same K n)):∀ n,FnOk P w K mg base CX0 (n + 1) f fd ["_law_found", "_law_due_here"] (sp_same K n)
 | 0=>by
  have no:∀ vs H Q E,¬ sp_same K 0 vs H Q E:=by
   rintro vs H Q E ⟨x,y,d,m,_,h,_⟩
   exact absurd h (Nat.not_lt_zero _)
  exact ⟨fun vs H Q E h=>absurd h (no _ _ _ _),fun A outer s H args us vs Q E _ _ _ _ h=>absurd h (no _ _ _ _)⟩
 | n + 1=>ok_same F T (mk n (rec_same F T mk n))
theorem tail_GE {K:W.Frag} {GE:Addr} {ddG:Option Addr} {cdG:ClassData} {slG:Array (Option Value)} {cG:Value} (ho:K.lookup GE=some ⟨cG,ddG,.cls cdG,slG⟩) (hok:W.nsOkIn K cdG.ns=true) (hni:W.nsIn K cdG.ns "__init__" = some none):W.tailIn K VE (.ref GE :: VE)=true∧(W.clsIn K GE).isSome=true:=by
 have e:W.tailIn K VE VE=true:=by unfold W.tailIn; rfl
 refine ⟨?_,by unfold W.clsIn; rw [ho]; rfl⟩
 unfold W.tailIn
 dsimp only
 rw [ho]
 dsimp only
 rw [hok,hni,e]
 simp
theorem excI_mk {K:W.Frag} {C GE:Addr} {ddC:Option Addr} {cdC:ClassData} {slC:Array (Option Value)} {k0 k1 k2 k3 k5:Option Value} (hC:K.lookup C=some ⟨.type "type",ddC,.cls cdC,slC⟩) (hm:cdC.mro=.ref C :: .ref GE :: VE) (hs:slC.toList=[k0,k1,k2,k3,some (.builtin "ValueError.__new__"),k5]) (hd:cdC.hasDel=false) (h:W.tailIn K VE (.ref GE :: VE)=true):excI K C=true∧((W.clsIn K C).any fun cd=>overVE cd.mro)=true:=by
 refine ⟨?_,?_⟩
 ·unfold excI
  rw [hC]
  simp only [hm,hs]
  rw [hd,h]
  simp
 ·unfold W.clsIn
  rw [hC]
  dsimp only
  show overVE cdC.mro=true
  rw [hm]
  show overVE VE=true
  decide
theorem kit_ref {K:W.Frag} {C X:Addr} {b:Bool} {c:Value} {dd:Option Addr} {cd:ClassData} {sl:Array (Option Value)} (hX:K.lookup X=some ⟨c,dd,.cls cd,sl⟩) (ht:W.typeIn K (.ref X)=some (.type "type")) (hs:W.subIn K (.ref C) (.ref X)=some b) (hn:b=false→(C == X)=false):W.kitOne K (.ref C) (.ref X)=some b:=by
 unfold W.kitOne
 by_cases h:((Value.ref C) == (Value.ref X))=true
 ·rw [if_pos h]
  have e:=beq_iff_eq.mp h
  injection e with e
  subst e
  cases b with
  | true=>rfl
  | false=>have:=hn rfl; simp at this
 ·rw [if_neg h]
  unfold W.kitCls
  dsimp only
  rw [if_pos]
  ·exact hs
  ·rw [ht]
   unfold W.clsIn
   rw [hX]
   simp
theorem kit_ty {K:W.Frag} {C:Addr} (hs:W.subIn K (.ref C) (.type "ValueError")=some true):W.kitOne K (.ref C) (.type "ValueError")=some true:=by
 unfold W.kitOne
 rw [if_neg (by intro h; have:=beq_iff_eq.mp h; cases this)]
 unfold W.kitCls
 dsimp only
 rw [if_pos (by rfl)]
 exact hs
theorem excIn_mk {K:W.Frag} {C GE:Addr} {ddC:Option Addr} {cdC:ClassData} {slC:Array (Option Value)} {k0 k1 k2 k3 k5:Option Value} (hC:K.lookup C=some ⟨.type "type",ddC,.cls cdC,slC⟩) (hm:cdC.mro=.ref C :: .ref GE :: VE) (hs:slC.toList=[k0,k1,k2,k3,some (.builtin "ValueError.__new__"),k5]) (hd:cdC.hasDel=false) (h:W.tailIn K VE (.ref GE :: VE)=true) (hok:W.nsOkIn K cdC.ns=true) (hni:W.nsIn K cdC.ns "__init__" = some none):W.excIn K C VE "ValueError.__new__" = true:=by
 unfold W.excIn
 rw [hC]
 simp only [hm,hs]
 rw [hd,h,hok,hni]
 simp
noncomputable def pk6 (t1 t2 t3 t4 t5 t6:Addr):List (Str×V):=[("plus",.ref t1),("minus",.ref t2),("less",.ref t3),("call",.ref t4),("if",.ref t5),("let",.ref t6)]
theorem pk6_nd {t1 t2 t3 t4 t5 t6:Addr}:((pk6 t1 t2 t3 t4 t5 t6).map (·.1)).Nodup:=by
 show (["plus", "minus", "less", "call", "if", "let"]:List Str).Nodup
 decide +kernel
theorem parts_ok {K:W.Frag} {t1 t2 t3 t4 t5 t6:Addr} (h1:∀ H,SqT K H t1 ([1,0].map V.int)) (h2:∀ H,SqT K H t2 ([1,0].map V.int)) (h3:∀ H,SqT K H t3 ([1,0].map V.int)) (h4:∀ H,SqT K H t4 ([1,0].map V.int)) (h5:∀ H,SqT K H t5 ([0].map V.int)) (h6:∀ H,SqT K H t6 ([0].map V.int)) (wd:Str) :
  (lookD (pk6 t1 t2 t3 t4 t5 t6) wd).isSome=(partsA wd).isSome∧∀ ns,partsA wd=some ns→∃ b,lookD (pk6 t1 t2 t3 t4 t5 t6) wd=some (.ref b)∧∀ H,SqT K H b (ns.map V.int):=by
 by_cases e1:wd = "plus"
 ·subst e1
  have p:partsA "plus" = some [1,0]:=by decide +kernel
  exact ⟨by rw [p]; rfl,fun ns h=>by rw [p] at h; cases h; exact ⟨t1,rfl,h1⟩⟩
 by_cases e2:wd = "minus"
 ·subst e2
  have p:partsA "minus" = some [1,0]:=by decide +kernel
  exact ⟨by rw [p]; rfl,fun ns h=>by rw [p] at h; cases h; exact ⟨t2,rfl,h2⟩⟩
 by_cases e3:wd = "less"
 ·subst e3
  have p:partsA "less" = some [1,0]:=by decide +kernel
  exact ⟨by rw [p]; rfl,fun ns h=>by rw [p] at h; cases h; exact ⟨t3,rfl,h3⟩⟩
 by_cases e4:wd = "call"
 ·subst e4
  have p:partsA "call" = some [1,0]:=by decide +kernel
  exact ⟨by rw [p]; rfl,fun ns h=>by rw [p] at h; cases h; exact ⟨t4,rfl,h4⟩⟩
 by_cases e5:wd = "if"
 ·subst e5
  have p:partsA "if" = some [0]:=by decide +kernel
  exact ⟨by rw [p]; rfl,fun ns h=>by rw [p] at h; cases h; exact ⟨t5,rfl,h5⟩⟩
 by_cases e6:wd = "let"
 ·subst e6
  have p:partsA "let" = some [0]:=by decide +kernel
  exact ⟨by rw [p]; rfl,fun ns h=>by rw [p] at h; cases h; exact ⟨t6,rfl,h6⟩⟩
 have p:partsA wd=none:=by
  unfold partsA
  rw [if_neg (by simp [e1,e2,e3,e4]),if_neg (by simp [e5,e6])]
 have q:lookD (pk6 t1 t2 t3 t4 t5 t6) wd=none:=by
  unfold lookD pk6
  simp [Ne.symm e1,Ne.symm e2,Ne.symm e3,Ne.symm e4,Ne.symm e5,Ne.symm e6]
 rw [p,q]
 exact ⟨rfl,fun ns h=>nomatch h⟩
theorem all_mk {l:W.OpenLaw} {w:World} {K:W.Frag} {h:Heap} {mg:Str→Option Value} {fa f1 f2 f3 f4 f5 f6 f7 f8 f9 f10 f11 f12 f13 f14 f15 f16:Addr} (X:K.In h) (G:h.Ns mainGlobals mg) (hfa:mg "law" = some (.ref fa))
  {od1 an1 od2 an2 od3 an3 od4 an4 od5 an5 od6 an6 od7 an7 od8 an8 od9 an9 od10 an10 od11 an11 od12 an12 od13 an13 od14 an14 od15 an15 od16 an16:Option Addr}
  {sl1 sl2 sl3 sl4 sl5 sl6 sl7 sl8 sl9 sl10 sl11 sl12 sl13 sl14 sl15 sl16:Array (Option Value)}
  {oc1 kV1 dc1 pm1 cd1 ct1 oc2 kV2 dc2 pm2 cd2 ct2 oc3 kV3 dc3 pm3 cd3 ct3 oc4 kV4 dc4 pm4 cd4 ct4 oc5 kV5 dc5 pm5 cd5 ct5 oc6 kV6 dc6 pm6 cd6 ct6 oc7 kV7 dc7 pm7 cd7 ct7 oc8 kV8 dc8 pm8 cd8 ct8 oc9 kV9 dc9 pm9 cd9 ct9 oc10 kV10 dc10 pm10 cd10 ct10 oc11 kV11 dc11 pm11 cd11 ct11 oc12 kV12 dc12 pm12 cd12 ct12 oc13 kV13 dc13 pm13 cd13 ct13 oc14 kV14 dc14 pm14 cd14 ct14 oc15 kV15 dc15 pm15 cd15 ct15 oc16 kV16 dc16 pm16 cd16 ct16:Value}
  (a1:W.nsIn K mainGlobals "placed_forms" = some (some (.ref f1))) (l1:K.lookup f1=some ⟨oc1,od1,.func (W.fnOf "placed_forms" "placed_forms" (defArgs s_placed_forms) (defBody s_placed_forms) (defScope s_placed_forms) .none kV1 dc1 pm1 an1 cd1 ct1),sl1⟩) (c1:W.codeIn K cd1 "placed_forms" = true) (k1:W.keepIn K (.ref f1)=true)
  (a2:W.nsIn K mainGlobals "is_finished" = some (some (.ref f2))) (l2:K.lookup f2=some ⟨oc2,od2,.func (W.fnOf "is_finished" "is_finished" (defArgs s_is_finished) (defBody s_is_finished) (defScope s_is_finished) .none kV2 dc2 pm2 an2 cd2 ct2),sl2⟩) (c2:W.codeIn K cd2 "is_finished" = true) (k2:W.keepIn K (.ref f2)=true)
  (a3:W.nsIn K mainGlobals "names_bound" = some (some (.ref f3))) (l3:K.lookup f3=some ⟨oc3,od3,.func (W.fnOf "names_bound" "names_bound" (defArgs s_names_bound) (defBody s_names_bound) (defScope s_names_bound) .none kV3 dc3 pm3 an3 cd3 ct3),sl3⟩) (c3:W.codeIn K cd3 "names_bound" = true) (k3:W.keepIn K (.ref f3)=true)
  (a4:W.nsIn K mainGlobals "are_numbers" = some (some (.ref f4))) (l4:K.lookup f4=some ⟨oc4,od4,.func (W.fnOf "are_numbers" "are_numbers" (defArgs s_are_numbers) (defBody s_are_numbers) (defScope s_are_numbers) .none kV4 dc4 pm4 an4 cd4 ct4),sl4⟩) (c4:W.codeIn K cd4 "are_numbers" = true) (k4:W.keepIn K (.ref f4)=true)
  (a5:W.nsIn K mainGlobals "reckoned" = some (some (.ref f5))) (l5:K.lookup f5=some ⟨oc5,od5,.func (W.fnOf "reckoned" "reckoned" (defArgs s_reckoned) (defBody s_reckoned) (defScope s_reckoned) .none kV5 dc5 pm5 an5 cd5 ct5),sl5⟩) (c5:W.codeIn K cd5 "reckoned" = true) (k5:W.keepIn K (.ref f5)=true)
  (a6:W.nsIn K mainGlobals "run" = some (some (.ref f6))) (l6:K.lookup f6=some ⟨oc6,od6,.func (W.fnOf "run" "run" (defArgs s_run) (defBody s_run) (defScope s_run) .none kV6 dc6 pm6 an6 cd6 ct6),sl6⟩) (c6:W.codeIn K cd6 "run" = true) (k6:W.keepIn K (.ref f6)=true)
  (a7:W.nsIn K mainGlobals "_law_cell" = some (some (.ref f7))) (l7:K.lookup f7=some ⟨oc7,od7,.func (W.fnOf "_law_cell" "_law_cell" (defArgs s_law_cell) (defBody s_law_cell) (defScope s_law_cell) .none kV7 dc7 pm7 an7 cd7 ct7),sl7⟩) (c7:W.codeIn K cd7 "_law_cell" = true) (k7:W.keepIn K (.ref f7)=true)
  (a8:W.nsIn K mainGlobals "_law_mixed" = some (some (.ref f8))) (l8:K.lookup f8=some ⟨oc8,od8,.func (W.fnOf "_law_mixed" "_law_mixed" (defArgs s_law_mixed) (defBody s_law_mixed) (defScope s_law_mixed) .none kV8 dc8 pm8 an8 cd8 ct8),sl8⟩) (c8:W.codeIn K cd8 "_law_mixed" = true) (k8:W.keepIn K (.ref f8)=true)
  (a9:W.nsIn K mainGlobals "_law_same" = some (some (.ref f9))) (l9:K.lookup f9=some ⟨oc9,od9,.func (W.fnOf "_law_same" "_law_same" (defArgs s_law_same) (defBody s_law_same) (defScope s_law_same) .none kV9 dc9 pm9 an9 cd9 ct9),sl9⟩) (c9:W.codeIn K cd9 "_law_same" = true) (k9:W.keepIn K (.ref f9)=true)
  (a10:W.nsIn K mainGlobals "_law_names" = some (some (.ref f10))) (l10:K.lookup f10=some ⟨oc10,od10,.func (W.fnOf "_law_names" "_law_names" (defArgs s_law_names) (defBody s_law_names) (defScope s_law_names) .none kV10 dc10 pm10 an10 cd10 ct10),sl10⟩) (c10:W.codeIn K cd10 "_law_names" = true) (k10:W.keepIn K (.ref f10)=true)
  (a11:W.nsIn K mainGlobals "_law_small" = some (some (.ref f11))) (l11:K.lookup f11=some ⟨oc11,od11,.func (W.fnOf "_law_small" "_law_small" (defArgs s_law_small) (defBody s_law_small) (defScope s_law_small) .none kV11 dc11 pm11 an11 cd11 ct11),sl11⟩) (c11:W.codeIn K cd11 "_law_small" = true) (k11:W.keepIn K (.ref f11)=true)
  (a12:W.nsIn K mainGlobals "_law_tree" = some (some (.ref f12))) (l12:K.lookup f12=some ⟨oc12,od12,.func (W.fnOf "_law_tree" "_law_tree" (defArgs s_law_tree) (defBody s_law_tree) (defScope s_law_tree) .none kV12 dc12 pm12 an12 cd12 ct12),sl12⟩) (c12:W.codeIn K cd12 "_law_tree" = true) (k12:W.keepIn K (.ref f12)=true)
  (a13:W.nsIn K mainGlobals "_law_endless" = some (some (.ref f13))) (l13:K.lookup f13=some ⟨oc13,od13,.func (W.fnOf "_law_endless" "_law_endless" (defArgs s_law_endless) (defBody s_law_endless) (defScope s_law_endless) .none kV13 dc13 pm13 an13 cd13 ct13),sl13⟩) (c13:W.codeIn K cd13 "_law_endless" = true) (k13:W.keepIn K (.ref f13)=true)
  (a14:W.nsIn K mainGlobals "_law_due" = some (some (.ref f14))) (l14:K.lookup f14=some ⟨oc14,od14,.func (W.fnOf "_law_due" "_law_due" (defArgs s_law_due) (defBody s_law_due) (defScope s_law_due) .none kV14 dc14 pm14 an14 cd14 ct14),sl14⟩) (c14:W.codeIn K cd14 "_law_due" = true) (k14:W.keepIn K (.ref f14)=true)
  (a15:W.nsIn K mainGlobals "_law_late" = some (some (.ref f15))) (l15:K.lookup f15=some ⟨oc15,od15,.func (W.fnOf "_law_late" "_law_late" (defArgs s_law_late) (defBody s_law_late) (defScope s_law_late) .none kV15 dc15 pm15 an15 cd15 ct15),sl15⟩) (c15:W.codeIn K cd15 "_law_late" = true) (k15:W.keepIn K (.ref f15)=true)
  (a16:W.nsIn K mainGlobals "law" = some (some (.ref f16))) (l16:K.lookup f16=some ⟨oc16,od16,.func (W.fnOf "law" "law" (defArgs s_law) (defBody s_law) (defScope s_law) .none kV16 dc16 pm16 an16 cd16 ct16),sl16⟩) (c16:W.codeIn K cd16 "law" = true) (k16:W.keepIn K (.ref f16)=true)
  (z1:W.nsIn K mainGlobals "reversed" = some none)
  (z2:W.nsIn K mainGlobals "list" = some none)
  (z3:W.nsIn K mainGlobals "enumerate" = some none)
  (z4:W.nsIn K mainGlobals "all" = some none)
  (z5:W.nsIn K mainGlobals "len" = some none)
  (z6:W.nsIn K mainGlobals "isinstance" = some none)
  (z7:W.nsIn K mainGlobals "bool" = some none)
  (z8:W.nsIn K mainGlobals "tuple" = some none)
  (z9:W.nsIn K mainGlobals "range" = some none)
  (z10:W.nsIn K mainGlobals "str" = some none)
  (z11:W.nsIn K mainGlobals "int" = some none)
  (z12:W.nsIn K mainGlobals "ValueError" = some none)
  (z13:W.nsIn K mainGlobals "max" = some none)
  (z14:W.nsIn K mainGlobals "dict" = some none)
  (z15:W.nsIn K mainGlobals "zip" = some none)
  {gst:Tok} (gs1:W.nsIn K mainGlobals "MOST_STEPS" = some (some (.int 500 gst))) {wa:Addr} {wo:Option Addr} {wi:Array Value} {wn:Nat} {ws:Array (Option Value)} (gw1:W.nsIn K mainGlobals "WORDS_WITH_AROUND" = some (some (.ref wa))) (gw2:K.lookup wa=some ⟨.type "tuple",wo,.seq wi wn,ws⟩) (gw3:absAll wi.toList=some (WA.map V.str)) {pa:Addr} {pi:Array DictEntry} {pn:Nat} {t1 t2 t3 t4 t5 t6:Addr} (gp1:W.nsIn K mainGlobals "PARTS_AWAITED" = some (some (.ref pa))) (gp2:K.lookup pa=some ⟨.type "dict",none,.dict pi pn,#[]⟩) (gp3:(pa == sysModules)=false)
  (gp4:Ents w.params pi.toList (pk6 t1 t2 t3 t4 t5 t6)) {o901:Option Addr} {i901:Array Value} {n901:Nat} {s901:Array (Option Value)} (gt1:K.lookup t1=some ⟨.type "tuple",o901,.seq i901 n901,s901⟩) (gu1:absAll i901.toList=some ([1,0].map V.int)) {o902:Option Addr} {i902:Array Value} {n902:Nat} {s902:Array (Option Value)} (gt2:K.lookup t2=some ⟨.type "tuple",o902,.seq i902 n902,s902⟩) (gu2:absAll i902.toList=some ([1,0].map V.int)) {o903:Option Addr} {i903:Array Value} {n903:Nat} {s903:Array (Option Value)} (gt3:K.lookup t3=some ⟨.type "tuple",o903,.seq i903 n903,s903⟩)
  (gu3:absAll i903.toList=some ([1,0].map V.int)) {o904:Option Addr} {i904:Array Value} {n904:Nat} {s904:Array (Option Value)} (gt4:K.lookup t4=some ⟨.type "tuple",o904,.seq i904 n904,s904⟩) (gu4:absAll i904.toList=some ([1,0].map V.int)) {o905:Option Addr} {i905:Array Value} {n905:Nat} {s905:Array (Option Value)} (gt5:K.lookup t5=some ⟨.type "tuple",o905,.seq i905 n905,s905⟩) (gu5:absAll i905.toList=some ([0].map V.int)) {o906:Option Addr} {i906:Array Value} {n906:Nat} {s906:Array (Option Value)} (gt6:K.lookup t6=some ⟨.type "tuple",o906,.seq i906 n906,s906⟩)
  (gu6:absAll i906.toList=some ([0].map V.int)) {GE:Addr} {cGE:Value} {ddGE:Option Addr} {cdGE:ClassData} {slGE:Array (Option Value)} (xGa:W.nsIn K mainGlobals "GapError" = some (some (.ref GE))) (xGl:K.lookup GE=some ⟨cGE,ddGE,.cls cdGE,slGE⟩) {cN:Value} {ddN:Option Addr} {esN:Array DictEntry} {nN:Nat} {slN:Array (Option Value)} (xGn:K.lookup cdGE.ns=some ⟨cN,ddN,.dict esN nN,slN⟩) (xGk:(esN.toList.all fun e=>match e.key with | .str _ _=>true | _=>false)=true) (xGi:W.nsIn K cdGE.ns "__init__" = some none) (xGt:W.typeIn K (.ref GE)=some (.type "type"))
  (xGb:W.subIn K (.ref GE) (.type "BaseException")=some true) (xcg:W.specialIn K (.builtin "object.__class__") "__get__" = some (some (.builtin "getset_descriptor.__get__"))) (xct:W.takesIn K (.builtin "object.__class__")=some true) {TL:Addr} {ddTL:Option Addr} {slTL:Array (Option Value)} {cdTL:ClassData} {j0TL j1TL j2TL j3TL j5TL:Option Value} (xTLa:W.nsIn K mainGlobals "TooLong" = some (some (.ref TL))) (xTLl:K.lookup TL=some ⟨.type "type",ddTL,.cls cdTL,slTL⟩) (xTLm:cdTL.mro=.ref TL :: .ref GE :: VE) (xTLs:slTL.toList=[j0TL,j1TL,j2TL,j3TL,some (.builtin "ValueError.__new__"),j5TL])
  (xTLd:cdTL.hasDel=false) {cMTL:Value} {ddMTL:Option Addr} {esMTL:Array DictEntry} {nMTL:Nat} {slMTL:Array (Option Value)} (xTLn:K.lookup cdTL.ns=some ⟨cMTL,ddMTL,.dict esMTL nMTL,slMTL⟩) (xTLk:(esMTL.toList.all fun e=>match e.key with | .str _ _=>true | _=>false)=true) (xTLi:W.nsIn K cdTL.ns "__init__" = some none) (xTLt:W.typeIn K (.ref TL)=some (.type "type")) (xTLh:W.hasDictIn K TL=true) (xTLg:W.findIn K (.ref TL) "__getattribute__" = some (some (.builtin "BaseException.__getattribute__"))) (xTLga:W.findIn K (.ref TL) "__getattr__" = some none)
  (xTLsa:W.findIn K (.ref TL) "__setattr__" = some (some (.builtin "object.__setattr__"))) (xTLsub:W.subIn K (.ref TL) (.ref GE)=some true) (xTLself:W.subIn K (.ref TL) (.ref TL)=some true) (xTLb:W.subIn K (.ref TL) (.type "BaseException")=some true) (xTLca:W.findIn K (.ref TL) "__class__" = some (some (.builtin "object.__class__"))) (xTLv:W.subIn K (.ref TL) (.type "ValueError")=some true) {TB:Addr} {cTB:Value} {ddTB:Option Addr} {cdTB:ClassData} {slTB:Array (Option Value)} (xTBa:W.nsIn K mainGlobals "TooBig" = some (some (.ref TB)))
  (xTBl:K.lookup TB=some ⟨cTB,ddTB,.cls cdTB,slTB⟩) (xTBt:W.typeIn K (.ref TB)=some (.type "type")) (sTLTB:W.subIn K (.ref TL) (.ref TB)=some false) (eTLTB:(TL == TB)=false) {ND:Addr} {cND:Value} {ddND:Option Addr} {cdND:ClassData} {slND:Array (Option Value)} (xNDa:W.nsIn K mainGlobals "NoDeed" = some (some (.ref ND))) (xNDl:K.lookup ND=some ⟨cND,ddND,.cls cdND,slND⟩) (xNDt:W.typeIn K (.ref ND)=some (.type "type")) (sTLND:W.subIn K (.ref TL) (.ref ND)=some false) (eTLND:(TL == ND)=false) {AM:Addr} (yMa:W.nsIn K mainGlobals "Machine" = some (some (.ref AM)))
  (yMpg:W.plainGet K AM Str.empty=true) (yMhd:W.hasDictIn K AM=true) (yMpo:W.plainOver K AM=true) (yMsa:W.findIn K (.ref AM) "__setattr__" = some (some (.builtin "object.__setattr__"))) (yMmk:W.makesIn K AM=true) (yMkc:W.keepIn K (.ref AM)=true) (yMnforms:W.findIn K (.ref AM) "forms" = some none) (yMnrows:W.findIn K (.ref AM) "rows" = some none) (yMnwaiting:W.findIn K (.ref AM) "waiting" = some none) (yMnthings:W.findIn K (.ref AM) "things" = some none) (yMnsteps:W.findIn K (.ref AM) "steps" = some none)
  {g_init:Addr} {ocg_init kVg_init dcg_init pmg_init cdg_init ctg_init:Value} {odg_init ang_init:Option Addr} {slg_init:Array (Option Value)} (g_inita:W.findIn K (.ref AM) "__init__" = some (some (.ref g_init))) (g_initi:W.isFn K (.ref g_init)=true) (g_initl:K.lookup g_init=some ⟨ocg_init,odg_init,.func (W.fnOf "__init__" "Machine.__init__" (defArgs s_Machine_init) (defBody s_Machine_init) (defScope s_Machine_init) .none kVg_init dcg_init pmg_init ang_init cdg_init ctg_init),slg_init⟩) (g_initc:W.codeIn K cdg_init "Machine.__init__" = true) (g_initk:W.keepIn K (.ref g_init)=true)
  {g_make_steps:Addr} {ocg_make_steps kVg_make_steps dcg_make_steps pmg_make_steps cdg_make_steps ctg_make_steps:Value} {odg_make_steps ang_make_steps:Option Addr} {slg_make_steps:Array (Option Value)} (g_make_stepsa:W.findIn K (.ref AM) "make_steps" = some (some (.ref g_make_steps))) (g_make_stepsi:W.isFn K (.ref g_make_steps)=true) (g_make_stepsl:K.lookup g_make_steps=some ⟨ocg_make_steps,odg_make_steps,.func (W.fnOf "make_steps" "Machine.make_steps" (defArgs s_Machine_make_steps) (defBody s_Machine_make_steps) (defScope s_Machine_make_steps) .none kVg_make_steps dcg_make_steps pmg_make_steps ang_make_steps cdg_make_steps ctg_make_steps),slg_make_steps⟩)
  (g_make_stepsc:W.codeIn K cdg_make_steps "Machine.make_steps" = true) (g_make_stepsk:W.keepIn K (.ref g_make_steps)=true) {g_new_row:Addr} {ocg_new_row kVg_new_row dcg_new_row pmg_new_row cdg_new_row ctg_new_row:Value} {odg_new_row ang_new_row:Option Addr} {slg_new_row:Array (Option Value)} (g_new_rowa:W.findIn K (.ref AM) "new_row" = some (some (.ref g_new_row))) (g_new_rowi:W.isFn K (.ref g_new_row)=true) (g_new_rowl:K.lookup g_new_row=some ⟨ocg_new_row,odg_new_row,.func (W.fnOf "new_row" "Machine.new_row" (defArgs s_Machine_new_row) (defBody s_Machine_new_row) (defScope s_Machine_new_row) .none kVg_new_row dcg_new_row pmg_new_row ang_new_row cdg_new_row ctg_new_row),slg_new_row⟩)
  (g_new_rowc:W.codeIn K cdg_new_row "Machine.new_row" = true) (g_new_rowk:W.keepIn K (.ref g_new_row)=true) {g_thing_of_leaf:Addr} {ocg_thing_of_leaf kVg_thing_of_leaf dcg_thing_of_leaf pmg_thing_of_leaf cdg_thing_of_leaf ctg_thing_of_leaf:Value} {odg_thing_of_leaf ang_thing_of_leaf:Option Addr} {slg_thing_of_leaf:Array (Option Value)} (g_thing_of_leafa:W.findIn K (.ref AM) "thing_of_leaf" = some (some (.ref g_thing_of_leaf))) (g_thing_of_leafi:W.isFn K (.ref g_thing_of_leaf)=true) (g_thing_of_leafl:K.lookup g_thing_of_leaf=some ⟨ocg_thing_of_leaf,odg_thing_of_leaf,.func (W.fnOf "thing_of_leaf" "Machine.thing_of_leaf" (defArgs s_Machine_thing_of_leaf) (defBody s_Machine_thing_of_leaf) (defScope s_Machine_thing_of_leaf) .none kVg_thing_of_leaf dcg_thing_of_leaf pmg_thing_of_leaf ang_thing_of_leaf cdg_thing_of_leaf ctg_thing_of_leaf),slg_thing_of_leaf⟩)
  (g_thing_of_leafc:W.codeIn K cdg_thing_of_leaf "Machine.thing_of_leaf" = true) (g_thing_of_leafk:W.keepIn K (.ref g_thing_of_leaf)=true) {g_come_to:Addr} {ocg_come_to kVg_come_to dcg_come_to pmg_come_to cdg_come_to ctg_come_to:Value} {odg_come_to ang_come_to:Option Addr} {slg_come_to:Array (Option Value)} (g_come_toa:W.findIn K (.ref AM) "come_to" = some (some (.ref g_come_to))) (g_come_toi:W.isFn K (.ref g_come_to)=true) (g_come_tol:K.lookup g_come_to=some ⟨ocg_come_to,odg_come_to,.func (W.fnOf "come_to" "Machine.come_to" (defArgs s_Machine_come_to) (defBody s_Machine_come_to) (defScope s_Machine_come_to) .none kVg_come_to dcg_come_to pmg_come_to ang_come_to cdg_come_to ctg_come_to),slg_come_to⟩)
  (g_come_toc:W.codeIn K cdg_come_to "Machine.come_to" = true) (g_come_tok:W.keepIn K (.ref g_come_to)=true) {g_taken_things:Addr} {ocg_taken_things kVg_taken_things dcg_taken_things pmg_taken_things cdg_taken_things ctg_taken_things:Value} {odg_taken_things ang_taken_things:Option Addr} {slg_taken_things:Array (Option Value)} (g_taken_thingsa:W.findIn K (.ref AM) "taken_things" = some (some (.ref g_taken_things))) (g_taken_thingsi:W.isFn K (.ref g_taken_things)=true) (g_taken_thingsl:K.lookup g_taken_things=some ⟨ocg_taken_things,odg_taken_things,.func (W.fnOf "taken_things" "Machine.taken_things" (defArgs s_Machine_taken_things) (defBody s_Machine_taken_things) (defScope s_Machine_taken_things) .none kVg_taken_things dcg_taken_things pmg_taken_things ang_taken_things cdg_taken_things ctg_taken_things),slg_taken_things⟩)
  (g_taken_thingsc:W.codeIn K cdg_taken_things "Machine.taken_things" = true) (g_taken_thingsk:W.keepIn K (.ref g_taken_things)=true) {g_go_further:Addr} {ocg_go_further kVg_go_further dcg_go_further pmg_go_further cdg_go_further ctg_go_further:Value} {odg_go_further ang_go_further:Option Addr} {slg_go_further:Array (Option Value)} (g_go_furthera:W.findIn K (.ref AM) "go_further" = some (some (.ref g_go_further))) (g_go_furtheri:W.isFn K (.ref g_go_further)=true) (g_go_furtherl:K.lookup g_go_further=some ⟨ocg_go_further,odg_go_further,.func (W.fnOf "go_further" "Machine.go_further" (defArgs s_Machine_go_further) (defBody s_Machine_go_further) (defScope s_Machine_go_further) .none kVg_go_further dcg_go_further pmg_go_further ang_go_further cdg_go_further ctg_go_further),slg_go_further⟩)
  (g_go_furtherc:W.codeIn K cdg_go_further "Machine.go_further" = true) (g_go_furtherk:W.keepIn K (.ref g_go_further)=true) {g_thing_at_the_end:Addr} {ocg_thing_at_the_end kVg_thing_at_the_end dcg_thing_at_the_end pmg_thing_at_the_end cdg_thing_at_the_end ctg_thing_at_the_end:Value} {odg_thing_at_the_end ang_thing_at_the_end:Option Addr} {slg_thing_at_the_end:Array (Option Value)} (g_thing_at_the_enda:W.findIn K (.ref AM) "thing_at_the_end" = some (some (.ref g_thing_at_the_end))) (g_thing_at_the_endi:W.isFn K (.ref g_thing_at_the_end)=true) (g_thing_at_the_endl:K.lookup g_thing_at_the_end=some ⟨ocg_thing_at_the_end,odg_thing_at_the_end,.func (W.fnOf "thing_at_the_end" "Machine.thing_at_the_end" (defArgs s_Machine_thing_at_the_end) (defBody s_Machine_thing_at_the_end) (defScope s_Machine_thing_at_the_end) .none kVg_thing_at_the_end dcg_thing_at_the_end pmg_thing_at_the_end ang_thing_at_the_end cdg_thing_at_the_end ctg_thing_at_the_end),slg_thing_at_the_end⟩)
  (g_thing_at_the_endc:W.codeIn K cdg_thing_at_the_end "Machine.thing_at_the_end" = true) (g_thing_at_the_endk:W.keepIn K (.ref g_thing_at_the_end)=true) {g_thing_of_form:Addr} {ocg_thing_of_form kVg_thing_of_form dcg_thing_of_form pmg_thing_of_form cdg_thing_of_form ctg_thing_of_form:Value} {odg_thing_of_form ang_thing_of_form:Option Addr} {slg_thing_of_form:Array (Option Value)} (g_thing_of_forma:W.findIn K (.ref AM) "thing_of_form" = some (some (.ref g_thing_of_form))) (g_thing_of_formi:W.isFn K (.ref g_thing_of_form)=true) (g_thing_of_forml:K.lookup g_thing_of_form=some ⟨ocg_thing_of_form,odg_thing_of_form,.func (W.fnOf "thing_of_form" "Machine.thing_of_form" (defArgs s_Machine_thing_of_form) (defBody s_Machine_thing_of_form) (defScope s_Machine_thing_of_form) .none kVg_thing_of_form dcg_thing_of_form pmg_thing_of_form ang_thing_of_form cdg_thing_of_form ctg_thing_of_form),slg_thing_of_form⟩)
  (g_thing_of_formc:W.codeIn K cdg_thing_of_form "Machine.thing_of_form" = true) (g_thing_of_formk:W.keepIn K (.ref g_thing_of_form)=true) {g_go_within:Addr} {ocg_go_within kVg_go_within dcg_go_within pmg_go_within cdg_go_within ctg_go_within:Value} {odg_go_within ang_go_within:Option Addr} {slg_go_within:Array (Option Value)} (g_go_withina:W.findIn K (.ref AM) "go_within" = some (some (.ref g_go_within))) (g_go_withini:W.isFn K (.ref g_go_within)=true) (g_go_withinl:K.lookup g_go_within=some ⟨ocg_go_within,odg_go_within,.func (W.fnOf "go_within" "Machine.go_within" (defArgs s_Machine_go_within) (defBody s_Machine_go_within) (defScope s_Machine_go_within) .none kVg_go_within dcg_go_within pmg_go_within ang_go_within cdg_go_within ctg_go_within),slg_go_within⟩)
  (g_go_withinc:W.codeIn K cdg_go_within "Machine.go_within" = true) (g_go_withink:W.keepIn K (.ref g_go_within)=true) {g_is_function:Addr} {ocg_is_function kVg_is_function dcg_is_function pmg_is_function cdg_is_function ctg_is_function:Value} {odg_is_function ang_is_function:Option Addr} {slg_is_function:Array (Option Value)} (g_is_functiona:W.findIn K (.ref AM) "is_function" = some (some (.ref g_is_function))) (g_is_functioni:W.isFn K (.ref g_is_function)=true) (g_is_functionl:K.lookup g_is_function=some ⟨ocg_is_function,odg_is_function,.func (W.fnOf "is_function" "Machine.is_function" (defArgs s_Machine_is_function) (defBody s_Machine_is_function) (defScope s_Machine_is_function) .none kVg_is_function dcg_is_function pmg_is_function ang_is_function cdg_is_function ctg_is_function),slg_is_function⟩)
  (g_is_functionc:W.codeIn K cdg_is_function "Machine.is_function" = true) (g_is_functionk:W.keepIn K (.ref g_is_function)=true) {g_call:Addr} {ocg_call kVg_call dcg_call pmg_call cdg_call ctg_call:Value} {odg_call ang_call:Option Addr} {slg_call:Array (Option Value)} (g_calla:W.findIn K (.ref AM) "call" = some (some (.ref g_call))) (g_calli:W.isFn K (.ref g_call)=true) (g_calll:K.lookup g_call=some ⟨ocg_call,odg_call,.func (W.fnOf "call" "Machine.call" (defArgs s_Machine_call) (defBody s_Machine_call) (defScope s_Machine_call) .none kVg_call dcg_call pmg_call ang_call cdg_call ctg_call),slg_call⟩)
  (g_callc:W.codeIn K cdg_call "Machine.call" = true) (g_callk:W.keepIn K (.ref g_call)=true) :
  ∃ fd:FuncData,(∀ (s:Shared) (v:Value),BindsTo s fd ⟨[v],[]⟩ [("_law_script",v)])∧∀ base:Heap,K.In base→base.Ns mainGlobals mg→FnOk l.prog w K mg base CX0 10 fa fd ["_law_script"] (spLaw K):=by
 have e:=hfa.symm.trans (W.mg_of X G a16)
 cases e
 have T:Txt K mg:={ reversed:=W.mg_none_of X G z1,list:=W.mg_none_of X G z2,enumerate:=W.mg_none_of X G z3,all:=W.mg_none_of X G z4,len:=W.mg_none_of X G z5,isinstance:=W.mg_none_of X G z6,bool:=W.mg_none_of X G z7,tuple:=W.mg_none_of X G z8,range:=W.mg_none_of X G z9,str:=W.mg_none_of X G z10,int:=W.mg_none_of X G z11,ValueError:=W.mg_none_of X G z12,max:=W.mg_none_of X G z13,dict:=W.mg_none_of X G z14,zip:=W.mg_none_of X G z15 }
 have F1:=fun_mk (st:=s_placed_forms) l1 c1 k1
 have b1:=F1.binds (ps:=["tree"]) fun _ _ _ _ _ _=>all1 fun _=>rfl
 have F2:=fun_mk (st:=s_is_finished) l2 c2 k2
 have b2:=F2.binds (ps:=["thing", "rows"]) fun _ _ _ _ _ _=>all2 fun _ _=>rfl
 have F3:=fun_mk (st:=s_names_bound) l3 c3 k3
 have b3:=F3.binds (ps:=["form", "number"]) fun _ _ _ _ _ _=>all2 fun _ _=>rfl
 have F4:=fun_mk (st:=s_are_numbers) l4 c4 k4
 have b4:=F4.binds (ps:=["things"]) fun _ _ _ _ _ _=>all1 fun _=>rfl
 have F5:=fun_mk (st:=s_reckoned) l5 c5 k5
 have b5:=F5.binds (ps:=["word", "left", "right"]) fun _ _ _ _ _ _=>all3 fun _ _ _=>rfl
 have F6:=fun_mk (st:=s_run) l6 c6 k6
 have b6:=F6.binds (ps:=["tree"]) fun _ _ _ _ _ _=>all1 fun _=>rfl
 have F7:=fun_mk (st:=s_law_cell) l7 c7 k7
 have b7:=F7.binds (ps:=["_law_script", "_law_k"]) fun _ _ _ _ _ _=>all2 fun _ _=>rfl
 have F8:=fun_mk (st:=s_law_mixed) l8 c8 k8
 have b8:=F8.binds (ps:=["_law_cell_here", "_law_k"]) fun _ _ _ _ _ _=>all2 fun _ _=>rfl
 have F9:=fun_mk (st:=s_law_same) l9 c9 k9
 have b9:=F9.binds (ps:=["_law_found", "_law_due_here"]) fun _ _ _ _ _ _=>all2 fun _ _=>rfl
 have F10:=fun_mk (st:=s_law_names) l10 c10 k10
 have b10:=F10.binds (ps:=["_law_cell_here", "_law_many"]) fun _ _ _ _ _ _=>all2 fun _ _=>rfl
 have F11:=fun_mk (st:=s_law_small) l11 c11 k11
 have b11:=F11.binds (ps:=["_law_cell_here", "_law_many"]) fun _ _ _ _ _ _=>all2 fun _ _=>rfl
 have F12:=fun_mk (st:=s_law_tree) l12 c12 k12
 have b12:=F12.binds (ps:=["_law_names_here", "_law_limit", "_law_base", "_law_down"]) fun _ _ _ _ _ _=>all4 fun _ _ _ _=>rfl
 have F13:=fun_mk (st:=s_law_endless) l13 c13 k13
 have b13:=F13.binds (ps:=["_law_names_here", "_law_many"]) fun _ _ _ _ _ _=>all2 fun _ _=>rfl
 have F14:=fun_mk (st:=s_law_due) l14 c14 k14
 have b14:=F14.binds (ps:=["_law_names_here", "_law_base", "_law_start", "_law_down", "_law_times"]) fun _ _ _ _ _ _=>all5 fun _ _ _ _ _=>rfl
 have F15:=fun_mk (st:=s_law_late) l15 c15 k15
 have b15:=F15.binds (ps:=["_law_tree_here"]) fun _ _ _ _ _ _=>all1 fun _=>rfl
 have F16:=fun_mk (st:=s_law) l16 c16 k16
 have b16:=F16.binds (ps:=["_law_script"]) fun _ _ _ _ _ _=>all1 fun _=>rfl
 refine ⟨W.fnOf "law" "law" (defArgs s_law) (defBody s_law) (defScope s_law) .none kV16 dc16 pm16 an16 cd16 ct16,fun s v=>.of_eq rfl,fun base _ _=>?_⟩
 have GMS:Glob mg "MOST_STEPS" (.int 500):=⟨_,W.mg_of X G gs1,⟨_,rfl⟩⟩
 have GWA:Glob mg "WORDS_WITH_AROUND" (.ref wa):=⟨_,W.mg_of X G gw1,rfl⟩
 have HWA:=top_tuple gw2 gw3 (by decide)
 have GPA:Glob mg "PARTS_AWAITED" (.ref pa):=⟨_,W.mg_of X G gp1,rfl⟩
 have HPA:DkK l.prog w K pa (pk6 t1 t2 t3 t4 t5 t6):=dk_mk gp2 gp3 gp4 pk6_nd
 have HPK:=parts_ok (K:=K) (top_tuple gt1 gu1 (by decide)) (top_tuple gt2 gu2 (by decide)) (top_tuple gt3 gu3 (by decide)) (top_tuple gt4 gu4 (by decide)) (top_tuple gt5 gu5 (by decide)) (top_tuple gt6 gu6 (by decide))
 have xGo:W.nsOkIn K cdGE.ns=true:=by unfold W.nsOkIn; rw [xGn]; show (esN.all fun e=>match e.key with | .str _ _=>true | _=>false)=true; rw [← Array.all_toList]; exact xGk
 obtain ⟨tG,iG⟩:=tail_GE xGl xGo xGi
 have gG:=W.mg_of X G xGa
 have XG:ExcC K GE:=⟨xGt,iG,xGb⟩
 have xTLo:W.nsOkIn K cdTL.ns=true:=by unfold W.nsOkIn; rw [xTLn]; show (esMTL.all fun e=>match e.key with | .str _ _=>true | _=>false)=true; rw [← Array.all_toList]; exact xTLk
 have rTL:=excIn_mk xTLl xTLm xTLs xTLd tG xTLo xTLi
 have gTL:=W.mg_of X G xTLa
 have nTL:ExN K TL:={ toExC:=⟨(excI_mk xTLl xTLm xTLs xTLd tG).2,xTLh,xTLg,xTLga,xTLsa,xTLt⟩,ca:=xTLca,cg:=xcg,ct:=xct }
 have XTL:ExcC K TL:=⟨xTLt,by unfold W.clsIn; rw [xTLl]; rfl,xTLb⟩
 have gTB:=W.mg_of X G xTBa
 have kTB:=kit_ref xTBl xTBt sTLTB fun _=>eTLTB
 have gND:=W.mg_of X G xNDa
 have kND:=kit_ref xNDl xNDt sTLND fun _=>eTLND
 have TLK:TLc K TL GE TB ND:=⟨xTLsub,kit_ref xTLl xTLt xTLself (fun h=>nomatch h),kit_ty xTLv,by simp only [W.kitAny,kTB,kND],nTL⟩
 have clM:Cls K AM:=⟨yMpg,yMhd,yMpo,yMsa⟩
 have MCx:Mc K AM:=⟨clM,yMnforms,yMnrows,yMnwaiting,yMnthings,yMnsteps⟩
 have Fg_init:=fun_mk (st:=s_Machine_init) g_initl g_initc g_initk
 have bg_init:=Fg_init.binds (ps:=["self", "tree", "steps"]) fun _ _ _ _ _ _=>all3 fun _ _ _=>rfl
 have Fg_make_steps:=fun_mk (st:=s_Machine_make_steps) g_make_stepsl g_make_stepsc g_make_stepsk
 have bg_make_steps:=Fg_make_steps.binds (ps:=["self", "many"]) fun _ _ _ _ _ _=>all2 fun _ _=>rfl
 have Fg_new_row:=fun_mk (st:=s_Machine_new_row) g_new_rowl g_new_rowc g_new_rowk
 have bg_new_row:=Fg_new_row.binds (ps:=["self", "word", "place", "operands", "around"]) fun _ _ _ _ _ _=>all5 fun _ _ _ _ _=>rfl
 have Fg_thing_of_leaf:=fun_mk (st:=s_Machine_thing_of_leaf) g_thing_of_leafl g_thing_of_leafc g_thing_of_leafk
 have bg_thing_of_leaf:=Fg_thing_of_leaf.binds (ps:=["self", "word", "note", "place", "around"]) fun _ _ _ _ _ _=>all5 fun _ _ _ _ _=>rfl
 have Fg_come_to:=fun_mk (st:=s_Machine_come_to) g_come_tol g_come_toc g_come_tok
 have bg_come_to:=Fg_come_to.binds (ps:=["self", "place", "around"]) fun _ _ _ _ _ _=>all3 fun _ _ _=>rfl
 have Fg_taken_things:=fun_mk (st:=s_Machine_taken_things) g_taken_thingsl g_taken_thingsc g_taken_thingsk
 have bg_taken_things:=Fg_taken_things.binds (ps:=["self", "many"]) fun _ _ _ _ _ _=>all2 fun _ _=>rfl
 have Fg_go_further:=fun_mk (st:=s_Machine_go_further) g_go_furtherl g_go_furtherc g_go_furtherk
 have bg_go_further:=Fg_go_further.binds (ps:=["self", "place", "around"]) fun _ _ _ _ _ _=>all3 fun _ _ _=>rfl
 have Fg_thing_at_the_end:=fun_mk (st:=s_Machine_thing_at_the_end) g_thing_at_the_endl g_thing_at_the_endc g_thing_at_the_endk
 have bg_thing_at_the_end:=Fg_thing_at_the_end.binds (ps:=["self"]) fun _ _ _ _ _ _=>all1 fun _=>rfl
 have Fg_thing_of_form:=fun_mk (st:=s_Machine_thing_of_form) g_thing_of_forml g_thing_of_formc g_thing_of_formk
 have bg_thing_of_form:=Fg_thing_of_form.binds (ps:=["self", "place", "around"]) fun _ _ _ _ _ _=>all3 fun _ _ _=>rfl
 have Fg_go_within:=fun_mk (st:=s_Machine_go_within) g_go_withinl g_go_withinc g_go_withink
 have bg_go_within:=Fg_go_within.binds (ps:=["self", "place", "number", "around", "things"]) fun _ _ _ _ _ _=>all5 fun _ _ _ _ _=>rfl
 have Fg_is_function:=fun_mk (st:=s_Machine_is_function) g_is_functionl g_is_functionc g_is_functionk
 have bg_is_function:=Fg_is_function.binds (ps:=["self", "thing"]) fun _ _ _ _ _ _=>all2 fun _ _=>rfl
 have Fg_call:=fun_mk (st:=s_Machine_call) g_calll g_callc g_callk
 have bg_call:=Fg_call.binds (ps:=["self", "operands"]) fun _ _ _ _ _ _=>all2 fun _ _=>rfl
 have C_placed_forms:=callee_of (P:=l.prog) (w:=w) (base:=base) (ok_placed F1 T) (W.mg_of X G a1) k1 b1
 have C_is_finished:=callee_of (P:=l.prog) (w:=w) (base:=base) (ok_fin F2 T) (W.mg_of X G a2) k2 b2
 have C_names_bound:=callee_of (P:=l.prog) (w:=w) (base:=base) (ok_bound F3 T) (W.mg_of X G a3) k3 b3
 have C_are_numbers:=callee_of (P:=l.prog) (w:=w) (base:=base) (ok_nums F4 T) (W.mg_of X G a4) k4 b4
 have C_reckoned:=callee_of (P:=l.prog) (w:=w) (base:=base) (ok_reck F5 T) (W.mg_of X G a5) k5 b5
 have M1:MethX CX0 l.prog w K mg base 1 AM "make_steps" ["self", "many"] (sp_make K AM):=⟨g_make_steps,_,ok_make Fg_make_steps T MCx GMS,clM,⟨g_make_stepsa,g_make_stepsi,g_make_stepsk⟩,bg_make_steps⟩
 have M2:MethX CX0 l.prog w K mg base 1 AM "new_row" ["self", "word", "place", "operands", "around"] (sp_newrow K AM):=⟨g_new_row,_,ok_newrow Fg_new_row T MCx GWA HWA,clM,⟨g_new_rowa,g_new_rowi,g_new_rowk⟩,bg_new_row⟩
 have M3:MethX CX0 l.prog w K mg base 2 AM "thing_of_leaf" ["self", "word", "note", "place", "around"] (sp_leaf K AM):=⟨g_thing_of_leaf,_,ok_leaf Fg_thing_of_leaf T MCx M2,clM,⟨g_thing_of_leafa,g_thing_of_leafi,g_thing_of_leafk⟩,bg_thing_of_leaf⟩
 have M4:MethX CX0 l.prog w K mg base 3 AM "come_to" ["self", "place", "around"] (sp_come K AM):=⟨g_come_to,_,ok_come Fg_come_to T MCx GPA HPA HPK M1 M3,clM,⟨g_come_toa,g_come_toi,g_come_tok⟩,bg_come_to⟩
 have M5:MethX CX0 l.prog w K mg base 1 AM "taken_things" ["self", "many"] (sp_taken K AM):=⟨g_taken_things,_,ok_taken Fg_taken_things T MCx,clM,⟨g_taken_thingsa,g_taken_thingsi,g_taken_thingsk⟩,bg_taken_things⟩
 have MW:MethX CX0 l.prog w K mg base 2 AM "go_within" ["self", "place", "number", "around", "things"] (sp_within K AM):=⟨g_go_within,_,ok_within Fg_go_within T MCx C_names_bound,clM,⟨g_go_withina,g_go_withini,g_go_withink⟩,bg_go_within⟩
 have MI:MethX CX0 l.prog w K mg base 2 AM "is_function" ["self", "thing"] (sp_isfn K AM):=⟨g_is_function,_,ok_isfn Fg_is_function T MCx C_is_finished,clM,⟨g_is_functiona,g_is_functioni,g_is_functionk⟩,bg_is_function⟩
 have MCa:MethX CX0 l.prog w K mg base 3 AM "call" ["self", "operands"] (sp_call K AM):=⟨g_call,_,ok_call Fg_call T MCx MW,clM,⟨g_calla,g_calli,g_callk⟩,bg_call⟩
 have M6:MethX CX0 l.prog w K mg base 4 AM "go_further" ["self", "place", "around"] (sp_further K AM):=⟨g_go_further,_,ok_further Fg_go_further T MCx GPA HPA HPK M5 M2 MW MCa MI C_are_numbers C_reckoned,clM,⟨g_go_furthera,g_go_furtheri,g_go_furtherk⟩,bg_go_further⟩
 have M7:MethX CX0 l.prog w K mg base 5 AM "thing_at_the_end" ["self"] (sp_end K AM):=⟨g_thing_at_the_end,_,ok_end Fg_thing_at_the_end T MCx M4 M6,clM,⟨g_thing_at_the_enda,g_thing_at_the_endi,g_thing_at_the_endk⟩,bg_thing_at_the_end⟩
 have MF:MethX CX0 l.prog w K mg base 6 AM "thing_of_form" ["self", "place", "around"] (sp_tof K AM):=⟨g_thing_of_form,_,ok_tof Fg_thing_of_form T MCx M7,clM,⟨g_thing_of_forma,g_thing_of_formi,g_thing_of_formk⟩,bg_thing_of_form⟩
 have M1L:MethX (CXR l.prog w) l.prog w K mg base 1 AM "make_steps" ["self", "many"] (sp_makeL K AM TL):=⟨g_make_steps,_,ok_makeL Fg_make_steps T MCx GMS rTL gTL,clM,⟨g_make_stepsa,g_make_stepsi,g_make_stepsk⟩,bg_make_steps⟩
 have M4X:MethX (CXR l.prog w) l.prog w K mg base 3 AM "come_to" ["self", "place", "around"] (fun vs H Q E=>sp_come K AM vs H Q E∨sp_comeL K AM TL vs H Q E):=⟨g_come_to,_,fn_or (fn_cx (ok_come Fg_come_to T MCx GPA HPA HPK M1 M3)) (ok_comeL Fg_come_to T MCx GPA HPA HPK M1L M3),clM,⟨g_come_toa,g_come_toi,g_come_tok⟩,bg_come_to⟩
 have M7L:MethX (CXR l.prog w) l.prog w K mg base 5 AM "thing_at_the_end" ["self"] (sp_endL K AM TL):=⟨g_thing_at_the_end,_,ok_endL Fg_thing_at_the_end T MCx M4X M6,clM,⟨g_thing_at_the_enda,g_thing_at_the_endi,g_thing_at_the_endk⟩,bg_thing_at_the_end⟩
 have MFL:MethX (CXR l.prog w) l.prog w K mg base 6 AM "thing_of_form" ["self", "place", "around"] (sp_tofL K AM TL):=⟨g_thing_of_form,_,ok_tofL Fg_thing_of_form T MCx M7L,clM,⟨g_thing_of_forma,g_thing_of_formi,g_thing_of_formk⟩,bg_thing_of_form⟩
 have MkM:MakeX CX0 l.prog w K mg base 2 "Machine" AM ["self", "tree", "steps"] (sp_init K AM):=⟨g_init,_,ok_init Fg_init T MCx C_placed_forms M1,⟨yMmk,g_inita,g_initi,yMkc⟩,W.mg_of X G yMa,bg_init⟩
 have C_run:CalleeX l.prog w K mg base 7 "run" ["tree"] (sp_runX K TL):=calleex_of (P:=l.prog) (w:=w) (base:=base) ((fn_or (fn_cx (ok_run F6 T MCx MkM MF)) (ok_runL F6 T MCx MkM MFL))) (W.mg_of X G a6) k6 b6
 have C__law_cell:=callee_of (P:=l.prog) (w:=w) (base:=base) (ok_cell F7 T) (W.mg_of X G a7) k7 b7
 have C__law_mixed:=callee_of (P:=l.prog) (w:=w) (base:=base) (ok_mixed F8 T) (W.mg_of X G a8) k8 b8
 have C__law_same:=callee_of (P:=l.prog) (w:=w) (base:=base) (rec_same F9 T (fun n h=>callee_of h (W.mg_of X G a9) k9 b9) 8) (W.mg_of X G a9) k9 b9
 have C__law_names:=callee_of (P:=l.prog) (w:=w) (base:=base) (ok_names F10 T C__law_mixed) (W.mg_of X G a10) k10 b10
 have C__law_small:=callee_of (P:=l.prog) (w:=w) (base:=base) (ok_small F11 T) (W.mg_of X G a11) k11 b11
 have C__law_tree:=callee_of (P:=l.prog) (w:=w) (base:=base) (ok_ltree F12 T) (W.mg_of X G a12) k12 b12
 have C__law_endless:=callee_of (P:=l.prog) (w:=w) (base:=base) (ok_endl F13 T) (W.mg_of X G a13) k13 b13
 have C__law_due:=callee_of (P:=l.prog) (w:=w) (base:=base) (ok_due F14 T) (W.mg_of X G a14) k14 b14
 have C__law_late:=callee_of (P:=l.prog) (w:=w) (base:=base) (ok_late F15 T C_run XG gG gTL gTB gND TLK) (W.mg_of X G a15) k15 b15
 exact ok_law F16 T C__law_cell C__law_mixed C__law_names C__law_small C__law_tree C__law_endless C__law_due C_run C__law_late XTL gTL xTLself C__law_same
theorem walk {l:W.OpenLaw} {q:Program} {loose:List Str} {XP:(Str→Option Value)→Heap→Prop} {YP:World→Heap→Prop} {d:DefRec} {K:Params→W.Frag} (hn:l.most=some 63) (hdf:d.params.defaults=[])
  (hY:∀ (w:World) (h:Heap),YP w h→(K w.params).In h)
  (F:∀ (w:World) (mg:Str→Option Value) (fa:Addr) (h:Heap),(K w.params).In h→h.Ns mainGlobals mg→mg d.name=some (.ref fa) →
   ∃ fd:FuncData,(∀ (s:Shared) (u:Value),BindsTo s fd ⟨[u],[]⟩ [("_law_script",u)])∧∀ base:Heap,(K w.params).In base→base.Ns mainGlobals mg→FnOk l.prog w (K w.params) mg base CX0 10 fa fd ["_law_script"] (spLaw (K w.params))) :
  W.WalkO q loose XP YP l.row.toRowW d [] (fun f vs=>PySem.call f vs) :=
 L2.walk_of (n:=63) (k:=10) (x := "_law_script") (CX:=fun _=>CX0) (sp:=fun w=>spLaw (K w.params)) hn (by decide) hdf ⟨rfl,by decide,by decide⟩ hY F (fun _ _ a ns hl _ hS=>⟨a,ns,rfl,hS,hl,fun _=>rfl⟩) fun _ _ _ _ _ z=>z
end K44
open PySem PySem.W PyProof.Rows
set_option maxRecDepth 100000 in
set_option maxHeartbeats 0 in
theorem PySem.Challenge.cw_gapscribe_k44_rec_and_steps_holds : PySem.Challenge.rw_gapscribe_k44_rec_and_steps.Holds := by
 w_on; o_law; o_head (W.kHook K44.KK K44.KA (fun _=>by kernel_rfl)); (case hw=>w_witness2)
 k_fill
 refine K44.walk (l:=PySem.Challenge.rw_gapscribe_k44_rec_and_steps) rfl rfl (fun w h Y=>W.kIn_of Y) ?F
 case F =>
  intro w mg fa h KX G hmg
  refine' K44.all_mk KX G hmg ?a1 ?l1 ?c1 ?k1 ?a2 ?l2 ?c2 ?k2 ?a3 ?l3 ?c3 ?k3 ?a4 ?l4 ?c4 ?k4 ?a5 ?l5 ?c5 ?k5 ?a6 ?l6 ?c6 ?k6 ?a7 ?l7 ?c7 ?k7 ?a8 ?l8 ?c8 ?k8 ?a9 ?l9 ?c9 ?k9 ?a10 ?l10 ?c10 ?k10 ?a11 ?l11 ?c11 ?k11 ?a12 ?l12 ?c12 ?k12 ?a13 ?l13 ?c13 ?k13 ?a14 ?l14 ?c14 ?k14 ?a15 ?l15 ?c15 ?k15 ?a16 ?l16 ?c16 ?k16 ?z1 ?z2 ?z3 ?z4 ?z5 ?z6 ?z7 ?z8 ?z9 ?z10 ?z11 ?z12 ?z13 ?z14 ?z15 ?gs1 ?gw1 ?gw2 ?gw3 ?gp1 ?gp2 ?gp3 ?gp4 ?gt1 ?gu1 ?gt2 ?gu2 ?gt3 ?gu3 ?gt4 ?gu4 ?gt5 ?gu5 ?gt6 ?gu6 ?xGa ?xGl ?xGn ?xGk ?xGi ?xGt ?xGb ?xcg ?xct ?xTLa ?xTLl ?xTLm ?xTLs ?xTLd ?xTLn ?xTLk ?xTLi ?xTLt ?xTLh ?xTLg ?xTLga ?xTLsa ?xTLsub ?xTLself ?xTLb ?xTLca ?xTLv ?xTBa ?xTBl ?xTBt ?sTLTB ?eTLTB ?xNDa ?xNDl ?xNDt ?sTLND ?eTLND ?yMa ?yMpg ?yMhd ?yMpo ?yMsa ?yMmk ?yMkc ?yMnforms ?yMnrows ?yMnwaiting ?yMnthings ?yMnsteps ?g_inita ?g_initi ?g_initl ?g_initc ?g_initk ?g_make_stepsa ?g_make_stepsi ?g_make_stepsl ?g_make_stepsc ?g_make_stepsk ?g_new_rowa ?g_new_rowi ?g_new_rowl ?g_new_rowc ?g_new_rowk ?g_thing_of_leafa ?g_thing_of_leafi ?g_thing_of_leafl ?g_thing_of_leafc ?g_thing_of_leafk ?g_come_toa ?g_come_toi ?g_come_tol ?g_come_toc ?g_come_tok ?g_taken_thingsa ?g_taken_thingsi ?g_taken_thingsl ?g_taken_thingsc ?g_taken_thingsk ?g_go_furthera ?g_go_furtheri ?g_go_furtherl ?g_go_furtherc ?g_go_furtherk ?g_thing_at_the_enda ?g_thing_at_the_endi ?g_thing_at_the_endl ?g_thing_at_the_endc ?g_thing_at_the_endk ?g_thing_of_forma ?g_thing_of_formi ?g_thing_of_forml ?g_thing_of_formc ?g_thing_of_formk ?g_go_withina ?g_go_withini ?g_go_withinl ?g_go_withinc ?g_go_withink ?g_is_functiona ?g_is_functioni ?g_is_functionl ?g_is_functionc ?g_is_functionk ?g_calla ?g_calli ?g_calll ?g_callc ?g_callk
  (case a1=>k_is)
  (case l1=>k_is)
  (case c1=>k_is)
  (case k1=>k_is)
  (case a2=>k_is)
  (case l2=>k_is)
  (case c2=>k_is)
  (case k2=>k_is)
  (case a3=>k_is)
  (case l3=>k_is)
  (case c3=>k_is)
  (case k3=>k_is)
  (case a4=>k_is)
  (case l4=>k_is)
  (case c4=>k_is)
  (case k4=>k_is)
  (case a5=>k_is)
  (case l5=>k_is)
  (case c5=>k_is)
  (case k5=>k_is)
  (case a6=>k_is)
  (case l6=>k_is)
  (case c6=>k_is)
  (case k6=>k_is)
  (case a7=>k_is)
  (case l7=>k_is)
  (case c7=>k_is)
  (case k7=>k_is)
  (case a8=>k_is)
  (case l8=>k_is)
  (case c8=>k_is)
  (case k8=>k_is)
  (case a9=>k_is)
  (case l9=>k_is)
  (case c9=>k_is)
  (case k9=>k_is)
  (case a10=>k_is)
  (case l10=>k_is)
  (case c10=>k_is)
  (case k10=>k_is)
  (case a11=>k_is)
  (case l11=>k_is)
  (case c11=>k_is)
  (case k11=>k_is)
  (case a12=>k_is)
  (case l12=>k_is)
  (case c12=>k_is)
  (case k12=>k_is)
  (case a13=>k_is)
  (case l13=>k_is)
  (case c13=>k_is)
  (case k13=>k_is)
  (case a14=>k_is)
  (case l14=>k_is)
  (case c14=>k_is)
  (case k14=>k_is)
  (case a15=>k_is)
  (case l15=>k_is)
  (case c15=>k_is)
  (case k15=>k_is)
  (case a16=>k_is)
  (case l16=>k_is)
  (case c16=>k_is)
  (case k16=>k_is)
  (case z1=>k_is)
  (case z2=>k_is)
  (case z3=>k_is)
  (case z4=>k_is)
  (case z5=>k_is)
  (case z6=>k_is)
  (case z7=>k_is)
  (case z8=>k_is)
  (case z9=>k_is)
  (case z10=>k_is)
  (case z11=>k_is)
  (case z12=>k_is)
  (case z13=>k_is)
  (case z14=>k_is)
  (case z15=>k_is)
  (case gs1=>k_is)
  (case gw1=>k_is)
  (case gw2=>k_is)
  (case gw3=>rfl)
  (case gp1=>k_is)
  (case gp2=>k_is)
  (case gp3=>rfl)
  (case gp4=>(repeat (first | exact .nil | refine .cons rfl ?_)))
  (case gt1=>k_is)
  (case gu1=>rfl)
  (case gt2=>k_is)
  (case gu2=>rfl)
  (case gt3=>k_is)
  (case gu3=>rfl)
  (case gt4=>k_is)
  (case gu4=>rfl)
  (case gt5=>k_is)
  (case gu5=>rfl)
  (case gt6=>k_is)
  (case gu6=>rfl)
  (case xGa=>k_is)
  (case xGl=>k_is)
  (case xGn=>k_is)
  (case xGk=>rfl)
  (case xGi=>k_is)
  (case xGt=>k_is)
  (case xGb=>k_is)
  (case xcg=>k_is)
  (case xct=>k_is)
  (case xTLa=>k_is)
  (case xTLl=>k_is)
  (case xTLm=>rfl)
  (case xTLs=>rfl)
  (case xTLd=>rfl)
  (case xTLn=>k_is)
  (case xTLk=>rfl)
  (case xTLi=>k_is)
  (case xTLt=>k_is)
  (case xTLh=>k_is)
  (case xTLg=>k_is)
  (case xTLga=>k_is)
  (case xTLsa=>k_is)
  (case xTLsub=>k_is)
  (case xTLself=>k_is)
  (case xTLb=>k_is)
  (case xTLca=>k_is)
  (case xTLv=>k_is)
  (case xTBa=>k_is)
  (case xTBl=>k_is)
  (case xTBt=>k_is)
  (case sTLTB=>k_is)
  (case eTLTB=>rfl)
  (case xNDa=>k_is)
  (case xNDl=>k_is)
  (case xNDt=>k_is)
  (case sTLND=>k_is)
  (case eTLND=>rfl)
  (case yMa=>k_is)
  (case yMpg=>k_is)
  (case yMhd=>k_is)
  (case yMpo=>k_is)
  (case yMsa=>k_is)
  (case yMmk=>k_is)
  (case yMkc=>k_is)
  (case yMnforms=>k_is)
  (case yMnrows=>k_is)
  (case yMnwaiting=>k_is)
  (case yMnthings=>k_is)
  (case yMnsteps=>k_is)
  (case g_inita=>k_is)
  (case g_initi=>k_is)
  (case g_initl=>k_is)
  (case g_initc=>k_is)
  (case g_initk=>k_is)
  (case g_make_stepsa=>k_is)
  (case g_make_stepsi=>k_is)
  (case g_make_stepsl=>k_is)
  (case g_make_stepsc=>k_is)
  (case g_make_stepsk=>k_is)
  (case g_new_rowa=>k_is)
  (case g_new_rowi=>k_is)
  (case g_new_rowl=>k_is)
  (case g_new_rowc=>k_is)
  (case g_new_rowk=>k_is)
  (case g_thing_of_leafa=>k_is)
  (case g_thing_of_leafi=>k_is)
  (case g_thing_of_leafl=>k_is)
  (case g_thing_of_leafc=>k_is)
  (case g_thing_of_leafk=>k_is)
  (case g_come_toa=>k_is)
  (case g_come_toi=>k_is)
  (case g_come_tol=>k_is)
  (case g_come_toc=>k_is)
  (case g_come_tok=>k_is)
  (case g_taken_thingsa=>k_is)
  (case g_taken_thingsi=>k_is)
  (case g_taken_thingsl=>k_is)
  (case g_taken_thingsc=>k_is)
  (case g_taken_thingsk=>k_is)
  (case g_go_furthera=>k_is)
  (case g_go_furtheri=>k_is)
  (case g_go_furtherl=>k_is)
  (case g_go_furtherc=>k_is)
  (case g_go_furtherk=>k_is)
  (case g_thing_at_the_enda=>k_is)
  (case g_thing_at_the_endi=>k_is)
  (case g_thing_at_the_endl=>k_is)
  (case g_thing_at_the_endc=>k_is)
  (case g_thing_at_the_endk=>k_is)
  (case g_thing_of_forma=>k_is)
  (case g_thing_of_formi=>k_is)
  (case g_thing_of_forml=>k_is)
  (case g_thing_of_formc=>k_is)
  (case g_thing_of_formk=>k_is)
  (case g_go_withina=>k_is)
  (case g_go_withini=>k_is)
  (case g_go_withinl=>k_is)
  (case g_go_withinc=>k_is)
  (case g_go_withink=>k_is)
  (case g_is_functiona=>k_is)
  (case g_is_functioni=>k_is)
  (case g_is_functionl=>k_is)
  (case g_is_functionc=>k_is)
  (case g_is_functionk=>k_is)
  (case g_calla=>k_is)
  (case g_calli=>k_is)
  (case g_calll=>k_is)
  (case g_callc=>k_is)
  (case g_callk=>k_is)
#print axioms PySem.Challenge.cw_gapscribe_k44_rec_and_steps_holds
