import PyProof.Rows.All
import Wide.All
import OpenK.AllK
import Wide.FinOn
import Lean
import PyProof.EqAt
import PyProof.EqKinds
import PyProof.TupleCall
import PyProof.StrBlock2
import KE.KDictOf
import PyProof.AttrMissHeap
import KE.KRevSl
import KE.RegMulBits
import KE.IntBitsLaws
import PySem.Challenge.RW_gapscribe_k52_made_up_rows
set_option compiler.extract_closed false
set_option bootstrap.genMatcherCode false
set_option genSizeOfSpec false
set_option Elab.async false
set_option linter.all false
set_option maxRecDepth 100000
open Array renaming getElem?_eq_some_iff->Uc,length_toList->Ur
open Bool renaming false_ne_true->Po,and_eq_true->Rk,false_eq_true->Ti,eq_iff_iff->Tt
open False renaming elim->Qc
open Int renaming emod_lt_of_pos->Qw,emod_nonneg->Qq,toNat_natCast->Q7,toNat_of_nonneg->Us,le_refl->R8,add_zero->Vk
open List renaming getElem?_eq_getElem->Pg,length_append->Pi,getElem?_eq_some_iff->Pq,size_toArray->Pk,length_singleton->Pr,length_map->Pp,mem_cons->Pm,getElem?_append_left->Qa,not_mem_nil->P0,mem_singleton->P8,eq_nil_of_length_eq_zero->Qm,length_cons->P9,getElem?_append_right->Q2,take_of_length_le->Qu,getElem?_map->Qh,length_take->Qe,mem_of_getElem?->Qv,range->P3,mem_append_right->Q5,drop_of_length_le->Rg,replicate->Qg,drop_eq_getElem_cons->Ry,append_nil->Qo,map_cons->Qj,mem_cons_of_mem->Rq,find?_cons->Qx,map_append->Qy,take_add_one->Rj,length_nil->Q9,append_assoc->Rs,mem_append->Rl,lookup_cons->Rt,all_cons->Rc,reverse_append->Sc,getD_eq_getElem?_getD->Ud,append_inj'->R4,map_singleton->Sd,replicate_succ->Tf,length_drop->Se,all_eq_true->Sh,reverse_singleton->Uo,lookup->Rn,getElem_mem->Tp,take_length->Ts,filterMap_cons->Uq,mem_cons_self->Ut,of_mem_zip->Tu,forIn_cons->Tv,getElem?_set_self->Vu,flatten_cons->Ux,singleton_append->Vw,mem_reverse->U1,getElem?_set_ne->Vz,any_cons->T3,dropLast_concat_getLast->Wl,nodup_cons->U2,length->Sz,forIn_nil->U8,reverse_cons->V7,map_nil->Vg
open List.cons renaming injEq->U6
open Nat renaming le_refl->Ph,lt_of_lt_of_le->P6,zero_le->Pn,ne_of_lt->Pw,le_trans->Qd,lt_irrefl->Qr,ne_of_gt->Ql,le_add_right->Tq,sub_self->R7,lt_succ_self->Uy,min_eq_right->U0,min_eq_left->U5,le_of_lt->T4,sub_zero->T6,zero_add->T7,succ_pos->Vi,le_succ->Vm
open Nat.succ renaming inj->Vj
open Ne renaming symm->Ps
open Option renaming map_eq_some_iff->Rz,isSome_iff_exists->Tc,toList_some->Tj,map_some->Tx
open Option.some renaming inj->Qi
open PyProof.Rows renaming callWith_type1->Rw,slot_tuple_getitem->Sa
open PySem renaming wpAny_bind->Pe,wpAny_pure->Pf,wpAny_field->Pu,wpAny_callSpecial?_slot->Q3,wpAny_setField_rec->Q6,wpAny_call_entry->Q8,wpAny_truthy_bool->Rh,wpAny_seqItems->Qz,mem_of_lookup->R3,wpAny_newObj_type->Rr,wpAny_holding->Rm,builtinLookup_eq_fast->Td,Params->Re,wpAny_passesOwn->R5,wpAny_getItem_str_slice->Uk,wpAny_Call_Name_kw->Tg,wpAny_pyIter_tuple->Th,wpAny_execs_nil->So,codeAny_builtin->Sq,wpAny_mono->Rf,wpAny_pyIter_list->Tl,Stmt->Ro,wpAny_attempt->Sr,plainId_quiet->Ss,typeLookup_type->Tw,wpAny_setField->Tz,codeAny_mono->Sx,wpAny_typeOf->Sy,noFill_tuple_add->Uz,wpAny_updateSeq_pair->V0,post_val_or_str->U3,wpAny_updateSeq->U4,call_meets->Ta,wpAny_rule->Tb,seq_tuple_add->Va,wpAny_onRaise->Vb,wpAny_execs_cons->V8,wpAny_isInstance->V9,Within->Vd,concat_meets->Vf,wpAny_specialOf->We,sizeLine_eq->Vl,wpAny_letGo->Vn
open PySem.Around renaming under_plainId->Sb
open PySem.AutoSeq1 renaming wpAny_loadPart'->Ua
open PySem.Builtin.List renaming listTooLong->Ui,listExtendWith->Vo
open PySem.Builtin.Slice renaming slicePlaces->Ue,sliceAdjust->Vq
open PySem.Builtin.SmallTypes renaming ownedTupleIsFree->Q1,nextOf->Qn,ownedTupleHandOut->Wg
open PySem.Builtin.Tuple renaming tupleExact->Uh
open PySem.Calls renaming spliced_cons->V2,spliced_nil->V6
open PySem.Challenge renaming pw_gapscribe_k52_made_up_rows->R9
open PySem.F renaming plainAttrs_list->Pt,slot_list_append->P4,type_list_append->P5,slot_zip_next->Rp,slot_tuple_iterator_next->T9,slot_enumerate_next->Ub,plain_extend_loop->Uf,args_tuple_add_2->Ug,entry_tuple_add->Uj,args_zip_next_1->Ul,slot_tuple_add->Um,entry_zip_next->Up,excBase_ValueError->Vp,slot_list_getattribute->Vr,slot_list_extend->Vs,type_list_extend->Vt,args_tuple_iterator_next_1->Wh,entry_tuple_iterator_next->Wi,slot_list_pop->Vx,type_list_pop->Vy,args_enumerate_next_1->Wj,entry_enumerate_next->Wk
open PySem.Heap renaming get?_push_of_some->Pj,lt_size->Pl,get?_push_size->Py,SameBut->Px,get?_update_other->Q4,size_push->Qf,get?_update_self->R0,get?_none_of_le->Te,ExtBut->S9,dictOf_iff->Wf
open PySem.Obj renaming mapSeq->Qt,data_mapFields->Uv,mapFields->Su,isFreed_of_fields->Vv
open PySem.Paired renaming length->U9
open PySem.PassesOwn renaming never->Qp
open PySem.SeqAt renaming EqAt->Pz
open PySem.SeqAt.EqAt renaming same->Wc
open PySem.Str renaming ofString->Qs
open PySem.Txt renaming slice_le->Vh,slice->T8
open PySem.W renaming Frag->Pd,nsIn->P7,findIn->Qb,kia_one->Qk,emptyDict->Ri,keepIn->Ra,kitOne->Rb,instObj->Ru,BT->Q0,fnOf->Rv,subIn->R6,plainGet->To,callWith_K->Uu,excIn->Sv,clsIn->Sw,hasDictIn->Uw,nsOkIn->T0,tailIn->T1,Looks->T2,plainGet_of->V1,lookIn->U7,methodObj->V3,plainOver->V4,kitx_list->V5,mg_of->Vc,isFn->Ve,takerIn->Wa,makesIn->Wb,OpenLaw->Wd
namespace L2
open PySem PySem.Spec PyProof.Rows
noncomputable abbrev Ao:=Sum Int Str
noncomputable def Hx:Ao->Value->Bool
 | .inl k,v=>Value.isInt k v
 | .inr x,v=>Value.isStrOf x v
noncomputable def keyH (w:World):Ao->Int
 | .inl k=>hashInt k
 | .inr x=>hashStr w x
theorem E6:∀ {k:Ao} {v:Value},Hx k v=true->(∃ i t,k=Sum.inl i/\v=Value.int i t)\/(∃ x t,k=Sum.inr x/\v=Value.str x t)
 | .inl i,v,h=>by
  obtain ⟨t,e⟩:=Value.isInt_shape (k:=i) (v:=v) h
  exact .inl ⟨i,t,rfl,e⟩
 | .inr x,v,h=>by
  obtain ⟨t,e⟩:=Value.isStrOf_shape (x:=x) (v:=v) h
  exact .inr ⟨x,t,rfl,e⟩
theorem Zn4 (i:Int) (t:Tok):Hx (.inl i) (.int i t)=true:=by simp [Hx,Value.isInt]
theorem Zhs (x:Str) (t:Tok):Hx (.inr x) (.str x t)=true:=by simp [Hx,Value.isStrOf]
theorem Zj6 (a b:Int):decide ((Sum.inl a:Ao)=Sum.inl b)=(a == b):=by
 by_cases e:a=b
 ·subst e; simp
 ·have h:¬ (Sum.inl a:Ao)=Sum.inl b:=fun q=>e (Sum.inl.inj q)
  rw [decide_eq_false h]
  exact (beq_eq_false_iff_ne.mpr e).symm
theorem Zmn (a b:Str):decide ((Sum.inr a:Ao)=Sum.inr b)=decide (a=b):=by
 by_cases e:a=b
 ·subst e; simp
 ·have h:¬ (Sum.inr a:Ao)=Sum.inr b:=fun q=>e (Sum.inr.inj q)
  rw [decide_eq_false h,decide_eq_false e]
theorem Zq6 (a:Int) (b:Str):decide ((Sum.inl a:Ao)=Sum.inr b)=false:=decide_eq_false (fun q=>nomatch q)
theorem Zof (a:Str) (b:Int):decide ((Sum.inr a:Ao)=Sum.inl b)=false:=decide_eq_false (fun q=>nomatch q)
noncomputable def Dh (prog:Program) (w:World):PySem.KeyKind prog w Ao where
 is:=Hx
 hash:=keyH w
 inj:=fun v a b ha hb=>by
  rcases E6 ha with ⟨i,t,rfl,rfl⟩ | ⟨x,t,rfl,rfl⟩
  ·rcases E6 hb with ⟨j,u,rfl,e⟩ | ⟨y,u,rfl,e⟩
   ·injection e with e1 _; rw [e1]
   ·exact nomatch e
  ·rcases E6 hb with ⟨j,u,rfl,e⟩ | ⟨y,u,rfl,e⟩
   ·exact nomatch e
   ·injection e with e1 _; rw [e1]
 byValue:=fun k v h=>by
  rcases E6 h with ⟨i,t,rfl,rfl⟩ | ⟨x,t,rfl,rfl⟩ <;> rfl
 pyHash:=fun hv h=>by
  rcases E6 hv with ⟨i,t,rfl,rfl⟩ | ⟨x,t,rfl,rfl⟩
  ·exact wpAny_pyHash_int h
  ·exact wpAny_pyHash_str h
 eqBool:=fun hu hv h=>by
  rcases E6 hu with ⟨i,t,rfl,rfl⟩ | ⟨x,t,rfl,rfl⟩
  ·rcases E6 hv with ⟨j,u,rfl,rfl⟩ | ⟨y,u,rfl,rfl⟩
   ·rw [Zj6] at h; exact wpAny_eqBool_int h
   ·rw [Zq6] at h; exact Pz.int_str i t y u _ _ _ _ h
  ·rcases E6 hv with ⟨j,u,rfl,rfl⟩ | ⟨y,u,rfl,rfl⟩
   ·rw [Zof] at h; exact Pz.str_int x t j u _ _ _ _ h
   ·rw [Zmn] at h; exact wpAny_eqBool_str h
 «strs»:=fun k x t v h=>by
  rcases E6 h with ⟨i,u,rfl,e⟩ | ⟨y,u,rfl,e⟩
  ·exact nomatch e
  ·injection e with e1 _
   subst e1
   cases v <;> rfl
theorem Ziu (prog:Program) (w:World) (i:Int) (t:Tok):(Dh prog w).is (.inl i) (.int i t)=true:=Zn4 i t
theorem Zkk (prog:Program) (w:World) (x:Str) (t:Tok):(Dh prog w).is (.inr x) (.str x t)=true:=Zhs x t
end L2
namespace L2
open PySem PySem.Spec PyProof.Rows
inductive V where
 | non | bl (b:Bool) | int (i:Int) | str (x:Str) | byt (b:Array UInt8) | flt (b:UInt64) | ref (a:Addr) | ty (n:String)
 deriving DecidableEq
noncomputable def RelV:V->Value->Prop
 | .non,u=>u=Value.none
 | .bl b,u=>u=Value.bool b
 | .int i,u=>∃ t,u=Value.int i t
 | .str x,u=>∃ t,u=Value.str x t
 | .byt b,u=>∃ t,u=Value.bytes b t
 | .flt b,u=>∃ t,u=Value.float b t
 | .ref a,u=>u=Value.ref a
 | .ty n,u=>u=Value.type n
noncomputable abbrev Vals:List V->List Value->Prop:=Paired RelV
theorem Vals.length {xs:List V} {us:List Value} (r:Vals xs us):xs.length=us.length:=U9 r
theorem Vals.get:∀ {xs:List V} {us:List Value} {i:Nat} {x:V},Vals xs us->xs[i]?=some x->∃ u,us[i]?=some u/\RelV x u
 | _,_,_,_,.nil,e=>by simp at e
 | _,_,0,_,.cons r _,e=>by simp at e; subst e; exact ⟨_,rfl,r⟩
 | _,_,i + 1,x,.cons _ t,e=>by
  obtain ⟨u,h1,h2⟩:=Vals.get (i:=i) (x:=x) t (by simpa using e)
  exact ⟨u,by simpa using h1,h2⟩
theorem Vals.append:∀ {xs ys:List V} {us ws:List Value},Vals xs us->Vals ys ws->Vals (xs++ys) (us++ws)
 | _,_,_,_,.nil,s=>s
 | _,_,_,_,.cons r t,s=>.cons r (Vals.append t s)
theorem Vals.take:∀ {xs:List V} {us:List Value} (n:Nat),Vals xs us->Vals (xs.take n) (us.take n)
 | _,_,0,_=>.nil
 | _,_,_ + 1,.nil=>.nil
 | _,_,n + 1,.cons r t=>.cons r (Vals.take n t)
theorem Vals.drop:∀ {xs:List V} {us:List Value} (n:Nat),Vals xs us->Vals (xs.drop n) (us.drop n)
 | _,_,0,r=>r
 | _,_,_ + 1,.nil=>.nil
 | _,_,n + 1,.cons _ t=>Vals.drop n t
noncomputable def RelO:Option V->Option Value->Prop
 | some v,some u=>RelV v u
 | none,none=>True
 | _,_=>False
noncomputable def KV {κ:Type}:List (κ×V)->List (κ×Value)->Prop:=Paired fun (p:κ×V) (q:κ×Value)=>p.1=q.1/\RelV p.2 q.2
noncomputable def kV:Ao->V
 | .inl i=>.int i
 | .inr x=>.str x
inductive HO where
  | lst (xs:List V)
  | tup (xs:List V)
  | dK (kvs:List (Ao×V)) | dT (kvs:List (List Ao×V))
  | set (S:Int->Bool) (n:Nat)
  | ins (C dx:Addr) (fs:List (Str×V))
  | own (x:Addr)
  | xd (fs:List (Str×V))
  | met (f x:Addr)
  | rng (lo hi:Int)
  | frz (o:Obj) (u:HO)
  | tbl (ps:Array Value)
  | ext (φ:Heap->Prop)
noncomputable abbrev Hp:=Addr->Option HO
noncomputable def upd (H:Hp) (a:Addr) (o:HO):Hp:=fun b=>if b=a then some o else H b
theorem Ad {H:Hp} {a:Addr} {o:HO}:upd H a o a=some o:=by unfold upd; rw [if_pos rfl]
theorem Af {H:Hp} {a b:Addr} {o:HO} (h:b≠a):upd H a o b=H b:=by unfold upd; rw [if_neg h]
theorem Gb {H:Hp} {a:Addr} {o u:HO}:upd (upd H a o) a u=upd H a u:=by
 funext b; unfold upd; split <;> rfl
theorem Df {H:Hp} {a b:Addr} {o u:HO} (h:H a=some o) (h':H b=some u) (d:o≠u):a≠b:=by
 intro e; subst e; rw [h] at h'; exact d (Qi h')
theorem Ca {H:Hp} {a b:Addr} {o:HO} (h:H a=some o) (h':H b=none):a≠b:=by
 intro e; subst e; rw [h] at h'; cases h'
section
variable (P:Program) (w:World)
noncomputable def ObjOk (H:Hp) (h:Heap) (a:Addr):HO->Prop
 | .lst xs=>xs.length<=sizeLine/\∃ (its:List Value) (n:Nat),Vals xs its/\h.get? a=some { cls:=.type "list",data:=.seq its.toArray n }
 | .tup xs=>xs.length<=sizeLine/\∃ its:List Value,Vals xs its/\IsTup h a its.toArray
 | .dK kvs=>kvs.length<=sizeLine/\(a == sysModules)=false/\∃ vs,KV kvs vs/\h.DictOf (Dh P w) a vs
 | .dT kvs=>kvs.length<=sizeLine/\(a == sysModules)=false/\∃ xs:List (List Ao×Addr×Value),
   Paired (fun (p:List Ao×V) (q:List Ao×Addr×Value)=>p.1=q.1/\H q.2.1=some (.tup (p.1.map kV))/\RelV p.2 q.2.2) kvs xs /\
   ∃ o es ep,h.get? a=some o/\o.ExactDict/\o.data=.dict es ep/\es.toList=xs.map (entryOfKey (tupleKind (Dh P w)))/\(xs.map (·.1)).Nodup
 | .set S n=>h.SetOf (intKind P w) a S n
 | .ins C dx fs=>H dx=some (.own a)/\fs.length<=1000/\dx≠a/\h.get? a=some (Ru C dx) /\
   ∃ mA,h.Ns1 dx mA/\(∀ f,RelO (fs.lookup f) (mA f))/\Vd mA (fs.map (·.1))
 | .own _=>∃ o,h.get? a=some o
 | .xd fs=>∃ mA,h.Ns1 a mA/\∀ f,RelO (fs.lookup f) (mA f)
 | .rng lo hi=>∃ t u v,h.get? a=some { cls:=.type "range",data:=.fields #[.int lo t,.int hi u,.int 1 v] }
 | .frz o u=>h.get? a=some o/\ObjOk H h a u
 | .tbl ps=>h.get? a=some { cls:=.none,data:=.fields ps }
 | .met f x=>h.get? a=some (V3 (.ref f) (.ref x))
 | .ext φ=>φ h/\(∃ o,h.get? a=some o)/\∀ h1 h2:Heap,φ h1->(∀ o,h1.get? a=some o->h2.get? a=some o)->φ h2
noncomputable def HOk (H:Hp) (h:Heap):Prop:=∀ a o,H a=some o->ObjOk P w H h a o
end
section
variable {P:Program} {w:World} {H H':Hp} {h h':Heap} {a:Addr} {o:HO}
theorem ObjOk.lt (x:ObjOk P w H h a o):a < h.objs.size:=by
 cases o with
 | lst xs=>obtain ⟨_,_,_,_,e⟩:=x; exact Pl e
 | tup xs=>obtain ⟨_,_,_,p⟩:=x; exact p.lt
 | dK kvs=>obtain ⟨_,_,_,_,o,_,_,e,_⟩:=x; exact Pl e
 | dT kvs=>obtain ⟨_,_,_,_,o,_,_,e,_⟩:=x; exact Pl e
 | set S n=>obtain ⟨o,_,_,_,e,_⟩:=x; exact Pl e
 | ins C dx fs=>obtain ⟨_,_,_,e,_⟩:=x; exact Pl e
 | own y=>obtain ⟨_,e⟩:=x; exact Pl e
 | xd fs=>obtain ⟨_,⟨_,_,_,e,_⟩,_⟩:=x; exact Pl e
 | rng lo hi=>obtain ⟨_,_,_,e⟩:=x; exact Pl e
 | frz ob u=>obtain ⟨e,_⟩:=x; exact Pl e
 | tbl ps=>exact Pl (show h.get? a=some _ from x)
 | met f y=>exact Pl (show h.get? a=some _ from x)
 | ext φ=>obtain ⟨_,⟨_,e⟩,_⟩:=x; exact Pl e
theorem Paired.mapP {α β:Type} {F G:α->β->Prop}:∀ {l₁:List α} {l₂:List β},Paired F l₁ l₂->(∀ a b,F a b->G a b)->Paired G l₁ l₂
 | _,_,.nil,_=>.nil
 | _,_,.cons r t,f=>.cons (f _ _ r) (Paired.mapP t f)
theorem ObjOk.stay (x:ObjOk P w H h a o) (k:∀ b u,(b=a\/H b=some (.own a))->h.get? b=some u->h'.get? b=some u)
  (ho:∀ b,H b=some (.own a)->H' b=some (.own a)) (ht:∀ b xs,H b=some (.tup xs)->H' b=some (.tup xs)):ObjOk P w H' h' a o:=by
 induction o with
 | lst xs=>obtain ⟨z,its,n,r,e⟩:=x; exact ⟨z,its,n,r,k _ _ (.inl rfl) e⟩
 | tup xs=>obtain ⟨z,its,r,ob,e,c⟩:=x; exact ⟨z,its,r,ob,k _ _ (.inl rfl) e,c⟩
 | dK kvs=>obtain ⟨z,y,vs,r,ob,es,ep,e,c⟩:=x; exact ⟨z,y,vs,r,ob,es,ep,k _ _ (.inl rfl) e,c⟩
 | dT kvs =>
  obtain ⟨z,y,xs,r,ob,es,ep,e,c⟩:=x
  exact ⟨z,y,xs,Paired.mapP r fun p q z=>⟨z.1,ht _ _ z.2.1,z.2.2⟩,ob,es,ep,k _ _ (.inl rfl) e,c⟩
 | set S n=>obtain ⟨ob,es,ep,t,e,c⟩:=x; exact ⟨ob,es,ep,t,k _ _ (.inl rfl) e,c⟩
 | ins C dx fs =>
  obtain ⟨d,z,ne,e,mA,⟨od,es,ep,e2,c⟩,r⟩:=x
  exact ⟨ho _ d,z,ne,k _ _ (.inl rfl) e,mA,⟨od,es,ep,k _ _ (.inr d) e2,c⟩,r⟩
 | own y=>obtain ⟨ob,e⟩:=x; exact ⟨ob,k _ _ (.inl rfl) e⟩
 | xd fs=>obtain ⟨mA,⟨od,es,ep,e,c⟩,r⟩:=x; exact ⟨mA,⟨od,es,ep,k _ _ (.inl rfl) e,c⟩,r⟩
 | rng lo hi=>obtain ⟨t,u,v,e⟩:=x; exact ⟨t,u,v,k _ _ (.inl rfl) e⟩
 | frz ob u ih=>obtain ⟨e,q⟩:=x; exact ⟨k _ _ (.inl rfl) e,ih q⟩
 | tbl ps =>
  have e:h.get? a=some { cls:=.none,data:=.fields ps }:=x
  show h'.get? a=some { cls:=.none,data:=.fields ps }
  exact k a _ (.inl rfl) e
 | met f y =>
  have e:h.get? a=some (V3 (.ref f) (.ref y)):=x
  show h'.get? a=some (V3 (.ref f) (.ref y))
  exact k a _ (.inl rfl) e
 | ext φ=>obtain ⟨p,⟨o,e⟩,st⟩:=x; exact ⟨st _ _ p fun o q=>k _ _ (.inl rfl) q,⟨o,k _ _ (.inl rfl) e⟩,st⟩
theorem HOk.lt (x:HOk P w H h) (e:H a=some o):a < h.objs.size:=(x a o e).lt
theorem HOk.fresh (x:HOk P w H h) (e:h.objs.size<=a):H a=none:=by
 cases q:H a with
 | none=>rfl
 | some u=>exact absurd (P6 (x.lt q) e) (Qr _)
theorem HOk.kept (x:HOk P w H h) (k:∀ b u,h.get? b=some u->h'.get? b=some u):HOk P w H h':=fun a o e =>
 (x a o e).stay (fun b u _ q=>k b u q) (fun _ q=>q) fun _ _ q=>q
theorem HOk.laid (x:HOk P w H h) (k:∀ b u,h.get? b=some u->h'.get? b=some u) (hp:h.objs.size<=a) (new:ObjOk P w (upd H a o) h' a o):HOk P w (upd H a o) h':=fun b u e=>by
 have hn:=x.fresh hp
 by_cases hb:b=a
 ·subst hb; rw [Ad] at e; cases e; exact new
 ·rw [Af hb] at e
  exact (x b u e).stay (fun c v _ q=>k c v q) (fun c q=>by rw [Af (Ca q hn)]; exact q) fun c xs q=>by rw [Af (Ca q hn)]; exact q
end
noncomputable def Rd (H:Hp) (a:Addr) (u:HO):Prop:=H a=some u\/∃ o,H a=some (.frz o u)
theorem Rd.ok {P:Program} {w:World} {H:Hp} {h:Heap} {a:Addr} {u:HO} (r:Rd H a u) (x:HOk P w H h):ObjOk P w H h a u:=by
 rcases r with r | ⟨o,r⟩
 ·exact x a u r
 ·obtain ⟨_,q⟩:=x a _ r
  exact q
noncomputable def Mut:Option HO->Prop
 | some (.lst _)=>True
 | some (.dK _)=>True
 | some (.dT _)=>True
 | some (.set _ _)=>True
 | some (.ins _ _ _)=>True
 | some (.ext _)=>True
 | _=>False
section
variable {P:Program} {w:World} {H:Hp} {h h':Heap} {x e:Addr} {o':HO}
theorem HOk.write (ok:HOk P w H h) (mu:Mut (H x)) (he:e=x\/H e=some (.own x)) (k:∀ b u,b≠e->h.get? b=some u->h'.get? b=some u) (heo:∃ u,h'.get? e=some u)
  (new:ObjOk P w (upd H x o') h' x o'):HOk P w (upd H x o') h':=fun b u q=>by
 have nown:∀ c y,H c=some (.own y)->c≠x:=fun c y r z=>by subst z; rw [r] at mu; exact mu
 have ntup:∀ c xs,H c=some (.tup xs)->c≠x:=fun c xs r z=>by subst z; rw [r] at mu; exact mu
 by_cases hb:b=x
 ·subst hb; rw [Ad] at q; cases q; exact new
 ·rw [Af hb] at q
  by_cases hbe:b=e
  ·have q':H b=some (.own x):=by
    rcases he with z | z
    ·exact absurd (hbe.trans z) hb
    ·rw [hbe]; exact z
   rw [q] at q'; cases q'
   obtain ⟨v,hv⟩:=heo
   exact ⟨v,by rw [hbe]; exact hv⟩
  ·refine (ok b u q).stay (fun c v hc r=>k c v ?_ r) (fun c r=>by rw [Af (nown c b r)]; exact r) fun c xs r=>by rw [Af (ntup c xs r)]; exact r
   rcases hc with rfl | hc
   ·exact hbe
   ·rintro rfl
    rcases he with z | z
    ·exact nown c b hc z
    ·rw [hc] at z; cases z; exact hb rfl
end
structure Un (fs ex:List Addr) (H H':Hp) (h h':Heap):Prop where
 keep:∀ b o,h.get? b=some o->H b=none->b ∉ fs->b ∉ ex->h'.get? b=some o
 slot:∀ b o,h.get? b=some o->H b=none->b∈fs->b ∉ ex->∃ sl,h'.get? b=some { o with slots:=sl }
 free:∀ b o,h.get? b=some o->H b=none->b ∉ ex->H' b=none
 there:∀ b o,h.get? b=some o->b ∉ ex->∃ o',h'.get? b=some o'
 tups:∀ b xs,H b=some (.tup xs)->H' b=some (.tup xs)
 frzs:∀ b o u,H b=some (.frz o u)->H' b=some (.frz o u)
 tbls:∀ b ps,H b=some (.tbl ps)->∃ more,H' b=some (.tbl (ps++more))
section
variable {fs fs' ex ex':List Addr} {H H1 H2:Hp} {h h1 h2 h':Heap} {a x e:Addr} {o:HO}
theorem Un.any (u:Un fs ex H H1 h h1) {b:Addr} {ob:Obj} (q:h.get? b=some ob) (n:H b=none) (hx:b ∉ ex):∃ sl,h1.get? b=some { ob with slots:=sl }:=by
 by_cases hb:b∈fs
 ·exact u.slot b ob q n hb hx
 ·exact ⟨ob.slots,u.keep b ob q n hb hx⟩
theorem Un.kept (k:∀ b u,h.get? b=some u->h'.get? b=some u):Un fs ex H H h h' :=
 ⟨fun b ob q _ _ _=>k b ob q,fun b ob q _ _ _=>⟨ob.slots,k b ob q⟩,fun _ _ _ n _=>n,fun b ob q _=>⟨ob,k b ob q⟩,fun _ _ q=>q,fun _ _ _ q=>q,fun _ ps q=>⟨#[],by rw [q]; simp⟩⟩
theorem Un.refl:Un fs ex H H h h:=Un.kept fun _ _ q=>q
theorem Un.laid (k:∀ b u,h.get? b=some u->h'.get? b=some u) (hp:h.objs.size<=a) (hn:H a=none):Un fs ex H (upd H a o) h h' where
 keep:=fun b u q _ _ _=>k b u q
 slot:=fun b u q _ _ _=>⟨u.slots,k b u q⟩
 free:=fun b u q n _=>by rw [Af (Pw (P6 (Pl q) hp))]; exact n
 there:=fun b u q _=>⟨u,k b u q⟩
 tups:=fun b xs q=>by rw [Af (Ca q hn)]; exact q
 frzs:=fun b u xs q=>by rw [Af (Ca q hn)]; exact q
 tbls:=fun b ps q=>⟨#[],by rw [Af (Ca q hn),q]; simp⟩
theorem Un.write (mu:Mut (H x)) (he:e=x\/H e=some (.own x)) (k:∀ b u,b≠e->h.get? b=some u->h'.get? b=some u) (heo:∃ u,h'.get? e=some u):Un fs ex H (upd H x o) h h':=by
 have hx:∀ b,H b=none->b≠x:=fun b n z=>by subst z; rw [n] at mu; exact mu
 have hb:∀ b,H b=none->b≠e:=fun b n z=>by
  subst z
  rcases he with r | r
  ·exact hx b n r
  ·rw [n] at r; cases r
 have hm:∀ b u,H b=some u->¬ Mut (some u)->b≠x:=fun b u q nm z=>by subst z; rw [q] at mu; exact nm mu
 refine ⟨fun b u q n _ _=>k b u (hb b n) q,fun b u q n _ _=>⟨u.slots,k b u (hb b n) q⟩,fun b u q n _=>by rw [Af (hx b n)]; exact n,fun b u q _=>?_,
  fun b xs q=>by rw [Af (hm b _ q fun z=>z)]; exact q,fun b u xs q=>by rw [Af (hm b _ q fun z=>z)]; exact q,fun b ps q=>⟨#[],by rw [Af (hm b _ q fun z=>z),q]; simp⟩⟩
 by_cases hbe:b=e
 ·subst hbe; exact heo
 ·exact ⟨u,k b u hbe q⟩
end
noncomputable def trk (h:Heap) (H:Hp):List Addr:=(P3 h.objs.size).filter fun a=>(H a).isSome
noncomputable def Fg (h:Heap) (H:Hp):Heap:=PySem.W.hideAll h (trk h H)
theorem Zos (h:Heap) (H:Hp):(Fg h H).objs.size=h.objs.size:=PySem.W.hideAll_size _ _
theorem Zha {h:Heap} {H:Hp} {b:Addr} {o:Obj} (e:h.get? b=some o) (n:H b=none):(Fg h H).get? b=some o :=
 PySem.W.hideAll_get _ e fun hm=>by
  have q:(H b).isSome=true:=(List.mem_filter.mp hm).2
  rw [n] at q; simp at q
theorem Zpn {h:Heap} {H:Hp} {b:Addr} {o:Obj} (e:(Fg h H).get? b=some o):h.get? b=some o/\H b=none:=by
 have e':h.get? b=some o:=PySem.W.of_hideAll (trk h H) e
 refine ⟨e',?_⟩
 cases q:H b with
 | none=>rfl
 | some x =>
  have hm:b∈trk h H:=List.mem_filter.mpr ⟨List.mem_range.mpr (Pl e'),by simp [q]⟩
  have z:(Fg h H).get? b=none:=PySem.W.hideAll_none (trk h H) hm
  rw [z] at e; cases e
end L2
namespace L2
open PySem PySem.Spec PyProof.Rows
structure Mod (K:Pd) (mg:Str->Option Value) (base:Heap):Prop where
 kin:K.In base
 glob:base.Ns mainGlobals mg
 blt:∃ mb,base.Ns builtinsNs mb/\∀ x:Str,x ≠ "__name__" -> mb x=bootBuiltins x
 nolimit:base.NoLimit
structure Cx where
 prog:Program
 w:World
 K:Pd
 mg:Str->Option Value
 base:Heap
 A:Around
 N:List Str
 s₀:Shared
 H₀:Hp
 env:Env
 outer:List Env
 stack:List Env
 ex:List Addr
 fn:Str->Bool
 calm:Bool
 pn:List (Addr×Obj)
 xe:Value->Shared->Prop
noncomputable def Bl (l:List Env):List Addr:=l.filterMap (·.frame)
noncomputable abbrev Cx.fs (X:Cx):List Addr:=Bl X.outer
noncomputable def Vis (sc:Scope) (x:Str):Prop:=sc.names.lookup x=some .local\/sc.names.lookup x=some .cell\/sc.names.lookup x=some .free
noncomputable def Ez (sc:Scope) (x:Str):Prop:=sc.names.lookup x=some .local\/sc.names.lookup x=some .cell
noncomputable def Look (env:Env) (h:Heap) (m:Str->Option Value) (x:Str) (u:Value):Prop :=
 (env.kindOf x=some .local/\m x=some u)\/((env.kindOf x=some .cell\/env.kindOf x=some .free)/\∃ c,env.cells.lookup x=some c/\h.IsCell c (some u))
structure Cx.Ok (X:Cx):Prop where
 mod:Mod X.K X.mg X.base
 kind:X.env.scope.kind=.function
 glob:X.env.globals=mainGlobals
 blt:X.env.builtins=builtinsNs
 above:X.s₀.heap.objs.size<=X.env.locals
 inj:∀ x y c,X.env.cells.lookup x=some c->X.env.cells.lookup y=some c->x=y
 has:∀ x,(X.env.kindOf x=some .cell\/X.env.kindOf x=some .free)->∃ c,X.env.cells.lookup x=some c
 cab:∀ x c,X.fn x=true->X.env.cells.lookup x=some c->X.s₀.heap.objs.size<=c
 hd:X.calm=true->X.A.handled=none
 frames:X.A.frames=some X.stack
 stk:X.stack=X.outer\/(X.stack=X.env :: X.outer/\X.env.frame=some X.env.locals)
 exf:∀ b∈X.ex,b≠X.env.locals/\∀ x c,X.env.cells.lookup x=some c->c≠b
 bs:∀ b o,X.base.get? b=some o->X.s₀.heap.get? b=some o/\X.H₀ b=none
 bsz:X.base.objs.size<=X.s₀.heap.objs.size
 noex:∀ b o,X.base.get? b=some o->b ∉ X.ex
 exfs:∀ b∈X.ex,b ∉ X.fs
 funs:X.s₀.heap.FunFrames X.base X.outer
 frf:∀ b∈X.fs,X.H₀ b=none
structure Inv (X:Cx) (pins:List (Addr×Obj)) (σ:List (Option V)) (H:Hp) (s:Shared):Prop where
 ok:X.Ok
 os:s.os=X.s₀.os
 bare:AllBare s.gens
 base:Un X.fs X.ex X.H₀ H X.s₀.heap s.heap
 loc:∃ m,s.heap.Ns X.env.locals m/\∀ (i:Nat) (x:Str) (v:V),X.N[i]?=some x->σ[i]?=some (some v)->Vis X.env.scope x->∃ u,RelV v u/\Look X.env s.heap m x u
 cell:∀ x c,X.env.cells.lookup x=some c->∃ v,s.heap.IsCell c v
 free:H X.env.locals=none
 freeC:∀ x c,X.env.cells.lookup x=some c->H c=none
 pin:∀ p∈X.pn++pins,s.heap.get? p.1=some p.2/\H p.1=none/\p.1≠X.env.locals/\p.1 ∉ X.fs/\∀ v,p.2.data≠.cell v
 hok:HOk X.prog X.w H s.heap
 len:σ.length=X.N.length
section
variable {X:Cx} {pins:List (Addr×Obj)} {σ:List (Option V)} {H H':Hp} {s:Shared} {h':Heap}
theorem Cx.Ok.nofr (ok:X.Ok) {b:Addr} {o:Obj} (e:X.base.get? b=some o):b ∉ X.fs:=fun hb=>by
 have:=(ok.funs.mem hb).1
 rw [e] at this; cases this
theorem Inv.bs (I:Inv X pins σ H s):∀ b o,X.base.get? b=some o->s.heap.get? b=some o/\H b=none:=fun b o e =>
 ⟨I.base.keep b o (I.ok.bs b o e).1 (I.ok.bs b o e).2 (I.ok.nofr e) (I.ok.noex b o e),I.base.free b o (I.ok.bs b o e).1 (I.ok.bs b o e).2 (I.ok.noex b o e)⟩
theorem Inv.bk (I:Inv X pins σ H s):∀ b o,X.base.get? b=some o->s.heap.get? b=some o:=fun b o e=>(I.bs b o e).1
theorem Inv.mod (I:Inv X pins σ H s):Mod X.K X.mg X.base:=I.ok.mod
theorem Inv.kIn (I:Inv X pins σ H s):X.K.In s.heap:=I.ok.mod.kin.keeps I.bk
theorem Inv.lt (I:Inv X pins σ H s):X.env.locals < s.heap.objs.size:=let ⟨_,hn,_⟩:=I.loc; hn.lt
theorem Inv.sz (I:Inv X pins σ H s):X.s₀.heap.objs.size<=s.heap.objs.size:=Qd I.ok.above (T4 I.lt)
theorem Inv.nofs (I:Inv X pins σ H s) {a:Addr} (h:s.heap.objs.size<=a):a ∉ X.fs:=fun hb=>by
 obtain ⟨_,o,ho,_⟩:=I.ok.funs.mem hb
 exact absurd (P6 (Pl ho) (Qd I.sz h)) (Qr _)
theorem Inv.cne (I:Inv X pins σ H s):∀ x c,X.env.cells.lookup x=some c->c≠X.env.locals:=fun x c e z=>by
 obtain ⟨v,o,ho,hd⟩:=I.cell x c e
 obtain ⟨m,⟨o',es,ep,ho',hd',_⟩,_⟩:=I.loc
 rw [z,ho'] at ho; cases ho; rw [hd'] at hd; cases hd
theorem Inv.funs (I:Inv X pins σ H s):s.heap.FunFrames X.base X.outer:=by
 have all:∀ (l:List Env),(∀ b∈Bl l,b∈X.fs)->X.s₀.heap.FunFrames X.base l->s.heap.FunFrames X.base l:=by
  intro l
  induction l with
  | nil=>intro _ _; trivial
  | cons env r ih =>
   intro hs hl
   obtain ⟨hk,⟨L,o,hf,hn,ho,hd⟩,hr⟩:=hl
   have hL:L∈X.fs:=hs L (by unfold Bl; rw [Uq,hf]; exact Ut)
   obtain ⟨sl,e⟩:=I.base.slot L o ho (I.ok.frf L hL) hL fun z=>I.ok.exfs L z hL
   exact ⟨hk,⟨L,_,hf,hn,e,hd⟩,ih (fun b hb=>hs b (by unfold Bl; rw [Uq,hf]; exact Rq _ hb)) hr⟩
 exact all X.outer (fun _ hb=>hb) I.ok.funs
theorem Inv.stack (I:Inv X pins σ H s):s.heap.FunFrames X.base X.stack:=by
 rcases I.ok.stk with e | ⟨e,hf⟩
 ·rw [e]; exact I.funs
 ·rw [e]
  obtain ⟨m,hn,_⟩:=I.loc
  refine .cons (by rw [I.ok.kind]; decide) hf hn ?_ I.funs
  exact Te (Qd I.ok.bsz I.ok.above)
theorem Inv.stkSub (I:Inv X pins σ H s):∀ b∈Bl X.stack,b∈X.env.locals :: X.fs:=fun b hb=>by
 rcases I.ok.stk with e | ⟨e,hf⟩
 ·rw [e] at hb; exact Rq _ hb
 ·rw [e] at hb
  unfold Bl at hb
  rw [Uq,hf] at hb
  exact hb
theorem Inv.stkFree (I:Inv X pins σ H s):∀ b∈Bl X.stack,H b=none:=fun b hb=>by
 rcases Pm.mp (I.stkSub b hb) with e | hb
 ·rw [e]; exact I.free
 ·obtain ⟨_,o,ho,_⟩:=I.ok.funs.mem hb
  exact I.base.free b o ho (I.ok.frf b hb) fun z=>I.ok.exfs b z hb
theorem Inv.step {g':Array GenState} {t':Nat} {d':Drawn} {ch:List Addr} (I:Inv X pins σ H s)
  (hch:∀ b∈ch,(b∈X.ex\/X.s₀.heap.objs.size<=b)/\b≠X.env.locals/\(∀ x c,X.env.cells.lookup x=some c->c≠b)/\∀ p∈X.pn++pins,p.1≠b)
  (keep:∀ b o,b≠X.env.locals->b ∉ X.fs->b ∉ ch->s.heap.get? b=some o->H b=none->h'.get? b=some o)
  (slot:∀ b o,b≠X.env.locals->b∈X.fs->b ∉ ch->s.heap.get? b=some o->H b=none->∃ sl,h'.get? b=some { o with slots:=sl }) (free:∀ b o,b ∉ ch->s.heap.get? b=some o->H b=none->H' b=none)
  (there:∀ b o,b ∉ ch->s.heap.get? b=some o->∃ o',h'.get? b=some o')
  (tups:∀ b xs,H b=some (.tup xs)->H' b=some (.tup xs)) (frzs:∀ b o u,H b=some (.frz o u)->H' b=some (.frz o u)) (tbls:∀ b ps,H b=some (.tbl ps)->∃ more,H' b=some (.tbl (ps++more)))
  (ns:∀ m,s.heap.Ns X.env.locals m->h'.Ns X.env.locals m) (hok:HOk X.prog X.w H' h') (hg:AllBare g') :
  Inv X pins σ H' { s with heap:=h',gens:=g',drawn:=d',toks:=t' }:=by
 have neL:∀ b o,X.s₀.heap.get? b=some o->b≠X.env.locals:=fun b o e=>Pw (P6 (Pl e) I.ok.above)
 have neC:∀ b o,X.s₀.heap.get? b=some o->b ∉ X.ex->b ∉ ch:=fun b o e hx hb=>by
  rcases (hch b hb).1 with z | z
  ·exact hx z
  ·exact absurd (P6 (Pl e) z) (Qr _)
 have cellK:∀ x c,X.env.cells.lookup x=some c->∀ v,s.heap.IsCell c v->h'.IsCell c v:=fun x c e v ⟨o,ho,hd⟩=>by
  have nch:c ∉ ch:=fun z=>(hch c z).2.2.1 x c e rfl
  by_cases hc:c∈X.fs
  ·obtain ⟨sl,q⟩:=slot c o (I.cne x c e) hc nch ho (I.freeC x c e)
   exact ⟨_,q,hd⟩
  ·exact ⟨o,keep c o (I.cne x c e) hc nch ho (I.freeC x c e),hd⟩
 refine ⟨I.ok,I.os,hg,⟨fun b o e n hb hx=>?_,fun b o e n hb hx=>?_,fun b o e n hx=>?_,fun b o e hx=>?_,fun b xs e=>tups b xs (I.base.tups b xs e),fun b o xs e=>frzs b o xs (I.base.frzs b o xs e),fun b ps e=>?_⟩,?_,fun x c e=>?_,?_,fun x c e=>?_,fun p hp=>?_,hok,I.len⟩
 ·exact keep b o (neL b o e) hb (neC b o e hx) (I.base.keep b o e n hb hx) (I.base.free b o e n hx)
 ·obtain ⟨sl,e1⟩:=I.base.slot b o e n hb hx
  obtain ⟨sl',e2⟩:=slot b _ (neL b o e) hb (neC b o e hx) e1 (I.base.free b o e n hx)
  exact ⟨sl',e2⟩
 ·obtain ⟨o',e1⟩:=I.base.there b o e hx
  exact free b o' (neC b o e hx) e1 (I.base.free b o e n hx)
 ·obtain ⟨o',e1⟩:=I.base.there b o e hx
  exact there b o' (neC b o e hx) e1
 ·obtain ⟨m1,e1⟩:=I.base.tbls b ps e
  obtain ⟨m2,e2⟩:=tbls b _ e1
  exact ⟨m1++m2,by rw [e2,Array.append_assoc]⟩
 ·obtain ⟨m,hn,hl⟩:=I.loc
  refine ⟨m,ns m hn,fun i x v e1 e2 e3=>?_⟩
  obtain ⟨u,r,l⟩:=hl i x v e1 e2 e3
  refine ⟨u,r,?_⟩
  rcases l with l | ⟨k,c,e,z⟩
  ·exact .inl l
  ·exact .inr ⟨k,c,e,cellK x c e _ z⟩
 ·obtain ⟨v,z⟩:=I.cell x c e
  exact ⟨v,cellK x c e v z⟩
 ·obtain ⟨m,⟨o,_,_,ho,_⟩,_⟩:=I.loc
  exact free _ o (fun z=>(hch _ z).2.1 rfl) ho I.free
 ·obtain ⟨v,o,ho,hd⟩:=I.cell x c e
  exact free c o (fun z=>(hch c z).2.2.1 x c e rfl) ho (I.freeC x c e)
 ·obtain ⟨e,n,ne,nf,d⟩:=I.pin p hp
  have nch:p.1 ∉ ch:=fun z=>(hch p.1 z).2.2.2 p hp rfl
  exact ⟨keep p.1 p.2 ne nf nch e n,free p.1 p.2 nch e n,ne,nf,d⟩
theorem Inv.un {t':Nat} (I:Inv X pins σ H s) (u:Un X.fs [] H H' s.heap h') (hok:HOk X.prog X.w H' h'):Inv X pins σ H' { s with heap:=h',toks:=t' }:=by
 obtain ⟨m,⟨o,es,ep,ho,r⟩,_⟩:=id I.loc
 obtain ⟨sl,hL⟩:=u.any ho I.free (by simp)
 exact I.step (g':=s.gens) (d':=s.drawn) (ch:=[]) (fun _ z=>nomatch z) (fun b o _ hb _ e n=>u.keep b o e n hb (by simp)) (fun b o _ hb _ e n=>u.slot b o e n hb (by simp)) (fun b o _ e n=>u.free b o e n (by simp)) (fun b o _ e=>u.there b o e (by simp)) u.tups u.frzs u.tbls (fun m' hm=>by
  obtain ⟨o',es',ep',ho',r'⟩:=hm
  rw [ho] at ho'; cases ho'
  exact ⟨_,es',ep',hL,r'⟩) hok I.bare
theorem Inv.call {g':Array GenState} {t':Nat} {d':Drawn} {ch:List Addr} (I:Inv X pins σ H s) (u:Un (Bl X.stack) ch H H' s.heap h') (hok:HOk X.prog X.w H' h') (hg:AllBare g')
  (hch:∀ b∈ch,(b∈X.ex\/X.s₀.heap.objs.size<=b)/\b≠X.env.locals/\(∀ x c,X.env.cells.lookup x=some c->c≠b)/\∀ p∈X.pn++pins,p.1≠b) :
  Inv X pins σ H' { s with heap:=h',gens:=g',drawn:=d',toks:=t' }:=by
 obtain ⟨m,⟨o,es,ep,ho,r⟩,_⟩:=id I.loc
 obtain ⟨sl,hL⟩:=u.any ho I.free fun z=>(hch _ z).2.1 rfl
 exact I.step (ch:=ch) hch (fun b o hL hb hc e n=>u.keep b o e n (fun z=>(Pm.mp (I.stkSub b z)).elim hL hb) hc) (fun b o _ _ hc e n=>u.any e n hc) (fun b o hc e n=>u.free b o e n hc) (fun b o hc e=>u.there b o e hc) u.tups u.frzs u.tbls (fun m' hm=>by
  obtain ⟨o',es',ep',ho',r'⟩:=hm
  rw [ho] at ho'; cases ho'
  exact ⟨_,es',ep',hL,r'⟩) hok hg
theorem Inv.turned {t':Nat} {it:Addr} (I:Inv X pins σ H s) (k:∀ b o,b≠it->s.heap.get? b=some o->h'.get? b=some o) (hn:H it=none) (hL:it≠X.env.locals)
  (h1:it∈X.ex\/X.s₀.heap.objs.size<=it) (h2:∀ x c,X.env.cells.lookup x=some c->c≠it) (h3:∀ p∈X.pn++pins,p.1≠it):Inv X pins σ H { s with heap:=h',toks:=t' }:=by
 have nit:∀ b u,H b=some u->b≠it:=fun b u e z=>by rw [z,hn] at e; cases e
 refine I.step (g':=s.gens) (d':=s.drawn) (ch:=[it]) (fun b hb=>?_) (fun b o _ _ hc e _=>k b o (fun z=>hc (by simp [z])) e) (fun b o _ _ hc e _=>⟨o.slots,k b o (fun z=>hc (by simp [z])) e⟩) (fun _ _ _ _ n=>n)
  (fun b o hc e=>⟨o,k b o (fun z=>hc (by simp [z])) e⟩) (fun _ _ e=>e) (fun _ _ _ e=>e) (fun b ps e=>⟨#[],by rw [e]; simp⟩) (fun m hm=>?_) (fun b u e=>?_) I.bare
 ·have e:b=it:=by simpa using hb
  subst e
  exact ⟨h1,hL,h2,h3⟩
 ·obtain ⟨o,es,ep,ho,r⟩:=hm
  exact ⟨o,es,ep,k _ o (Ps hL) ho,r⟩
 ·refine (I.hok b u e).stay (fun c v hc q=>k c v ?_ q) (fun _ q=>q) fun _ _ q=>q
  rcases hc with z | z
  ·rw [z]; exact nit b u e
  ·exact nit c _ z
theorem Inv.tok (I:Inv X pins σ H s) (t:Nat):Inv X pins σ H { s with toks:=t }:=I.un (h':=s.heap) (t':=t) Un.refl I.hok
theorem Inv.kept {t':Nat} (I:Inv X pins σ H s) (k:∀ b u,s.heap.get? b=some u->h'.get? b=some u):Inv X pins σ H { s with heap:=h',toks:=t' }:=I.un (Un.kept k) (I.hok.kept k)
theorem Inv.laid {a:Addr} {o:HO} {t':Nat} (I:Inv X pins σ H s) (k:∀ b u,s.heap.get? b=some u->h'.get? b=some u) (hp:s.heap.objs.size<=a) (new:ObjOk X.prog X.w (upd H a o) h' a o) :
  Inv X pins σ (upd H a o) { s with heap:=h',toks:=t' }:=I.un (Un.laid k hp (I.hok.fresh hp)) (I.hok.laid k hp new)
theorem Inv.write {x e:Addr} {o:HO} {t':Nat} (I:Inv X pins σ H s) (mu:Mut (H x)) (he:e=x\/H e=some (.own x)) (k:∀ b u,b≠e->s.heap.get? b=some u->h'.get? b=some u) (heo:∃ u,h'.get? e=some u)
  (new:ObjOk X.prog X.w (upd H x o) h' x o):Inv X pins σ (upd H x o) { s with heap:=h',toks:=t' }:=I.un (Un.write mu he k heo) (I.hok.write mu he k heo new)
theorem Inv.pins_of {pins':List (Addr×Obj)} (I:Inv X pins σ H s) (h:∀ p∈pins',s.heap.get? p.1=some p.2/\H p.1=none/\p.1≠X.env.locals/\p.1 ∉ X.fs/\∀ v,p.2.data≠.cell v):Inv X pins' σ H s :=
 ⟨I.ok,I.os,I.bare,I.base,I.loc,I.cell,I.free,I.freeC,fun p hp=>(Rl.mp hp).elim (fun z=>I.pin p (List.mem_append_left _ z)) (h p),I.hok,I.len⟩
theorem Zcr {N:List Str} (hN:N.Nodup) {i j:Nat} {x:Str} (a:N[i]?=some x) (b:N[j]?=some x):i=j:=by
 obtain ⟨h1,e1⟩:=Pq.mp a
 obtain ⟨h2,e2⟩:=Pq.mp b
 exact (List.getElem_inj hN).mp (e1.trans e2.symm)
theorem Zcz {M:Model} {A:Around} {E:Value->Shared->Prop} {i:Nat} {x:Str} {v:V} {u:Value} {Q:Unit->Shared->Prop} (I:Inv X pins σ H s) (hN:X.N.Nodup) (hi:X.N[i]?=some x) (hx:Ez X.env.scope x) (r:RelV v u)
  (h:∀ s',Inv X pins (σ.set i (some v)) H s'->(∃ a,Px a s.heap s'.heap/\(a=X.env.locals\/X.env.cells.lookup x=some a))->Q () s') (hf:X.fn x=true\/X.env.scope.names.lookup x=some .local:=by first | exact .inl rfl | exact .inr rfl | assumption):wpAny M A (storeName X.env x u) Q E s:=by
 obtain ⟨m,hn,hl⟩:=id I.loc
 have hcls:(X.env.scope.kind == .class || (X.env.scope.kind == .module && X.env.locals != X.env.globals))=false:=by rw [I.ok.kind]; rfl
 have hiσ:i < σ.length:=by rw [I.len]; exact (Pq.mp hi).1
 have cne:=I.cne
 have tracked:∀ {a:Addr} {h':Heap},(∃ o,s.heap.get? a=some o/\H a=none)->Px a s.heap h'->HOk X.prog X.w H h':=fun {a h'} ha hs b ob e=>by
  obtain ⟨_,_,hfree⟩:=ha
  refine (I.hok b ob e).stay (fun c w' hc q=>(hs.2 c ?_).trans q) (fun _ q=>q) fun _ _ q=>q
  rintro rfl
  rcases hc with rfl | hc
  ·rw [hfree] at e; cases e
  ·rw [hfree] at hc; cases hc
 rcases hx with hk | hk
 ·refine wpAny_storeName_local hk hn (fun h' hn' hs=>?_) hcls
  obtain ⟨oL,_,_,hoL,_⟩:=id hn
  refine h _ ⟨I.ok,I.os,I.bare,⟨fun b o e n hb hx=>?_,fun b o e n hb hx=>?_,I.base.free,fun b o e hx=>?_,I.base.tups,I.base.frzs,I.base.tbls⟩,⟨_,hn',fun j y v' e1 e2 e3=>?_⟩,fun y c e=>?_,I.free,I.freeC,fun p hp=>?_,tracked ⟨oL,hoL,I.free⟩ hs,by simpa using I.len⟩ ⟨_,hs,.inl rfl⟩
  ·exact (hs.2 b (Pw (P6 (Pl e) I.ok.above))).trans (I.base.keep b o e n hb hx)
  ·obtain ⟨sl,e1⟩:=I.base.slot b o e n hb hx
   exact ⟨sl,(hs.2 b (Pw (P6 (Pl e) I.ok.above))).trans e1⟩
  ·obtain ⟨o',e1⟩:=I.base.there b o e hx
   exact ⟨o',(hs.2 b (Pw (P6 (Pl e) I.ok.above))).trans e1⟩
  ·by_cases hj:j=i
   ·subst hj
    rw [hi] at e1; cases e1
    rw [Vu hiσ] at e2
    cases e2
    exact ⟨u,r,.inl ⟨hk,by simp⟩⟩
   ·rw [Vz (Ps hj)] at e2
    obtain ⟨u',r',q⟩:=hl j y v' e1 e2 e3
    refine ⟨u',r',?_⟩
    rcases q with ⟨k,e⟩ | ⟨k,c,e,z⟩
    ·refine .inl ⟨k,?_⟩
     have:y≠x:=fun e=>hj (Zcr hN e1 (e ▸ hi))
     simp [this,e]
    ·exact .inr ⟨k,c,e,z.sameBut hs (cne y c e)⟩
  ·obtain ⟨w',z⟩:=I.cell y c e
   exact ⟨w',z.sameBut hs (cne y c e)⟩
  ·obtain ⟨e,n,ne,nf,d⟩:=I.pin p hp
   exact ⟨(hs.2 p.1 ne).trans e,n,ne,nf,d⟩
 ·have hfn:X.fn x=true:=by
   rcases hf with z | z
   ·exact z
   ·rw [z] at hk; cases hk
  obtain ⟨c,hc⟩:=I.ok.has x (.inl hk)
  obtain ⟨w',z⟩:=I.cell x c hc
  refine wpAny_storeName_cell I.ok.kind hk hc z (fun h' hc' hs=>?_)
  obtain ⟨oc,hoc,hocd⟩:=id z
  refine h { s with heap:=h' } ⟨I.ok,I.os,I.bare,⟨fun b o e n hb hx=>?_,fun b o e n hb hx=>?_,I.base.free,fun b o e hx=>?_,I.base.tups,I.base.frzs,I.base.tbls⟩,⟨m,hn.sameBut hs (Ps (cne x c hc)),fun j y v' e1 e2 e3=>?_⟩,fun y c' e=>?_,I.free,I.freeC,fun p hp=>?_,tracked ⟨oc,hoc,I.freeC x c hc⟩ hs,by simpa using I.len⟩ ⟨c,hs,.inr hc⟩
  ·exact (hs.2 b (Pw (P6 (Pl e) (I.ok.cab x c hfn hc)))).trans (I.base.keep b o e n hb hx)
  ·obtain ⟨sl,e1⟩:=I.base.slot b o e n hb hx
   exact ⟨sl,(hs.2 b (Pw (P6 (Pl e) (I.ok.cab x c hfn hc)))).trans e1⟩
  ·obtain ⟨o',e1⟩:=I.base.there b o e hx
   exact ⟨o',(hs.2 b (Pw (P6 (Pl e) (I.ok.cab x c hfn hc)))).trans e1⟩
  ·by_cases hj:j=i
   ·subst hj
    rw [hi] at e1; cases e1
    rw [Vu hiσ] at e2
    cases e2
    exact ⟨u,r,.inr ⟨.inl hk,c,hc,hc'⟩⟩
   ·rw [Vz (Ps hj)] at e2
    obtain ⟨u',r',q⟩:=hl j y v' e1 e2 e3
    refine ⟨u',r',?_⟩
    rcases q with q | ⟨k,c',e,z'⟩
    ·exact .inl q
    ·refine .inr ⟨k,c',e,z'.sameBut hs ?_⟩
     rintro rfl
     exact hj (Zcr hN e1 (I.ok.inj _ _ _ e hc ▸ hi))
  ·by_cases hcc:c'=c
   ·subst hcc; exact ⟨_,hc'⟩
   ·obtain ⟨w2,z2⟩:=I.cell y c' e
    exact ⟨w2,z2.sameBut hs hcc⟩
  ·obtain ⟨e,n,ne,nf,d⟩:=I.pin p hp
   refine ⟨(hs.2 p.1 ?_).trans e,n,ne,nf,d⟩
   intro q
   rw [q,hoc] at e
   have q':oc=p.2:=Qi e
   exact d w' (by rw [<- q']; exact hocd)
theorem Zbi {M:Model} {A:Around} {E:Value->Shared->Prop} {i:Nat} {x:Str} {v:V} {u:Value} {Q:Unit->Shared->Prop} (I:Inv X pins σ H s) (hN:X.N.Nodup) (hi:X.N[i]?=some x) (hx:Ez X.env.scope x) (r:RelV v u)
  (h:∀ s',Inv X pins (σ.set i (some v)) H s'->Q () s') (hf:X.fn x=true\/X.env.scope.names.lookup x=some .local:=by first | exact .inl rfl | exact .inr rfl | assumption):wpAny M A (storeName X.env x u) Q E s :=
 Zcz I hN hi hx r (fun s' I' _=>h s' I') hf
theorem Inv.call' {s':Shared} {ch:List Addr} (I:Inv X pins σ H s) (ho:s'.os=s.os) (u:Un (Bl X.stack) ch H H' s.heap s'.heap) (hok:HOk X.prog X.w H' s'.heap) (hg:AllBare s'.gens)
  (hch:∀ b∈ch,(b∈X.ex\/X.s₀.heap.objs.size<=b)/\b≠X.env.locals/\(∀ x c,X.env.cells.lookup x=some c->c≠b)/\∀ p∈X.pn++pins,p.1≠b):Inv X pins σ H' s':=by
 obtain ⟨h',g',d',t',o'⟩:=s'
 have e:o'=s.os:=ho
 subst e
 exact I.call (g':=g') (t':=t') (d':=d') u hok hg hch
end
noncomputable abbrev XK:=Value->Option Addr->Hp->Prop
noncomputable abbrev St:=List (Option V)
noncomputable abbrev VK:=V->Hp->Prop
noncomputable abbrev TE:=St->Hp->VK->Prop
noncomputable abbrev TT:=St->Hp->(Bool->Hp->Prop)->Prop
noncomputable abbrev TA:=St->Hp->(List V->Hp->Prop)->Prop
structure C7 where
 nx:St->Hp->Prop
 rt:VK
 bk:St->Hp->Prop:=fun _ _=>False
 ct:St->Hp->Prop:=fun _ _=>False
noncomputable abbrev TS:=C7->St->Hp->Prop
noncomputable def EP (X:Cx) (pins:List (Addr×Obj)) (σ:St) (Q:VK) (u:Value) (s':Shared):Prop:=∃ v H',Inv X pins σ H' s'/\RelV v u/\Q v H'
noncomputable def TP (X:Cx) (pins:List (Addr×Obj)) (σ:St) (Q:Bool->Hp->Prop) (b:Bool) (s':Shared):Prop:=∃ H',Inv X pins σ H' s'/\Q b H'
noncomputable def AP (X:Cx) (pins:List (Addr×Obj)) (σ:St) (Q:List V->Hp->Prop) (us:List Value) (s':Shared):Prop:=∃ vs H',Inv X pins σ H' s'/\Vals vs us/\Q vs H'
noncomputable def SP (X:Cx) (pins:List (Addr×Obj)) (D:C7) (f:Flow) (s':Shared):Prop :=
 match f with
 | .next=>∃ σ' H',Inv X pins σ' H' s'/\D.nx σ' H'
 | .brk=>∃ σ' H',Inv X pins σ' H' s'/\D.bk σ' H'
 | .cont=>∃ σ' H',Inv X pins σ' H' s'/\D.ct σ' H'
 | .ret u=>∃ v σ' H',Inv X pins σ' H' s'/\RelV v u/\D.rt v H'
noncomputable def PE (X:Cx) (e:Expr) (t:TE):Prop :=
 ∀ (pins:List (Addr×Obj)) (s:Shared) (σ:St) (H:Hp) (Q:VK),Inv X pins σ H s->t σ H Q->wpAny (model X.prog X.w) X.A (eval e X.env) (EP X pins σ Q) X.xe s
noncomputable def PT (X:Cx) (e:Expr) (t:TT):Prop :=
 ∀ (pins:List (Addr×Obj)) (s:Shared) (σ:St) (H:Hp) (Q:Bool->Hp->Prop),Inv X pins σ H s->t σ H Q->wpAny (model X.prog X.w) X.A (isTrue e X.env (eval e X.env)) (TP X pins σ Q) X.xe s
noncomputable def PW (X:Cx) (e:Expr) (t:TT):Prop :=
 ∀ (whole:Sem Value) (pins:List (Addr×Obj)) (s:Shared) (σ:St) (H:Hp) (Q:Bool->Hp->Prop),Inv X pins σ H s->t σ H Q->wpAny (model X.prog X.w) X.A (isTrue e X.env whole) (TP X pins σ Q) X.xe s
theorem PW.pt {X:Cx} {e:Expr} {t:TT} (h:PW X e t):PT X e t:=h _
noncomputable def PA (X:Cx) (es:List Expr) (t:TA):Prop :=
 ∀ (pos:Pos) (pins:List (Addr×Obj)) (s:Shared) (σ:St) (H:Hp) (Q:List V->Hp->Prop),Inv X pins σ H s->t σ H Q->wpAny (model X.prog X.w) X.A (spliced (backTo pos (starEach es X.env))) (AP X pins σ Q) X.xe s
noncomputable def PS (X:Cx) (st:Stmt) (t:TS):Prop :=
 ∀ (pins:List (Addr×Obj)) (s:Shared) (σ:St) (H:Hp) (D:C7),Inv X pins σ H s->t D σ H->wpAny (model X.prog X.w) X.A (exec st X.env) (SP X pins D) X.xe s
noncomputable def PSs (X:Cx) (st:List Stmt) (t:TS):Prop :=
 ∀ (pins:List (Addr×Obj)) (s:Shared) (σ:St) (H:Hp) (D:C7),Inv X pins σ H s->t D σ H->wpAny (model X.prog X.w) X.A (execs st X.env) (SP X pins D) X.xe s
theorem Am {α:Type} {t:Sem α} {Q Q':α->Shared->Prop} {M:Model} {A:Around} {E:Value->Shared->Prop} {s:Shared} (h:wpAny M A t Q E s) (hQ:∀ a s,Q a s->Q' a s):wpAny M A t Q' E s:=Rf h hQ fun _ _ x=>x
end L2
namespace L2
open PySem PySem.Spec PyProof.Rows
section
variable {X:Cx}
noncomputable def Zai (i:Nat):TE:=fun σ H Q=>∃ v,σ[i]?=some (some v)/\Q v H
noncomputable def tC (v:V):TE:=fun _ H Q=>Q v H
theorem Znr {i:Nat} {x:Str} {pos:Pos} (hN:X.N[i]?=some x) (hv:Vis X.env.scope x) (hd:(x == ("__debug__" : Str))=false:=by decide) (hcd:(x == ("__classdict__" : Str))=false:=by decide):PE X (.Name x pos) (Zai i):=by
 intro pins s σ H Q I h
 obtain ⟨v,e,h⟩:=h
 obtain ⟨m,hn,hl⟩:=I.loc
 obtain ⟨u,r,l⟩:=hl i x v hN e hv
 have fin:EP X pins σ Q u s:=⟨v,H,I,r,h⟩
 rcases l with ⟨hk,hm⟩ | ⟨hk,c,hc,hcell⟩
 ·exact wpAny_Name (wpAny_loadName_local I.ok.kind hk hn hm fin) hd
 ·rcases hk with hk | hk
  ·exact wpAny_Name (wpAny_loadName_cell I.ok.kind hk hc hcell fin) hd
  ·exact wpAny_Name (wpAny_loadName_free I.ok.kind hk hc hcell fin hcd) hd
theorem Zfu {i j pos}:PE X (.Constant (.int i) j pos) (tC (.int i)):=fun _ _ _ H _ I h=>wpAny_Constant_int ⟨.int i,H,I.tok _,⟨_,rfl⟩,h⟩
theorem Zdh {b j pos}:PE X (.Constant (.bool b) j pos) (tC (.bl b)):=fun _ _ _ H _ I h=>Constant_bool ⟨.bl b,H,I,rfl,h⟩
theorem Zgj {j pos}:PE X (.Constant .none j pos) (tC .non):=fun _ _ _ H _ I h=>Constant_none ⟨.non,H,I,rfl,h⟩
theorem Zcf {x j pos}:PE X (.Constant (.str x) j pos) (tC (.str x)):=fun _ _ _ H _ I h=>Calls.Constant_str ⟨.str x,H,I.tok _,⟨_,rfl⟩,h⟩
noncomputable def Gl (X:Cx) (x:Str):Prop:=X.env.kindOf x=some .globalImplicit
theorem Ho {E:Value->Shared->Prop} {pins:List (Addr×Obj)} {s:Shared} {σ:St} {H:Hp} {x:Str} {u:Value} {pos:Pos} {Q:Value->Shared->Prop} (I:Inv X pins σ H s) (hg:Gl X x) (hm:X.mg x=some u) (h:Q u s)
  (hd:(x == ("__debug__" : Str))=false:=by decide):wpAny (model X.prog X.w) X.A (eval (.Name x pos) X.env) Q E s :=
 Calls.Name_function_global I.ok.kind hg (Calls.loadGlobal_global (by rw [I.ok.glob]; exact I.mod.glob.keeps I.bk) hm h) hd
theorem Fc {E:Value->Shared->Prop} {pins:List (Addr×Obj)} {s:Shared} {σ:St} {H:Hp} {x:Str} {u:Value} {pos:Pos} {Q:Value->Shared->Prop} (I:Inv X pins σ H s) (hg:Gl X x) (hm:X.mg x=none) (hv:bootBuiltins x=some u) (h:Q u s)
  (hn:x ≠ "__name__" := by decide) (hd:(x == ("__debug__" : Str))=false:=by decide):wpAny (model X.prog X.w) X.A (eval (.Name x pos) X.env) Q E s:=by
 obtain ⟨mb,h1,h2⟩:=I.mod.blt
 exact Calls.Name_function_global I.ok.kind hg (Calls.loadGlobal_builtin (by rw [I.ok.glob]; exact I.mod.glob.keeps I.bk) hm (by rw [I.ok.blt]; exact h1.keeps I.bk) ((h2 x hn).trans hv) h) hd
theorem Zps {x:Str} {v:V} {u:Value} {pos:Pos} (hg:Gl X x) (hm:X.mg x=some u) (r:RelV v u) (hd:(x == ("__debug__" : Str))=false:=by decide):PE X (.Name x pos) (tC v) :=
 fun _ _ _ H _ I h=>Ho I hg hm ⟨v,H,I,r,h⟩ hd
theorem Zju {x:Str} {v:V} {u:Value} {pos:Pos} (hg:Gl X x) (hm:X.mg x=none) (hv:bootBuiltins x=some u) (r:RelV v u) (hn:x ≠ "__name__" := by decide) (hd:(x == ("__debug__" : Str))=false:=by decide):PE X (.Name x pos) (tC v) :=
 fun _ _ _ H _ I h=>Fc I hg hm hv ⟨v,H,I,r,h⟩ hn hd
variable {a b:Expr} {ta tb:TE} {pos:Pos}
noncomputable def PC (X:Cx) (op:CmpOp) (a b:Expr) (t:TE):Prop :=
 ∀ (pins:List (Addr×Obj)) (s:Shared) (σ:St) (H:Hp) (Q:VK),Inv X pins σ H s->t σ H Q ->
  wpAny (model X.prog X.w) X.A (eval a X.env) (fun v s₁=>wpAny (model X.prog X.w) X.A (eval b X.env) (fun u s₂=>wpAny (model X.prog X.w) X.A (compareOp op v u) (EP X pins σ Q) X.xe s₂) X.xe s₁) X.xe s
theorem Ln (b:Expr) {op:CmpOp} (h:op≠.In) (h2:op≠.NotIn):behindInMarks op b=false:=by
 have e1:(op == CmpOp.In)=false:=by cases op <;> first | rfl | exact absurd rfl h
 have e2:(op == CmpOp.NotIn)=false:=by cases op <;> first | rfl | exact absurd rfl h2
 cases b <;> simp [behindInMarks,e1,e2]
noncomputable def Zau (ta:TE):TE:=fun σ H Q=>ta σ H fun x H1=>Q (.bl (decide (x=.non))) H1
theorem RelV.none_iff {x:V} {v:Value} (r:RelV x v):(v == Value.none)=decide (x=.non):=by
 cases x with
 | non=>cases r; rfl
 | bl _=>cases r; rfl
 | int _=>obtain ⟨t,rfl⟩:=r; rfl
 | str _=>obtain ⟨t,rfl⟩:=r; rfl
 | byt _=>obtain ⟨t,rfl⟩:=r; rfl
 | flt _=>obtain ⟨t,rfl⟩:=r; rfl
 | ref _=>cases r; rfl
 | ty _=>cases r; rfl
theorem Zqo {j pos'} (ha:PE X a ta):PC X .Is a (.Constant .none j pos') (Zau ta):=by
 intro pins s σ H Q I h
 refine Am (ha pins s σ H _ I h) fun v s1 zq=>?_
 obtain ⟨x,H1,I1,r1,q1⟩:=zq
 exact Constant_none (is_none_gen ⟨.bl _,H1,I1,by rw [r1.none_iff]; rfl,q1⟩)
noncomputable def tB (t:TE):TT:=fun σ H Q=>t σ H fun x H1=>∃ c,x=.bl c/\Q c H1
theorem Zq8 {op:CmpOp} {t:TE} (h:PC X op a b t) (h1:behindInMarks op b=false:=by first | exact Ln _ (by decide) (by decide) | rfl):PE X (.Compare a [op] [b] pos) t:=fun pins s σ H Q I hw=>wpAny_Compare1 (h pins s σ H Q I hw) h1
theorem Zit {op:CmpOp} {t:TE} (h:PC X op a b t) (h1:behindInMarks op b=false:=by first | exact Ln _ (by decide) (by decide) | rfl):PT X (.Compare a [op] [b] pos) (tB t):=by
 intro pins s σ H Q I hw
 refine wpAny_isTrue_Compare1 (Am (h pins s σ H _ I hw) fun v s1 h1=>Am h1 fun u s2 h2=>Am h2 fun c s3 zq=>?_) h1
 obtain ⟨x,H1,I1,r1,q1⟩:=zq
 obtain ⟨d,rfl,q⟩:=q1
 cases r1
 exact Rh ⟨H1,I1,q⟩
theorem Zkp {e:Expr} {t:TE} (h:PE X e t) (he:∀ whole,isTrue e X.env whole=(do let v <- whole; standAt e.pos; holding [v] (truthy v)):=by intro _; rfl):PT X e (tB t):=by
 intro pins s σ H Q I hw
 refine isTrue_plain (Am (h pins s σ H _ I hw) fun v s1 zq=>?_) (he _)
 obtain ⟨x,H1,I1,r1,q1⟩:=zq
 obtain ⟨d,rfl,q⟩:=q1
 cases r1
 exact Rh ⟨H1,I1,q⟩
variable {tA tB':TT} {rest:List Expr}
noncomputable def Oy (t u:TT):TT:=fun σ H Q=>t σ H fun c H1=>if c=true then u σ H1 Q else Q false H1
noncomputable def tOr (t u:TT):TT:=fun σ H Q=>t σ H fun c H1=>if c=true then Q true H1 else u σ H1 Q
noncomputable def Zbf (t:TT):TT:=fun σ H Q=>t σ H fun c H1=>Q (!c) H1
theorem pw_and1 (ha:PT X a tA):PW X (.BoolOp .And [a] pos) tA:=by
 intro wh pins s σ H Q I h
 refine isTrue_and (Am (ha pins s σ H Q I h) fun c s1 e=>?_)
 cases c with
 | true=>exact isTrue_and_nil e
 | false=>exact e
theorem pw_or1 (ha:PT X a tA):PW X (.BoolOp .Or [a] pos) tA:=by
 intro wh pins s σ H Q I h
 refine isTrue_or (Am (ha pins s σ H Q I h) fun c s1 e=>?_)
 cases c with
 | false=>exact isTrue_or_nil e
 | true=>exact e
theorem pw_and (ha:PT X a tA) (hb:PW X (.BoolOp .And (b :: rest) pos) tB'):PW X (.BoolOp .And (a :: b :: rest) pos) (Oy tA tB'):=by
 intro wh pins s σ H Q I h
 refine isTrue_and (Am (ha pins s σ H _ I h) fun c s1 zq=>?_)
 obtain ⟨H1,I1,q1⟩:=zq
 cases c with
 | true=>exact hb wh pins s1 σ H1 Q I1 q1
 | false=>exact ⟨H1,I1,q1⟩
theorem pw_or (ha:PT X a tA) (hb:PW X (.BoolOp .Or (b :: rest) pos) tB'):PW X (.BoolOp .Or (a :: b :: rest) pos) (tOr tA tB'):=by
 intro wh pins s σ H Q I h
 refine isTrue_or (Am (ha pins s σ H _ I h) fun c s1 zq=>?_)
 obtain ⟨H1,I1,q1⟩:=zq
 cases c with
 | true=>exact ⟨H1,I1,q1⟩
 | false=>exact hb wh pins s1 σ H1 Q I1 q1
theorem Zm5 (ha:PT X a tA):PT X (.UnaryOp .Not a pos) (Zbf tA):=by
 intro pins s σ H Q I h
 exact isTrue_not (ha pins s σ H (fun c H1=>Q (!c) H1) I h)
noncomputable def Ob (ta tb:TE):TE:=fun σ H Q=>ta σ H fun x H1=>∃ c,x=.bl c/\if c=true then tb σ H1 Q else Q (.bl false) H1
noncomputable def Zbn (ta tb:TE):TE:=fun σ H Q=>ta σ H fun x H1=>∃ c,x=.bl c/\if c=true then Q (.bl true) H1 else tb σ H1 Q
noncomputable def Za9 (ta:TE):TE:=fun σ H Q=>ta σ H fun x H1=>∃ c,x=.bl c/\Q (.bl (!c)) H1
theorem Zjb {op} {t:TE} (h:PE X a t):PE X (.BoolOp op [a] pos) t:=fun pins s σ H Q I hw=>BoolOp_one (h pins s σ H Q I hw)
theorem Zlw (ha:PE X a ta) (hb:PE X (.BoolOp .And (b :: rest) pos) tb):PE X (.BoolOp .And (a :: b :: rest) pos) (Ob ta tb):=by
 intro pins s σ H Q I h
 refine BoolOp_and (Am (ha pins s σ H _ I h) fun v s1 zq=>?_)
 obtain ⟨x,H1,I1,r1,q1⟩:=zq
 obtain ⟨c,rfl,q1⟩:=q1
 cases r1
 refine Rh ?_
 cases c with
 | true=>exact hb pins s1 σ H1 Q I1 q1
 | false=>exact ⟨.bl false,H1,I1,rfl,q1⟩
theorem Zjl (ha:PE X a ta) (hb:PE X (.BoolOp .Or (b :: rest) pos) tb):PE X (.BoolOp .Or (a :: b :: rest) pos) (Zbn ta tb):=by
 intro pins s σ H Q I h
 refine BoolOp_or (Am (ha pins s σ H _ I h) fun v s1 zq=>?_)
 obtain ⟨x,H1,I1,r1,q1⟩:=zq
 obtain ⟨c,rfl,q1⟩:=q1
 cases r1
 refine Rh ?_
 cases c with
 | false=>exact hb pins s1 σ H1 Q I1 q1
 | true=>exact ⟨.bl true,H1,I1,rfl,q1⟩
theorem Zob (ha:PE X a ta):PE X (.UnaryOp .Not a pos) (Za9 ta):=by
 intro pins s σ H Q I h
 refine UnaryOp_ (Am (ha pins s σ H _ I h) fun v s1 zq=>?_)
 obtain ⟨x,H1,I1,r1,q1⟩:=zq
 obtain ⟨c,rfl,q1⟩:=q1
 cases r1
 exact not_of (Rh ⟨.bl (!c),H1,I1,rfl,q1⟩)
noncomputable def Ie (t:TT) (ta tb:TE):TE:=fun σ H Q=>t σ H fun c H1=>if c=true then ta σ H1 Q else tb σ H1 Q
theorem Zlp {c:Expr} (hc:PT X c tA) (ha:PE X a ta) (hb:PE X b tb):PE X (.IfExp c a b pos) (Ie tA ta tb):=by
 intro pins s σ H Q I h
 refine wpAny_IfExp (Am (hc pins s σ H _ I h) fun d s1 zq=>?_)
 obtain ⟨H1,I1,q1⟩:=zq
 cases d with
 | true=>exact ha pins s1 σ H1 Q I1 q1
 | false=>exact hb pins s1 σ H1 Q I1 q1
end
end L2
namespace L2
open PySem PySem.Spec PyProof.Rows
noncomputable def SqL (K:Pd) (H:Hp) (a:Addr) (xs:List V):Prop :=
 Rd H a (.lst xs) \/
  ∃ (o:Obj) (its:Array Value) (n:Nat),K.lookup a=some o/\o.cls=.type "list" /\ o.dict=none/\o.data=.seq its n/\its.size<=sizeLine/\Vals xs its.toList
noncomputable def SqT (K:Pd) (H:Hp) (a:Addr) (xs:List V):Prop :=
 Rd H a (.tup xs) \/
  ∃ (o:Obj) (its:Array Value) (n:Nat),K.lookup a=some o/\o.cls=.type "tuple" /\ o.data=.seq its n/\its.size<=sizeLine/\Vals xs its.toList
noncomputable def Mg:Value->Option V
 | .none=>some .non
 | .bool b=>some (.bl b)
 | .int i _=>some (.int i)
 | .str x _=>some (.str x)
 | .bytes b _=>some (.byt b)
 | .float b _=>some (.flt b)
 | .ref a=>some (.ref a)
 | .type n=>some (.ty n)
 | _=>none
theorem RelV.abs {x:V} {u:Value} (r:RelV x u):Mg u=some x:=by
 cases x with
 | non=>cases r; rfl
 | bl _=>cases r; rfl
 | int _=>obtain ⟨t,rfl⟩:=r; rfl
 | str _=>obtain ⟨t,rfl⟩:=r; rfl
 | byt _=>obtain ⟨t,rfl⟩:=r; rfl
 | flt _=>obtain ⟨t,rfl⟩:=r; rfl
 | ref _=>cases r; rfl
 | ty _=>cases r; rfl
theorem RelV.inj {x y:V} {u:Value} (r:RelV x u) (q:RelV y u):x=y:=Qi (r.abs.symm.trans q.abs)
theorem Vals.inj:∀ {xs ys:List V} {us:List Value},Vals xs us->Vals ys us->xs=ys
 | _,_,_,.nil,.nil=>rfl
 | _,_,_,.cons r t,.cons r' t'=>by rw [r.inj r',Vals.inj t t']
section
variable {X:Cx} {pins:List (Addr×Obj)} {σ:St} {H:Hp} {s:Shared} {a:Addr} {xs ys:List V}
theorem SqL.of {K:Pd} (h:H a=some (.lst xs)):SqL K H a xs:=.inl (.inl h)
theorem SqT.of {K:Pd} (h:H a=some (.tup xs)):SqT K H a xs:=.inl (.inl h)
theorem Inv.list (I:Inv X pins σ H s) (h:SqL X.K H a xs):∃ its:List Value,Vals xs its/\PlainL s.heap a its.toArray/\xs.length<=sizeLine:=by
 rcases h with h | ⟨o,its,n,hk,hc,hd,hs,hz,r⟩
 ·obtain ⟨z,its,n,r,e⟩:=h.ok I.hok
  exact ⟨its,r,⟨_,n,e,rfl,rfl,rfl⟩,z⟩
 ·refine ⟨its.toList,r,⟨o,n,I.kIn a o hk,hc,hd,by simpa using hs⟩,?_⟩
  have e:=r.length
  simp only [Ur] at e
  omega
theorem Inv.tuple (I:Inv X pins σ H s) (h:SqT X.K H a xs):∃ its:List Value,Vals xs its/\IsTup s.heap a its.toArray/\xs.length<=sizeLine:=by
 rcases h with h | ⟨o,its,n,hk,hc,hs,hz,r⟩
 ·obtain ⟨z,its,r,p⟩:=h.ok I.hok
  exact ⟨its,r,p,z⟩
 ·refine ⟨its.toList,r,⟨o,I.kIn a o hk,hc,n,by simpa using hs⟩,?_⟩
  have e:=r.length
  simp only [Ur] at e
  omega
theorem Inv.list_inj (I:Inv X pins σ H s) (h:SqL X.K H a xs) (h':SqL X.K H a ys):xs=ys:=by
 obtain ⟨its,r,⟨o,n,e,_,_,d⟩,_⟩:=I.list h
 obtain ⟨its',r',⟨o',n',e',_,_,d'⟩,_⟩:=I.list h'
 rw [e] at e'; cases e'
 rw [d] at d'
 injection d' with d1 _
 have:its=its':=by simpa using congrArg Array.toList d1
 subst this
 exact r.inj r'
theorem Inv.tuple_inj (I:Inv X pins σ H s) (h:SqT X.K H a xs) (h':SqT X.K H a ys):xs=ys:=by
 obtain ⟨its,r,⟨o,e,_,n,d⟩,_⟩:=I.tuple h
 obtain ⟨its',r',⟨o',e',_,n',d'⟩,_⟩:=I.tuple h'
 rw [e] at e'; cases e'
 rw [d] at d'
 injection d' with d1 _
 have:its=its':=by simpa using congrArg Array.toList d1
 subst this
 exact r.inj r'
end
noncomputable abbrev Cx.wish (X:Cx) (E:Value->Shared->Prop):Cx:={ X with xe:=E }
noncomputable abbrev Cx.nox (X:Cx):Cx:=X.wish fun _ _=>False
theorem Cx.Ok.wish {X:Cx} (ok:X.Ok) (E:Value->Shared->Prop):(X.wish E).Ok :=
 ⟨ok.mod,ok.kind,ok.glob,ok.blt,ok.above,ok.inj,ok.has,ok.cab,ok.hd,ok.frames,ok.stk,ok.exf,ok.bs,ok.bsz,ok.noex,ok.exfs,ok.funs,ok.frf⟩
theorem Cx.Ok.unwish {X:Cx} {E:Value->Shared->Prop} (ok:(X.wish E).Ok):X.Ok :=
 ⟨ok.mod,ok.kind,ok.glob,ok.blt,ok.above,ok.inj,ok.has,ok.cab,ok.hd,ok.frames,ok.stk,ok.exf,ok.bs,ok.bsz,ok.noex,ok.exfs,ok.funs,ok.frf⟩
section
variable {X:Cx} {pins:List (Addr×Obj)} {σ:St} {H:Hp} {s:Shared} {E:Value->Shared->Prop}
theorem Inv.wish (I:Inv X pins σ H s) (E:Value->Shared->Prop):Inv (X.wish E) pins σ H s:=⟨I.ok.wish E,I.os,I.bare,I.base,I.loc,I.cell,I.free,I.freeC,I.pin,I.hok,I.len⟩
theorem Inv.unwish (I:Inv (X.wish E) pins σ H s):Inv X pins σ H s:=⟨I.ok.unwish,I.os,I.bare,I.base,I.loc,I.cell,I.free,I.freeC,I.pin,I.hok,I.len⟩
theorem SP.unwish {D:C7} {f:Flow} {s':Shared} (h:SP (X.wish E) pins D f s'):SP X pins D f s':=by
 cases f with
 | next=>obtain ⟨σ',H',I,q⟩:=h; exact ⟨σ',H',I.unwish,q⟩
 | brk=>obtain ⟨σ',H',I,q⟩:=h; exact ⟨σ',H',I.unwish,q⟩
 | cont=>obtain ⟨σ',H',I,q⟩:=h; exact ⟨σ',H',I.unwish,q⟩
 | ret u=>obtain ⟨v,σ',H',I,r,q⟩:=h; exact ⟨v,σ',H',I.unwish,r,q⟩
theorem PSs.nox {st:List Stmt} {t:TS} (h:PSs X.nox st t):PSs X st t:=fun pins s σ H D I hw =>
 Rf (h pins s σ H D (I.wish _) hw) (fun _ _ q=>q.unwish) fun _ _ z=>Qc z
end
section
variable {X:Cx} {st:Stmt} {rest:List Stmt} {t u:TS} {e:Expr} {te:TE} {pos:Pos}
noncomputable def O0:TS:=fun D σ H=>D.nx σ H
noncomputable def Nd (t u:TS):TS:=fun D σ H=>t { D with nx:=u D } σ H
theorem Zg5:PSs X [] O0:=fun _ _ σ H _ I h=>So ⟨σ,H,I,h⟩
theorem Zor (h1:PS X st t) (h2:PSs X rest u):PSs X (st :: rest) (Nd t u):=by
 intro pins s σ H D I h
 refine V8 (Am (h1 pins s σ H { D with nx:=u D } I h) fun f s1 q=>?_)
 cases f with
 | next =>
  obtain ⟨σ',H',I',q⟩:=q
  exact h2 pins s1 σ' H' D I' q
 | ret v=>exact q
 | brk=>exact q
 | cont=>exact q
theorem Zq0 (h1:PS X st t):PSs X [st] t:=by
 intro pins s σ H D I h
 refine V8 (Am (h1 pins s σ H D I h) fun f s1 q=>?_)
 cases f with
 | next=>exact So q
 | ret v=>exact q
 | brk=>exact q
 | cont=>exact q
theorem Inv.quiet {pins:List (Addr×Obj)} {σ:St} {H:Hp} {s:Shared} (I:Inv X pins σ H s):interactive X.env=false:=by simp [interactive,I.ok.kind]
noncomputable def Oq (te:TE):TS:=fun D σ H=>te σ H fun _ H1=>D.nx σ H1
theorem Zk9 (he:PE X e te) (hs:swapsWith e none pos.line X.env=pure false:=by rfl):PS X (.Expr e pos) (Oq te):=by
 intro pins s σ H D I h
 exact wpAny_Expr_any (Am (he pins s σ H _ I h) fun v s1 ⟨x,H1,I1,r1,q1⟩=>⟨σ,H1,I1,q1⟩) I.quiet hs
noncomputable def Zah (te:TE):TS:=fun D σ H=>te σ H D.rt
theorem Znc (he:PE X e te):PS X (.Return (some e) pos) (Zah te):=by
 intro pins s σ H D I h
 exact wpAny_Return_some (Am (he pins s σ H _ I h) fun v s1 ⟨x,H1,I1,r1,q1⟩=>⟨x,σ,H1,I1,r1,q1⟩)
noncomputable def F0 (c:TT) (t u:TS):TS:=fun D σ H=>c σ H fun b H1=>if b=true then t D σ H1 else u D σ H1
theorem Znm {c:Expr} {a b:List Stmt} {tc:TT} (hc:PT X c tc) (ha:PSs X a t) (hb:PSs X b u):PS X (.If c a b pos) (F0 tc t u):=by
 intro pins s σ H D I h
 refine wpAny_If (Am (hc pins s σ H _ I h) fun d s1 zq=>?_)
 obtain ⟨H1,I1,q1⟩:=zq
 cases d with
 | true=>exact ha pins s1 σ H1 D I1 q1
 | false=>exact hb pins s1 σ H1 D I1 q1
end
noncomputable abbrev TG:=V->St->Hp->(St->Hp->Prop)->Prop
noncomputable abbrev D9:=List V->St->Hp->(St->Hp->Prop)->Prop
noncomputable def PG (X:Cx) (target:Expr) (t:TG):Prop :=
 ∀ (pins:List (Addr×Obj)) (s:Shared) (σ:St) (H:Hp) (v:V) (u:Value) (Q:St->Hp->Prop),Inv X pins σ H s->RelV v u->t v σ H Q ->
  wpAny (model X.prog X.w) X.A (assign target X.env u) (fun _ s'=>∃ σ' H',Inv X pins σ' H' s'/\Q σ' H') X.xe s
noncomputable def PGs (X:Cx) (ts:List Expr) (t:D9):Prop :=
 ∀ (pins:List (Addr×Obj)) (s:Shared) (σ:St) (H:Hp) (vs:List V) (us:List Value) (Q:St->Hp->Prop),Inv X pins σ H s->Vals vs us->t vs σ H Q ->
  wpAny (model X.prog X.w) X.A (assignInOrder ((assignEach ts X.env).map (·.2)) us) (fun _ s'=>∃ σ' H',Inv X pins σ' H' s'/\Q σ' H') X.xe s
section
variable {X:Cx} {pos:Pos}
noncomputable def Ft (i:Nat):TG:=fun v σ H Q=>Q (σ.set i (some v)) H
theorem Zpp {i:Nat} {x:Str} (hN:X.N.Nodup) (hi:X.N[i]?=some x) (hx:Ez X.env.scope x) (hf:X.fn x=true\/X.env.scope.names.lookup x=some .local:=by first | exact .inl rfl | exact .inr rfl | assumption):PG X (.Name x pos) (Ft i):=by
 intro pins s σ H v u Q I r h
 exact wpAny_assign_Name (Zbi I hN hi hx r (fun s' I'=>⟨_,H,I',h⟩) hf)
noncomputable def Za7:D9:=fun vs σ H Q=>vs=[]/\Q σ H
noncomputable def Zbo (t:TG) (u:D9):D9:=fun vs σ H Q=>∃ v r,vs=v :: r/\t v σ H fun σ' H'=>u r σ' H' Q
theorem Zk6:PGs X [] Za7:=by
 intro pins s σ H vs us Q I r h
 obtain ⟨e,h⟩:=h
 subst e
 cases r
 exact assignInOrder_nil ⟨σ,H,I,h⟩
theorem Zjw {e:Expr} {es:List Expr} {t:TG} {u:D9} (h1:PG X e t) (h2:PGs X es u)
  (hs:(assignEach (e :: es) X.env).map (·.2)=assign e X.env :: (assignEach es X.env).map (·.2):=by rfl):PGs X (e :: es) (Zbo t u):=by
 intro pins s σ H vs us Q I r h
 obtain ⟨v,vr,e1,h⟩:=h
 subst e1
 cases r with
 | cons r rr =>
  rw [hs]
  refine assignInOrder_cons (Am (h1 pins s σ H _ _ _ I r h) fun _ s1 zq=>?_)
  obtain ⟨σ1,H1,I1,q1⟩:=zq
  exact h2 pins s1 σ1 H1 _ _ Q I1 rr q1
noncomputable def Lv (K:Pd) (n:Nat) (t:D9):TG:=fun v σ H Q=>∃ a xs,v=.ref a/\SqT K H a xs/\xs.length=n/\t xs σ H Q
theorem Zpd {es:List Expr} {k:Nat} {t:D9} {n:Nat} (hc:X.calm=true) (h:PGs X es t)
  (hn:(assignEach es X.env).length=n:=by rfl) (hst:(assignEach es X.env).findIdx? (·.1)=none:=by rfl):PG X (.Tuple es k pos) (Lv X.K n t):=by
 intro pins s σ H v u Q I r hw
 obtain ⟨a,xs,e1,hq,hl,hw⟩:=hw
 subst e1
 cases r
 obtain ⟨its,rv,ht,hz⟩:=I.tuple hq
 refine assign_Tuple_tuple (I.ok.hd hc) ht (by simp [hn,<- hl,rv.length]) hst fun h' hx=>?_
 have I1:Inv X pins σ H { s with heap:=h' }:=I.kept (t':=s.toks) fun b o e=>hx b o (Pw (Pl e)) e
 exact h pins _ σ H xs _ Q I1 (by simpa using rv) hw
noncomputable def Fw (te:TE) (g:TG):TS:=fun D σ H=>te σ H fun x H1=>g x σ H1 D.nx
theorem Zj1 {tg e:Expr} {te:TE} {g:TG} (he:PE X e te) (hg:PG X tg g) (hs:swapsWithSole [tg] e pos.line X.env=pure false:=by rfl) (hw:swappedStores [tg] e X.env=pure none:=by rfl)
  (h1:(assignEach [tg] X.env).map (·.2)=[assign tg X.env]:=by rfl):PS X (.Assign [tg] e pos) (Fw te g):=by
 intro pins s σ H D I h
 refine wpAny_Assign_stores (Am (he pins s σ H _ I h) fun v s1 zq=>?_) hs hw
 obtain ⟨x,H1,I1,r1,q1⟩:=zq
 rw [h1]
 exact Am (hg pins s1 σ H1 x v _ I1 r1 q1) fun _ s2 q=>q
theorem Zjp {i:Nat} {x:Str} {e:Expr} {te:TE} {pos':Pos} (hN:X.N.Nodup) (hi:X.N[i]?=some x) (hx:Ez X.env.scope x) (he:PE X e te) (hs:swapsWith e (some (.Name x pos')) pos.line X.env=pure false:=by rfl) (hf:X.fn x=true\/X.env.scope.names.lookup x=some .local:=by first | exact .inl rfl | exact .inr rfl | assumption) :
  PS X (.Assign [.Name x pos'] e pos) (Fw te (Ft i)):=by
 intro pins s σ H D I h
 refine wpAny_Assign_Name (Am (he pins s σ H _ I h) fun v s1 zq=>?_) hs
 obtain ⟨y,H1,I1,r1,q1⟩:=zq
 exact Zbi I1 hN hi hx r1 (fun s2 I2=>⟨_,H1,I2,q1⟩) hf
end
section
variable {X:Cx} {pos:Pos}
noncomputable def Zb2 (c:TT) (tb:TS):TS:=fun D σ H=>∃ W:Nat->St->Hp->Prop,(∃ m,W m σ H)/\∀ m σ H,W m σ H ->
 c σ H fun b H1=>if b=true then ∃ N:St->Hp->Prop,(∀ σ' H',N σ' H'->∃ m',m' < m/\W m' σ' H')/\tb { D with nx:=N,ct:=N,bk:=D.nx } σ H1 else D.nx σ H1
theorem Zrf {c:Expr} {body:List Stmt} {tc:TT} {tb:TS} (hp:PassesOwn (model X.prog X.w) X.A X.env X.xe) (hc:PT X c tc) (hb:PSs X body tb):PS X (.While c body [] pos) (Zb2 tc tb):=by
 intro pins s σ H D I h
 obtain ⟨W,⟨m0,w0⟩,turn⟩:=h
 refine wpAny_While (codeAny_whileLoop (fun n s'=>∃ σ' H',Inv X pins σ' H' s'/\W n σ' H') ?_ m0 ⟨σ,H,I,w0⟩)
 rintro n s1 ⟨σ1,H1,I1,w1⟩
 refine R5 hp (Am (hc pins s1 σ1 H1 _ I1 (turn n σ1 H1 w1)) fun b s2 zq=>?_)
 obtain ⟨H2,I2,q2⟩:=zq
 cases b with
 | true =>
  obtain ⟨N,hN,q2⟩:=q2
  rw [if_pos rfl]
  refine R5 hp (Am (hb pins s2 σ1 H2 _ I2 q2) fun f s3 q3=>?_)
  cases f with
  | next =>
   obtain ⟨σ3,H3,I3,n3⟩:=q3
   obtain ⟨m',hm,w3⟩:=hN σ3 H3 n3
   exact ⟨m',hm,σ3,H3,I3,w3⟩
  | cont =>
   obtain ⟨σ3,H3,I3,n3⟩:=q3
   obtain ⟨m',hm,w3⟩:=hN σ3 H3 n3
   exact ⟨m',hm,σ3,H3,I3,w3⟩
  | brk=>exact q3
  | ret v=>exact q3
 | false =>
  rw [if_neg Po]
  exact So ⟨σ1,H2,I2,q2⟩
end
structure It where
 go:Nat->Hp->Prop
 yld:Nat->Hp->V->Hp->Prop
 stop:Nat->Hp->Prop
noncomputable def FpOk (X:Cx) (pins:List (Addr×Obj)) (H:Hp) (b:Addr):Prop :=
 H b=none/\b≠X.env.locals/\b ∉ X.fs/\(b∈X.ex\/X.s₀.heap.objs.size<=b)/\(∀ x c,X.env.cells.lookup x=some c->c≠b)/\∀ p∈X.pn++pins,p.1≠b
theorem Inv.fpOk {X:Cx} {pins:List (Addr×Obj)} {σ:St} {H H':Hp} {s:Shared} {b:Addr} (I:Inv X pins σ H s) (hb:s.heap.objs.size<=b) (hn:H' b=none):FpOk X pins H' b:=by
 refine ⟨hn,Ql (P6 I.lt hb),I.nofs hb,.inr (Qd I.sz hb),fun x c e z=>?_,fun p hp z=>?_⟩
 ·obtain ⟨v,q⟩:=I.cell x c e
  exact absurd (P6 q.lt (by rw [z]; exact hb)) (Qr _)
 ·exact absurd (P6 (Pl (I.pin p hp).1) (by rw [z]; exact hb)) (Qr _)
structure Gq (P:Program) (w:World) (K:Pd) (tg:Expr) (J:It) (fp:List Addr) (it:Addr) (tn:Nat->Heap->Prop):Prop where
 mem:it∈fp
 obj:∀ i h,tn i h->∀ b∈fp,∃ o,h.get? b=some o/\∀ v,o.data≠.cell v
 keep:∀ i h h',tn i h->(∀ b∈fp,∀ o,h.get? b=some o->h'.get? b=some o)->tn i h'
 item:∀ (X:Cx),X.prog=P->X.w=w->X.K=K->X.calm=true->∀ (i:Nat) (pins:List (Addr×Obj)) (s:Shared) (σ:St) (H:Hp) (E:Value->Shared->Prop),Inv X pins σ H s->(∀ b∈fp,FpOk X pins H b)->tn i s.heap->J.go i H ->
  wpAny (model P w) X.A (pyNext (.ref it)) (fun r s1=>∃ u,r=some u /\
   wpAny (model P w) X.A (letOwnedTupleGo tg (.ref it) u) (fun _ s2=>∃ x H',Inv X pins σ H' s2/\RelV x u/\J.yld i H x H'/\tn (i + 1) s2.heap/\∀ b∈fp,H' b=none) E s1) E s
 done:∀ (X:Cx),X.prog=P->X.w=w->X.K=K->X.calm=true->∀ (i:Nat) (pins:List (Addr×Obj)) (s:Shared) (σ:St) (H:Hp) (E:Value->Shared->Prop),Inv X pins σ H s->(∀ b∈fp,FpOk X pins H b)->tn i s.heap->J.stop i H ->
  wpAny (model P w) X.A (pyNext (.ref it)) (fun r s1=>r=none/\Inv X pins σ H s1) E s
 self:∀ (A:Around) (i:Nat) (s:Shared) (Q:Value->Shared->Prop) (E:Value->Shared->Prop),tn i s.heap->Q (.ref it) s->wpAny (model P w) A (pyIter (.ref it)) Q E s
noncomputable abbrev TI:=St->Hp->(It->Hp->Prop)->Prop
noncomputable def PIE (X:Cx) (pins:List (Addr×Obj)) (σ:St) (tg:Expr) (R:It->Hp->Prop) (itv:Value) (s2:Shared):Prop :=
 ∃ (it:Addr) (fp:List Addr) (tn:Nat->Heap->Prop) (J:It) (H':Hp),itv=.ref it/\Inv X pins σ H' s2/\Gq X.prog X.w X.K tg J fp it tn/\tn 0 s2.heap/\(∀ b∈fp,FpOk X pins H' b)/\R J H'
noncomputable def PI (X:Cx) (tg iter:Expr) (wi:TI):Prop :=
 ∀ (pins:List (Addr×Obj)) (s:Shared) (σ:St) (H:Hp) (R:It->Hp->Prop),Inv X pins σ H s->wi σ H R ->
  wpAny (model X.prog X.w) X.A (eval iter X.env) (fun v s1=>wpAny (model X.prog X.w) X.A (pyIter v) (PIE X pins σ tg R) X.xe s1) X.xe s
theorem Kz {M:Model} {A:Around} {E:Value->Shared->Prop} {s:Shared} {tg:Expr} {it:Addr} {u:Value} {o:Obj} {n:String} {vs:Array Value} {Q:Unit->Shared->Prop} (ho:s.heap.get? it=some o) (hc:o.cls=.type n) (hd:o.data=.fields vs)
  (hn:["enumerate", "zip", "dict_itemiterator", "dict_reverseitemiterator", "odict_iterator", "itertools.zip_longest", "itertools.pairwise"].contains n=false) (hQ:Q () s):wpAny M A (letOwnedTupleGo tg (.ref it) u) Q E s:=by
 unfold letOwnedTupleGo
 cases tg <;> first
  | exact Pf hQ
  | (cases u <;> first
    | exact Pf hQ
    | (refine Pe (wpAny_load ho ?_)
       rw [hc,hd]
       show wpAny M A (if (["enumerate", "zip", "dict_itemiterator", "dict_reverseitemiterator", "odict_iterator", "itertools.zip_longest", "itertools.pairwise"].contains n && vs[0]? == some (rawInt _))=true then _ else _) Q E s
       rw [if_neg (by intro h; rw [hn,Bool.false_and] at h; cases h)]
       exact Pf hQ))
noncomputable def Gw (K:Pd) (a:Addr):It :=
 ⟨fun i H=>∃ xs x,SqL K H a xs/\xs[i]?=some x,fun i H x H'=>H'=H/\∀ xs,SqL K H a xs->xs[i]?=some x,fun i H=>∃ xs,SqL K H a xs/\xs.length<=i⟩
noncomputable def Gc (K:Pd) (a:Addr):It :=
 ⟨fun i H=>∃ xs x,SqT K H a xs/\xs[i]?=some x,fun i H x H'=>H'=H/\∀ xs,SqT K H a xs->xs[i]?=some x,fun i H=>∃ xs,SqT K H a xs/\xs.length<=i⟩
noncomputable def Gz (lo:Int) (n:Nat):It:=⟨fun i _=>i < n,fun i H x H'=>H'=H/\x=.int (lo + i),fun i _=>n<=i⟩
theorem Zig {P:Program} {w:World} {K:Pd} {tg:Expr} (a it:Addr):Gq P w K tg (Gw K a) [it] it (fun i h=>h.IsListIter it a i) where
 mem:=by simp
 obj:=fun i h st b hb=>by
  have e:b=it:=by simpa using hb
  subst e
  obtain ⟨o,e,c,d⟩:=st
  exact ⟨o,e,fun v z=>by rw [d] at z; cases z⟩
 keep:=fun i h h' st k=>st.at fun o e=>k it (by simp) o e
 item:=by
  intro X hP hw hK hc i pins s σ H E I hf st hg
  subst hP hw hK
  obtain ⟨xs,x,hq,hx⟩:=hg
  obtain ⟨its,rv,p,hz⟩:=I.list hq
  obtain ⟨u,hu,ru⟩:=rv.get hx
  obtain ⟨f0,f1,f2,f3,f4,f5⟩:=hf it (by simp)
  refine wpAny_pyNext_list_item st p.isList (x:=u) (by simpa using hu) fun h' st' sb=>?_
  have I1:Inv X pins σ H { s with heap:=h' }:=I.turned (t':=s.toks) (fun b o hb e=>(sb.2 b hb).trans e) f0 f1 f3 f4 f5
  obtain ⟨o,e,c,d⟩:=id st'
  exact ⟨u,rfl,Kz (s:={ s with heap:=h' }) e c d (by decide) ⟨x,H,I1,ru,⟨rfl,fun ys hy=>by rw [I.list_inj hy hq]; exact hx⟩,st',fun b hb=>(hf b hb).1⟩⟩
 done:=by
  intro X hP hw hK hc i pins s σ H E I hf st hg
  subst hP hw hK
  obtain ⟨xs,hq,hx⟩:=hg
  obtain ⟨its,rv,p,hz⟩:=I.list hq
  obtain ⟨f0,f1,f2,f3,f4,f5⟩:=hf it (by simp)
  have hl:=rv.length
  exact wpAny_pyNext_list_end (I.ok.hd hc) st p.isList (by simp; omega) fun h' eb=>⟨rfl,I.turned (t':=s.toks) (fun b o hb e=>eb b o hb e) f0 f1 f3 f4 f5⟩
 self:=fun _ _ _ _ _ st h=>wpAny_pyIter_listiter st h
theorem Zjo {P:Program} {w:World} {K:Pd} {tg:Expr} (a it:Addr):Gq P w K tg (Gc K a) [it] it (fun i h=>h.IsTupleIter it a i) where
 mem:=by simp
 obj:=fun i h st b hb=>by
  have e:b=it:=by simpa using hb
  subst e
  obtain ⟨o,e,c,d⟩:=st
  exact ⟨o,e,fun v z=>by rw [d] at z; cases z⟩
 keep:=fun i h h' st k=>st.at fun o e=>k it (by simp) o e
 item:=by
  intro X hP hw hK hc i pins s σ H E I hf st hg
  subst hP hw hK
  obtain ⟨xs,x,hq,hx⟩:=hg
  obtain ⟨its,rv,p,hz⟩:=I.tuple hq
  obtain ⟨u,hu,ru⟩:=rv.get hx
  obtain ⟨f0,f1,f2,f3,f4,f5⟩:=hf it (by simp)
  refine wpAny_pyNext_tuple_item st (show s.heap.IsTuple a its.toArray from p) (x:=u) (by simpa using hu) fun h' st' sb=>?_
  have I1:Inv X pins σ H { s with heap:=h' }:=I.turned (t':=s.toks) (fun b o hb e=>(sb.2 b hb).trans e) f0 f1 f3 f4 f5
  obtain ⟨o,e,c,d⟩:=id st'
  exact ⟨u,rfl,Kz (s:={ s with heap:=h' }) e c d (by decide) ⟨x,H,I1,ru,⟨rfl,fun ys hy=>by rw [I.tuple_inj hy hq]; exact hx⟩,st',fun b hb=>(hf b hb).1⟩⟩
 done:=by
  intro X hP hw hK hc i pins s σ H E I hf st hg
  subst hP hw hK
  obtain ⟨xs,hq,hx⟩:=hg
  obtain ⟨its,rv,p,hz⟩:=I.tuple hq
  obtain ⟨f0,f1,f2,f3,f4,f5⟩:=hf it (by simp)
  have hl:=rv.length
  exact wpAny_pyNext_tuple_end (I.ok.hd hc) st (show s.heap.IsTuple a its.toArray from p) (by simp; omega) fun h' eb=>⟨rfl,I.turned (t':=s.toks) (fun b o hb e=>eb b o hb e) f0 f1 f3 f4 f5⟩
 self:=fun _ _ _ _ _ st h=>wpAny_pyIter_tupleiter st h
theorem Zmx {P:Program} {w:World} {K:Pd} {tg:Expr} (it:Addr) (lo:Int) (n:Nat):Gq P w K tg (Gz lo n) [it] it (fun i h=>IsRangeIter h it (lo + (i:Nat) * 1) ((n:Int) - (i:Nat)) 1) where
 mem:=by simp
 obj:=fun i h st b hb=>by
  have e:b=it:=by simpa using hb
  subst e
  exact ⟨_,st,fun v z=>by
   have z':Data.fields _=Data.cell v:=z
   cases z'⟩
 keep:=fun i h h' st k=>k it (by simp) _ st
 item:=by
  intro X hP hw hK hc i pins s σ H E I hf st hg
  subst hP hw hK
  obtain ⟨f0,f1,f2,f3,f4,f5⟩:=hf it (by simp)
  have W:=Walks.range (prog:=X.prog) (w:=X.w) (I.ok.hd hc) it lo 1 n
  refine W.item i s _ _ hg st fun v h' tk hv st' kk=>?_
  obtain ⟨t,rfl⟩:=hv
  have I1:Inv X pins σ H { s with heap:=h',toks:=tk }:=I.turned (fun b o hb e=>kk b o (by simpa using hb) e) f0 f1 f3 f4 f5
  refine ⟨_,rfl,Kz (s:={ s with heap:=h',toks:=tk }) (n := "range_iterator") st' rfl rfl (by decide) ⟨.int (lo + i),H,I1,⟨t,?_⟩,⟨rfl,rfl⟩,st',fun b hb=>(hf b hb).1⟩⟩
  rw [Int.mul_one]
 done:=by
  intro X hP hw hK hc i pins s σ H E I hf st hg
  subst hP hw hK
  obtain ⟨f0,f1,f2,f3,f4,f5⟩:=hf it (by simp)
  exact wpAny_pyNext_range_end (I.ok.hd hc) st (by have:n<=i:=hg; omega) fun h' eb=>⟨rfl,I.turned (t':=s.toks) (fun b o hb e=>eb b o hb e) f0 f1 f3 f4 f5⟩
 self:=fun _ _ _ _ _ st h=>wpAny_pyIter_rangeiter st h
end L2
namespace L2
open PySem PySem.Spec PyProof.Rows
section
variable {X:Cx} {tg:Expr}
theorem Znl {pins:List (Addr×Obj)} {σ:St} {H:Hp} {s:Shared} {R:It->Hp->Prop} {E:Value->Shared->Prop} {lo hi:Int} {t u v:Tok} {tk:Nat} (I:Inv X pins σ H s) (h1:-(2 ^ 62)<=lo) (h2:lo < 2 ^ 62) (h3:-(2 ^ 62)<=hi) (h4:hi < 2 ^ 62)
  (q:R (Gz lo (hi - lo).toNat) H):wpAny (model X.prog X.w) X.A (pyIter (.ref s.heap.objs.size)) (PIE X pins σ tg R) E { s with heap:=s.heap.push { cls:=.type "range",data:=.fields #[.int lo t,.int hi u,.int 1 v] },toks:=tk }:=by
 refine wpAny_pyIter_range (IsRange.new ..) (small_one h1 h2 h3 h4) ?_
 have I1:Inv X pins σ H { s with heap:=s.heap.push { cls:=.type "range",data:=.fields #[.int lo t,.int hi u,.int 1 v] },toks:=tk }:=I.kept fun b o e=>Pj _ e
 refine ⟨(s.heap.push { cls:=.type "range",data:=.fields #[.int lo t,.int hi u,.int 1 v] }).objs.size,[(s.heap.push { cls:=.type "range",data:=.fields #[.int lo t,.int hi u,.int 1 v] }).objs.size],_,_,H,rfl,
  I1.kept (t':=tk) fun b o e=>Pj _ e,Zmx _ lo (hi - lo).toNat,?_,fun b hb=>?_,q⟩
 ·have e1:lo + ((0:Nat):Int) * 1=lo:=by simp
  have e2:(((hi - lo).toNat:Nat):Int) - ((0:Nat):Int)=Builtin.Range.rangeSize lo hi 1:=by rw [rangeSize_one]; split <;> omega
  show IsRangeIter _ _ (lo + ((0:Nat):Int) * 1) ((((hi - lo).toNat:Nat):Int) - ((0:Nat):Int)) 1
  rw [e1,e2]
  exact Py _ rfl
 ·have e:b=(s.heap.push { cls:=.type "range",data:=.fields #[.int lo t,.int hi u,.int 1 v] }).objs.size:=by simpa using hb
  subst e
  exact I1.fpOk (Ph _) (I1.hok.fresh (Ph _))
noncomputable def Za3 (ta:TA):TI:=fun σ H R=>ta σ H fun vs H1=>∃ j:Int,vs=[.int j]/\-(2 ^ 62)<=j/\j < 2 ^ 62/\R (Gz 0 j.toNat) H1
theorem Zpj {a:Expr} {ta:TA} {p pos:Pos} (hg:Gl X "range") (hm:X.mg "range" = none) (ha:PA X [a] ta) (hs:starEach [a] X.env=[(false,eval a X.env)]:=by rfl):PI X tg (.Call (.Name "range" p) [a] [] pos) (Za3 ta):=by
 intro pins s σ H R I h
 refine Call_ (Fc I hg hm boot_range (Rw (Am (ha pos pins s σ H _ I h) fun us s1 zq=>?_) hs rfl))
 obtain ⟨vs,H1,I1,r1,q1⟩:=zq
 obtain ⟨j,e,q1,q2,q⟩:=q1
 subst e
 cases r1 with
 | cons r rr =>
  cases rr
  obtain ⟨t,rfl⟩:=r
  exact call_range_1 (Znl I1 (by omega) (by omega) q1 q2 (by simpa using q))
noncomputable def Zag (wi:TI) (g:TG) (tb:TS):TS:=fun D σ H=>wi σ H fun J H1=>∃ W:Nat->Nat->St->Hp->Prop,(∃ m,W 0 m σ H1)/\∀ i m σ H,W i m σ H ->
 (J.stop i H/\D.nx σ H)\/(J.go i H/\∃ N:St->Hp->Prop,(∀ σ' H',N σ' H'->∃ m',m' < m/\W (i + 1) m' σ' H')/\∀ x H',J.yld i H x H'->g x σ H' fun σ2 H2=>tb { D with nx:=N,ct:=N,bk:=D.nx } σ2 H2)
noncomputable def Io (fp:List Addr) (h:Heap):List (Addr×Obj):=fp.filterMap fun b=>(h.get? b).map fun o=>(b,o)
theorem Mv {fp:List Addr} {h:Heap} {b:Addr} {o:Obj} (hb:b∈fp) (e:h.get? b=some o):(b,o)∈Io fp h:=List.mem_filterMap.mpr ⟨b,hb,by rw [e]; rfl⟩
theorem Zhw {fp:List Addr} {h:Heap} {p:Addr×Obj} (hp:p∈Io fp h):p.1∈fp/\h.get? p.1=some p.2:=by
 obtain ⟨b,hb,e⟩:=List.mem_filterMap.mp hp
 cases q:h.get? b with
 | none=>rw [q] at e; cases e
 | some o =>
  rw [q] at e
  have e':(b,o)=p:=Qi e
  subst e'
  exact ⟨hb,q⟩
theorem Inv.pinned {pins:List (Addr×Obj)} {σ:St} {H:Hp} {s:Shared} {fp:List Addr} (I:Inv X pins σ H s) (hf:∀ b∈fp,FpOk X pins H b) (ho:∀ b∈fp,∃ o,s.heap.get? b=some o/\∀ v,o.data≠.cell v):Inv X (pins++Io fp s.heap) σ H s :=
 I.pins_of fun p hp=>(Rl.mp hp).elim (fun z=>I.pin p (Q5 _ z)) fun z=>by
  obtain ⟨hb,e⟩:=Zhw z
  obtain ⟨f0,f1,f2,_⟩:=hf p.1 hb
  obtain ⟨o,e',d⟩:=ho p.1 hb
  rw [e] at e'; cases e'
  exact ⟨e,f0,f1,f2,d⟩
theorem Inv.unpinned {pins pl:List (Addr×Obj)} {σ:St} {H:Hp} {s:Shared} (I:Inv X (pins++pl) σ H s):Inv X pins σ H s:=I.pins_of fun p hp=>I.pin p (Q5 _ (List.mem_append_left _ hp))
theorem Zh6 {iter:Expr} {body:List Stmt} {wi:TI} {g:TG} {tb:TS} {pos:Pos} (hp:PassesOwn (model X.prog X.w) X.A X.env X.xe) (hc:X.calm=true) (hi:PI X tg iter wi) (hg:PG X tg g) (hb:PSs X body tb)
  (hs:∀ x,foldedSetIterable iter X.env x=pure x:=by intro _; rfl):PS X (.For tg iter body [] pos) (Zag wi g tb):=by
 intro pins s σ H D I h
 refine wpAny_For (Am (hi pins s σ H _ I h) fun v s1 h1=>Am h1 fun itv s2 h2=>?_) hs
 obtain ⟨it,fp,tn,J,H2,e,I2,T,st2,f2,W,⟨m0,w0⟩,turn⟩:=h2
 subst e
 have stat:∀ {H':Hp},(∀ b∈fp,H' b=none)->∀ b∈fp,FpOk X pins H' b:=fun hn b hb=>⟨hn b hb,(f2 b hb).2⟩
 refine codeAny_forLoop_any (fun n s'=>∃ i σ' H',Inv X pins σ' H' s'/\tn i s'.heap/\(∀ b∈fp,H' b=none)/\W i n σ' H') ?_ m0 ⟨0,σ,H2,I2,st2,fun b hb=>(f2 b hb).1,w0⟩
 rintro n s3 ⟨i,σ3,H3,I3,st3,fr3,w3⟩
 rcases turn i n σ3 H3 w3 with ⟨stop,qn⟩ | ⟨go,N,hN,step⟩
 ·refine R5 hp (Am (T.done X rfl rfl rfl hc i pins s3 σ3 H3 X.xe I3 (stat fr3) st3 stop) fun r s4 zq=>?_)
  obtain ⟨hr,I4⟩:=zq
  subst hr
  exact So ⟨σ3,H3,I4,qn⟩
 ·refine R5 hp (Am (T.item X rfl rfl rfl hc i pins s3 σ3 H3 X.xe I3 (stat fr3) st3 go) fun r s4 zq=>?_)
  obtain ⟨u,hr,h4⟩:=zq
  subst hr
  refine R5 hp (Am h4 fun _ s5 zq=>?_)
  obtain ⟨x,H5,I5,r5,y5,st5,fr5⟩:=zq
  have I5':=I5.pinned (stat fr5) (T.obj _ _ st5)
  refine R5 hp (Am (hg _ s5 σ3 H5 x u _ I5' r5 (step x H5 y5)) fun _ s6 zq=>?_)
  obtain ⟨σ6,H6,I6,q6⟩:=zq
  refine R5 hp (Am (hb _ s6 σ6 H6 _ I6 q6) fun f s7 q7=>?_)
  have again:∀ {σ7:St} {H7:Hp},Inv X (pins++Io fp s5.heap) σ7 H7 s7->N σ7 H7->∃ m,m < n/\∃ i σ' H',Inv X pins σ' H' s7/\tn i s7.heap/\(∀ b∈fp,H' b=none)/\W i m σ' H':=fun {σ7 H7} I7 n7=>by
   obtain ⟨m',hm,w7⟩:=hN σ7 H7 n7
   refine ⟨m',hm,i + 1,σ7,H7,I7.unpinned,T.keep _ _ _ st5 fun b hb o e=>(I7.pin (b,o) (Q5 _ (Q5 _ (Mv hb e)))).1,fun b hb=>?_,w7⟩
   obtain ⟨o,e,d⟩:=T.obj _ _ st5 b hb
   exact (I7.pin (b,o) (Q5 _ (Q5 _ (Mv hb e)))).2.1
  cases f with
  | next=>obtain ⟨σ7,H7,I7,n7⟩:=q7; exact again I7 n7
  | cont=>obtain ⟨σ7,H7,I7,n7⟩:=q7; exact again I7 n7
  | brk=>obtain ⟨σ7,H7,I7,q7⟩:=q7; exact ⟨σ7,H7,I7.unpinned,q7⟩
  | ret v=>obtain ⟨x7,σ7,H7,I7,r7,q7⟩:=q7; exact ⟨x7,σ7,H7,I7.unpinned,r7,q7⟩
end
theorem O2 {K:Pd} {a:Addr} {xs:List V} {g:TG} {tb:TS} {D:C7} {σ:St} {H:Hp} (Pv:Nat->St->Hp->Prop) (h0:Pv 0 σ H) (hl:∀ i σ H,i<=xs.length->Pv i σ H->SqL K H a xs)
  (hs:∀ i x σ H,xs[i]?=some x->Pv i σ H->g x σ H fun σ2 H2=>tb { D with nx:=Pv (i + 1),ct:=Pv (i + 1),bk:=D.nx } σ2 H2) (hd:∀ σ H,Pv xs.length σ H->D.nx σ H) :
  ∃ W:Nat->Nat->St->Hp->Prop,(∃ m,W 0 m σ H)/\∀ i m σ H,W i m σ H ->
   ((Gw K a).stop i H/\D.nx σ H)\/((Gw K a).go i H/\∃ N:St->Hp->Prop,(∀ σ' H',N σ' H'->∃ m',m' < m/\W (i + 1) m' σ' H')/\∀ x H',(Gw K a).yld i H x H'->g x σ H' fun σ2 H2=>tb { D with nx:=N,ct:=N,bk:=D.nx } σ2 H2):=by
 refine ⟨fun i m σ H=>m=xs.length - i/\i<=xs.length/\Pv i σ H,⟨xs.length,by simp,Pn _,h0⟩,?_⟩
 rintro i m σ H ⟨rfl,hi,p⟩
 have q:=hl i σ H hi p
 by_cases hlt:i < xs.length
 ·refine .inr ⟨⟨xs,xs[i],q,by simp [hlt]⟩,Pv (i + 1),fun σ' H' p'=>⟨xs.length - (i + 1),by omega,rfl,hlt,p'⟩,fun x H' y=>?_⟩
  obtain ⟨e,y⟩:=y
  subst e
  exact hs i x σ _ (y xs q) p
 ·have e:i=xs.length:=by omega
  subst e
  exact .inl ⟨⟨xs,q,Ph _⟩,hd σ H p⟩
theorem Zrq {K:Pd} {a:Addr} {xs:List V} {g:TG} {tb:TS} {D:C7} {σ:St} {H:Hp} (Pv:Nat->St->Hp->Prop) (h0:Pv 0 σ H) (hl:∀ i σ H,i<=xs.length->Pv i σ H->SqT K H a xs)
  (hs:∀ i x σ H,xs[i]?=some x->Pv i σ H->g x σ H fun σ2 H2=>tb { D with nx:=Pv (i + 1),ct:=Pv (i + 1),bk:=D.nx } σ2 H2) (hd:∀ σ H,Pv xs.length σ H->D.nx σ H) :
  ∃ W:Nat->Nat->St->Hp->Prop,(∃ m,W 0 m σ H)/\∀ i m σ H,W i m σ H ->
   ((Gc K a).stop i H/\D.nx σ H)\/((Gc K a).go i H/\∃ N:St->Hp->Prop,(∀ σ' H',N σ' H'->∃ m',m' < m/\W (i + 1) m' σ' H')/\∀ x H',(Gc K a).yld i H x H'->g x σ H' fun σ2 H2=>tb { D with nx:=N,ct:=N,bk:=D.nx } σ2 H2):=by
 refine ⟨fun i m σ H=>m=xs.length - i/\i<=xs.length/\Pv i σ H,⟨xs.length,by simp,Pn _,h0⟩,?_⟩
 rintro i m σ H ⟨rfl,hi,p⟩
 have q:=hl i σ H hi p
 by_cases hlt:i < xs.length
 ·refine .inr ⟨⟨xs,xs[i],q,by simp [hlt]⟩,Pv (i + 1),fun σ' H' p'=>⟨xs.length - (i + 1),by omega,rfl,hlt,p'⟩,fun x H' y=>?_⟩
  obtain ⟨e,y⟩:=y
  subst e
  exact hs i x σ _ (y xs q) p
 ·have e:i=xs.length:=by omega
  subst e
  exact .inl ⟨⟨xs,q,Ph _⟩,hd σ H p⟩
theorem Kw {lo:Int} {n:Nat} {g:TG} {tb:TS} {D:C7} {σ:St} {H:Hp} (Pv:Nat->St->Hp->Prop) (h0:Pv 0 σ H)
  (hs:∀ i σ H,i < n->Pv i σ H->g (.int (lo + i)) σ H fun σ2 H2=>tb { D with nx:=Pv (i + 1),ct:=Pv (i + 1),bk:=D.nx } σ2 H2) (hd:∀ σ H,Pv n σ H->D.nx σ H) :
  ∃ W:Nat->Nat->St->Hp->Prop,(∃ m,W 0 m σ H)/\∀ i m σ H,W i m σ H ->
   ((Gz lo n).stop i H/\D.nx σ H)\/((Gz lo n).go i H/\∃ N:St->Hp->Prop,(∀ σ' H',N σ' H'->∃ m',m' < m/\W (i + 1) m' σ' H')/\∀ x H',(Gz lo n).yld i H x H'->g x σ H' fun σ2 H2=>tb { D with nx:=N,ct:=N,bk:=D.nx } σ2 H2):=by
 refine ⟨fun i m σ H=>m=n - i/\i<=n/\Pv i σ H,⟨n,by simp,Pn _,h0⟩,?_⟩
 rintro i m σ H ⟨rfl,hi,p⟩
 by_cases hlt:i < n
 ·refine .inr ⟨hlt,Pv (i + 1),fun σ' H' p'=>⟨n - (i + 1),by omega,rfl,hlt,p'⟩,fun x H' y=>?_⟩
  obtain ⟨e,y⟩:=y
  subst e y
  exact hs i σ _ hlt p
 ·have e:i=n:=by omega
  subst e
  exact .inl ⟨Ph _,hd σ H p⟩
end L2
namespace L2
open PySem PySem.Spec PyProof.Rows
noncomputable abbrev R2:=V->V->Hp->VK->Prop
noncomputable def OpR (X:Cx) (f:Value->Value->Sem Value) (r:R2):Prop :=
 ∀ (pins:List (Addr×Obj)) (s:Shared) (σ:St) (H:Hp) (x y:V) (v u:Value) (Q:VK),Inv X pins σ H s->RelV x v->RelV y u->r x y H Q ->
  wpAny (model X.prog X.w) X.A (f v u) (EP X pins σ Q) X.xe s
noncomputable def UnR (X:Cx) (f:Value->Sem Value) (r:V->Hp->VK->Prop):Prop :=
 ∀ (pins:List (Addr×Obj)) (s:Shared) (σ:St) (H:Hp) (x:V) (v:Value) (Q:VK),Inv X pins σ H s->RelV x v->r x H Q ->
  wpAny (model X.prog X.w) X.A (f v) (EP X pins σ Q) X.xe s
noncomputable def Cv (X:Cx) (f:Value) (r:List V->Hp->VK->Prop):Prop :=
 ∀ (pins:List (Addr×Obj)) (s:Shared) (σ:St) (H:Hp) (xs:List V) (us:List Value) (Q:VK),Inv X pins σ H s->Vals xs us->r xs H Q ->
  wpAny (model X.prog X.w) X.A (call f us) (EP X pins σ Q) X.xe s
noncomputable def TruR (X:Cx) (r:V->Hp->(Bool->Hp->Prop)->Prop):Prop :=
 ∀ (pins:List (Addr×Obj)) (s:Shared) (σ:St) (H:Hp) (x:V) (v:Value) (Q:Bool->Hp->Prop),Inv X pins σ H s->RelV x v->r x H Q ->
  wpAny (model X.prog X.w) X.A (truthy v) (TP X pins σ Q) X.xe s
noncomputable def Ev (r:R2) (ta tb:TE):TE:=fun σ H Q=>ta σ H fun x H1=>tb σ H1 fun y H2=>r x y H2 Q
noncomputable def tUn (r:V->Hp->VK->Prop) (ta:TE):TE:=fun σ H Q=>ta σ H fun x H1=>r x H1 Q
noncomputable def rI (C:Int->Int->Prop) (g:Int->Int->V):R2:=fun x y H Q=>∃ i j,x=.int i/\y=.int j/\C i j/\Q (g i j) H
noncomputable def Ee (g:Int->Int->V):R2:=fun x y H Q=>∃ i j,x=.int i/\y=.int j/\Q (g i j) H
noncomputable def rU (g:Int->V):V->Hp->VK->Prop:=fun x H Q=>∃ i,x=.int i/\Q (g i) H
section
variable {X:Cx} {a b c:Expr} {ta tb tc:TE} {pos:Pos}
theorem Zaj (ha:PE X a ta) (hb:PE X b tb) {pins:List (Addr×Obj)} {s:Shared} {σ:St} {H:Hp} {R:V->V->Hp->Prop} (I:Inv X pins σ H s)
  (h:ta σ H fun x H1=>tb σ H1 fun y H2=>R x y H2) {Q:Value->Shared->Prop} {f:Value->Value->Sem Value}
  (hf:∀ v u s2 x y H2,Inv X pins σ H2 s2->RelV x v->RelV y u->R x y H2->wpAny (model X.prog X.w) X.A (f v u) Q X.xe s2) :
  wpAny (model X.prog X.w) X.A (eval a X.env) (fun v s₁=>wpAny (model X.prog X.w) X.A (eval b X.env) (fun u s₂=>wpAny (model X.prog X.w) X.A (f v u) Q X.xe s₂) X.xe s₁) X.xe s:=by
 refine Am (ha pins s σ H _ I h) fun v s1 zq=>?_
 obtain ⟨x,H1,I1,r1,q1⟩:=zq
 refine Am (hb pins s1 σ H1 _ I1 q1) fun u s2 zq=>?_
 obtain ⟨y,H2,I2,r2,q2⟩:=zq
 exact hf v u s2 x y H2 I2 r1 r2 q2
theorem Zno {op:Operator} {r:R2} (ho:OpR X (binaryOp op) r) (ha:PE X a ta) (hb:PE X b tb):PE X (.BinOp a op b pos) (Ev r ta tb):=by
 intro pins s σ H Q I h
 exact wpAny_BinOp (Zaj ha hb I h fun v u s2 x y H2 I2 rx ry q=>ho pins s2 σ H2 x y v u Q I2 rx ry q)
theorem Zgm {op:UnaryOp} {r:V->Hp->VK->Prop} (ho:UnR X (unaryOp op) r) (ha:PE X a ta):PE X (.UnaryOp op a pos) (tUn r ta):=by
 intro pins s σ H Q I h
 exact UnaryOp_ (Am (ha pins s σ H _ I h) fun v s1 ⟨x,H1,I1,r1,q1⟩=>ho pins s1 σ H1 x v Q I1 r1 q1)
theorem opI {f:Value->Value->Sem Value} {C:Int->Int->Prop} {g:Int->Int->Int}
  (rule:∀ (i j:Int) (t u:Tok) (s:Shared) (Q:Value->Shared->Prop) (E:Value->Shared->Prop),C i j->Q (.int (g i j) s.toks) { s with toks:=s.toks + 1 }->wpAny (model X.prog X.w) X.A (f (.int i t) (.int j u)) Q E s) :
  OpR X f (rI C fun i j=>.int (g i j)):=by
 intro pins s σ H x y v u Q I rx ry h
 obtain ⟨i,j,rfl,rfl,hc,q⟩:=h
 obtain ⟨t,rfl⟩:=rx
 obtain ⟨t',rfl⟩:=ry
 exact rule i j t t' s _ _ hc ⟨.int (g i j),H,I.tok _,⟨_,rfl⟩,q⟩
theorem opI0 {f:Value->Value->Sem Value} {g:Int->Int->Int}
  (rule:∀ (i j:Int) (t u:Tok) (s:Shared) (Q:Value->Shared->Prop) (E:Value->Shared->Prop),Q (.int (g i j) s.toks) { s with toks:=s.toks + 1 }->wpAny (model X.prog X.w) X.A (f (.int i t) (.int j u)) Q E s) :
  OpR X f (Ee fun i j=>.int (g i j)):=by
 intro pins s σ H x y v u Q I rx ry h
 obtain ⟨i,j,rfl,rfl,q⟩:=h
 obtain ⟨t,rfl⟩:=rx
 obtain ⟨t',rfl⟩:=ry
 exact rule i j t t' s _ _ ⟨.int (g i j),H,I.tok _,⟨_,rfl⟩,q⟩
theorem O8 {f:Value->Value->Sem Value} {g:Int->Int->Bool}
  (rule:∀ (i j:Int) (t u:Tok) (s:Shared) (Q:Value->Shared->Prop) (E:Value->Shared->Prop),Q (.bool (g i j)) s->wpAny (model X.prog X.w) X.A (f (.int i t) (.int j u)) Q E s) :
  OpR X f (Ee fun i j=>.bl (g i j)):=by
 intro pins s σ H x y v u Q I rx ry h
 obtain ⟨i,j,rfl,rfl,q⟩:=h
 obtain ⟨t,rfl⟩:=rx
 obtain ⟨t',rfl⟩:=ry
 exact rule i j t t' s _ _ ⟨.bl (g i j),H,I,rfl,q⟩
noncomputable def CDiv (i j:Int):Prop:=0 < j/\j < 1073741824
noncomputable def CPow (i j:Int):Prop:=0<=j/\j<=1000000/\i.natAbs < 2 ^ 64
noncomputable def CMul (i j:Int):Prop:=(-(2 ^ 64) < i/\i < 2 ^ 64)\/(-(2 ^ 64) < j/\j < 2 ^ 64)
theorem CMul.ok {i j:Int} (h:CMul i j):IntMulOk i j:=by
 rcases h with ⟨h1,h2⟩ | ⟨h1,h2⟩
 ·exact .of_left (intBits_le_64 h1 h2)
 ·exact .of_right (intBits_le_64 h1 h2)
theorem op_add:OpR X (binaryOp .Add) (Ee fun i j=>.int (i + j)):=opI0 fun _ _ _ _ _ _ _ q=>add_int q
theorem D8:OpR X (binaryOp .Sub) (Ee fun i j=>.int (i - j)):=opI0 fun _ _ _ _ _ _ _ q=>sub_int q
theorem op_mul:OpR X (binaryOp .Mult) (rI CMul fun i j=>.int (i * j)):=opI fun _ _ _ _ _ _ _ hc q=>mul_int q hc.ok
theorem C8:OpR X (binaryOp .FloorDiv) (rI CDiv fun i j=>.int (i / j)):=opI fun i j _ _ _ _ _ hc q=>by
 have h1:(0:Int) < j:=hc.1
 have h2:j < 1073741824:=hc.2
 exact floordiv_int (by omega) (by rw [Int.fdiv_eq_ediv_of_nonneg i (by omega)]; exact q) (.inl (PyProof.noPylong_small (by omega)))
theorem Bq:OpR X (binaryOp .Mod) (rI (fun _ j=>0 < j) fun i j=>.int (i % j)):=opI fun i j _ _ _ _ _ hc q=>by
 have h1:(0:Int) < j:=hc
 exact mod_int' (by omega) (by rw [Int.fmod_eq_emod_of_nonneg i (by omega)]; exact q)
theorem Nc:OpR X (binaryOp .Pow) (rI CPow fun i j=>.int (i ^ j.toNat)):=opI fun _ _ _ _ _ _ _ hc q=>pow_int_small hc.1 hc.2.1 hc.2.2 q
theorem unI {f:Value->Sem Value} {g:Int->Int}
  (rule:∀ (i:Int) (t:Tok) (s:Shared) (Q:Value->Shared->Prop) (E:Value->Shared->Prop),Q (.int (g i) s.toks) { s with toks:=s.toks + 1 }->wpAny (model X.prog X.w) X.A (f (.int i t)) Q E s) :
  UnR X f (rU fun i=>.int (g i)):=by
 intro pins s σ H x v Q I rx h
 obtain ⟨i,rfl,q⟩:=h
 obtain ⟨t,rfl⟩:=rx
 exact rule i t s _ _ ⟨.int (g i),H,I.tok _,⟨_,rfl⟩,q⟩
theorem Jz:UnR X (unaryOp .USub) (rU fun i=>.int (-i)):=unI fun _ _ _ _ _ q=>neg_int q
end
noncomputable def Kp:V->V->Bool
 | .non,.non=>true | .non,.int _=>true | .int _,.non=>true | .non,.bl _=>true | .bl _,.non=>true | .non,.str _=>true | .str _,.non=>true
 | .int _,.int _=>true | .bl _,.bl _=>true | .str _,.str _=>true | .byt _,.byt _=>true
 | .int _,.str _=>true | .str _,.int _=>true | .bl _,.str _=>true | .str _,.bl _=>true
 | _,_=>false
noncomputable def rEq:R2:=fun x y H Q=>Kp x y=true/\Q (.bl (decide (x=y))) H
noncomputable def rNe:R2:=fun x y H Q=>Kp x y=true/\Q (.bl (!decide (x=y))) H
theorem Zed {i j:Int}:decide (V.int i=V.int j)=(i == j):=by
 rw [Tt]
 simp
theorem Zb1 {i j:Bool}:decide (V.bl i=V.bl j)=(i == j):=by
 rw [Tt]
 simp
theorem A8 {i j:Str}:decide (V.str i=V.str j)=(i == j):=by
 rw [Tt]
 simp
theorem Zft {i j:Array UInt8}:decide (V.byt i=V.byt j)=(i.toList == j.toList):=by
 rw [Tt]
 cases i
 cases j
 simp
section
variable {X:Cx} {a b c:Expr} {ta tb tc:TE} {pos:Pos}
theorem Bo {pins:List (Addr×Obj)} {σ:St} {H:Hp} {s:Shared} {Q:VK} {k k':Bool} (I:Inv X pins σ H s) (q:Q (.bl k) H) (e:k=k'):EP X pins σ Q (.bool k') s:=by
 subst e
 exact ⟨.bl k,H,I,rfl,q⟩
theorem op_eq:OpR X (compareOp .Eq) rEq:=by
 intro pins s σ H x y v u Q I rx ry h
 obtain ⟨hs,q⟩:=h
 cases x with
 | non =>
  cases rx
  cases y with
  | non=>cases ry; exact PySem.EqNone.eq_none_none (Bo I q (by simp))
  | bl j=>cases ry; exact PySem.EqNone.eq_none_bool (Bo I q (by simp))
  | int j=>obtain ⟨t',rfl⟩:=ry; exact PySem.EqNone.eq_none_int (Bo I q (by simp))
  | str j=>obtain ⟨t',rfl⟩:=ry; exact PySem.EqNone.eq_none_str (Bo I q (by simp))
  | _=>exact absurd (show false=true from hs) Po
 | bl i =>
  cases rx
  cases y with
  | non=>cases ry; exact PySem.EqNone.eq_bool_none (Bo I q (by simp))
  | bl j=>cases ry; exact eq_bool (Bo I q Zb1)
  | str j=>obtain ⟨t',rfl⟩:=ry; exact PySem.EqMixed.eq_bool_str (Bo I q (by simp))
  | _=>exact absurd (show false=true from hs) Po
 | int i =>
  obtain ⟨t,rfl⟩:=rx
  cases y with
  | non=>cases ry; exact PySem.EqNone.eq_int_none (Bo I q (by simp))
  | int j=>obtain ⟨t',rfl⟩:=ry; exact eq_int (Bo I q Zed)
  | str j=>obtain ⟨t',rfl⟩:=ry; exact PySem.EqMixed.eq_int_str (Bo I q (by simp))
  | _=>exact absurd (show false=true from hs) Po
 | str i =>
  obtain ⟨t,rfl⟩:=rx
  cases y with
  | non=>cases ry; exact PySem.EqNone.eq_str_none (Bo I q (by simp))
  | bl j=>cases ry; exact PySem.EqMixed.eq_str_bool (Bo I q (by simp))
  | int j=>obtain ⟨t',rfl⟩:=ry; exact PySem.EqMixed.eq_str_int (Bo I q (by simp))
  | str j=>obtain ⟨t',rfl⟩:=ry; exact eq_str (Bo I q A8)
  | _=>exact absurd (show false=true from hs) Po
 | byt i =>
  obtain ⟨t,rfl⟩:=rx
  cases y with
  | byt j=>obtain ⟨t',rfl⟩:=ry; exact PySem.W.eq_bytes (Bo I q Zft)
  | _=>exact absurd (show false=true from hs) Po
 | _=>cases y <;> exact absurd (show false=true from hs) Po
theorem op_ne:OpR X (compareOp .NotEq) rNe:=by
 intro pins s σ H x y v u Q I rx ry h
 obtain ⟨hs,q⟩:=h
 cases x with
 | non =>
  cases rx
  cases y with
  | non=>cases ry; exact PySem.EqNone.ne_none_none (Bo I q (by simp))
  | bl j=>cases ry; exact PySem.EqNone.ne_none_bool (Bo I q (by simp))
  | int j=>obtain ⟨t',rfl⟩:=ry; exact PySem.EqNone.ne_none_int (Bo I q (by simp))
  | str j=>obtain ⟨t',rfl⟩:=ry; exact PySem.EqNone.ne_none_str (Bo I q (by simp))
  | _=>exact absurd (show false=true from hs) Po
 | bl i =>
  cases rx
  cases y with
  | non=>cases ry; exact PySem.EqNone.ne_bool_none (Bo I q (by simp))
  | bl j=>cases ry; exact ne_bool (Bo I q (congrArg not Zb1))
  | str j=>obtain ⟨t',rfl⟩:=ry; exact PySem.EqMixed.ne_bool_str (Bo I q (by simp))
  | _=>exact absurd (show false=true from hs) Po
 | int i =>
  obtain ⟨t,rfl⟩:=rx
  cases y with
  | non=>cases ry; exact PySem.EqNone.ne_int_none (Bo I q (by simp))
  | int j=>obtain ⟨t',rfl⟩:=ry; exact ne_int (Bo I q (congrArg not Zed))
  | str j=>obtain ⟨t',rfl⟩:=ry; exact PySem.EqMixed.ne_int_str (Bo I q (by simp))
  | _=>exact absurd (show false=true from hs) Po
 | str i =>
  obtain ⟨t,rfl⟩:=rx
  cases y with
  | non=>cases ry; exact PySem.EqNone.ne_str_none (Bo I q (by simp))
  | bl j=>cases ry; exact PySem.EqMixed.ne_str_bool (Bo I q (by simp))
  | int j=>obtain ⟨t',rfl⟩:=ry; exact PySem.EqMixed.ne_str_int (Bo I q (by simp))
  | str j=>obtain ⟨t',rfl⟩:=ry; exact ne_str (Bo I q (congrArg not A8))
  | _=>exact absurd (show false=true from hs) Po
 | byt i =>
  obtain ⟨t,rfl⟩:=rx
  cases y with
  | byt j=>obtain ⟨t',rfl⟩:=ry; exact PySem.W.ne_bytes (Bo I q (congrArg not Zft))
  | _=>exact absurd (show false=true from hs) Po
 | _=>cases y <;> exact absurd (show false=true from hs) Po
theorem op_lt:OpR X (compareOp .Lt) (Ee fun i j=>.bl (decide (i < j))):=O8 fun _ _ _ _ _ _ _ q=>lt_int q
theorem op_le:OpR X (compareOp .LtE) (Ee fun i j=>.bl (decide (i<=j))):=O8 fun _ _ _ _ _ _ _ q=>le_int q
theorem Jy:OpR X (compareOp .Gt) (Ee fun i j=>.bl (decide (j < i))):=O8 fun _ _ _ _ _ _ _ q=>gt_int q
theorem Zmq:OpR X (compareOp .Lt) (fun x y H Q=>∃ i j,x=.str i/\y=.str j/\Q (.bl (decide (i.cps.toList < j.cps.toList))) H):=by
 intro pins s σ H x y v u Q I rx ry h
 obtain ⟨i,j,rfl,rfl,q⟩:=h
 obtain ⟨t,rfl⟩:=rx
 obtain ⟨t',rfl⟩:=ry
 exact lt_str (Bo I q rfl)
theorem Zhy:OpR X (compareOp .In) (fun x y H Q=>∃ i j,x=.str i/\y=.str j/\Q (.bl (!(Builtin.Str.occurrences j i 0 j.length 1).isEmpty)) H):=by
 intro pins s σ H x y v u Q I rx ry h
 obtain ⟨i,j,rfl,rfl,q⟩:=h
 obtain ⟨t,rfl⟩:=rx
 obtain ⟨t',rfl⟩:=ry
 exact in_str (Bo I q rfl)
theorem OpR.or {f:Value->Value->Sem Value} {r r':R2} (h:OpR X f r) (h':OpR X f r'):OpR X f (fun x y H Q=>r x y H Q\/r' x y H Q):=by
 intro pins s σ H x y v u Q I rx ry q
 rcases q with q | q
 ·exact h pins s σ H x y v u Q I rx ry q
 ·exact h' pins s σ H x y v u Q I rx ry q
theorem Aw (b:Expr) {op:CmpOp} (h:op≠.In:=by decide) (h2:op≠.NotIn:=by decide):behindInMarks op b=false:=by
 have e1:(op == CmpOp.In)=false:=by cases op <;> first | rfl | exact absurd rfl h
 have e2:(op == CmpOp.NotIn)=false:=by cases op <;> first | rfl | exact absurd rfl h2
 cases b <;> simp [behindInMarks,e1,e2]
theorem Zp9 {op:CmpOp} {r:R2} (ho:OpR X (compareOp op) r) (ha:PE X a ta) (hb:PE X b tb) (hm:behindInMarks op b=false):PE X (.Compare a [op] [b] pos) (Ev r ta tb):=by
 intro pins s σ H Q I h
 exact wpAny_Compare1 (Zaj ha hb I h fun v u s2 x y H2 I2 rx ry q=>ho pins s2 σ H2 x y v u Q I2 rx ry q) hm
noncomputable def Ow (t:TE):TT:=fun σ H Q=>t σ H fun x H'=>∃ k,x=.bl k/\Q k H'
theorem Zpm {op:CmpOp} {r:R2} (ho:OpR X (compareOp op) r) (ha:PE X a ta) (hb:PE X b tb) (hm:behindInMarks op b=false):PT X (.Compare a [op] [b] pos) (Ow (Ev r ta tb)):=by
 intro pins s σ H Q I h
 refine wpAny_isTrue_Compare1 (Am (ha pins s σ H _ I h) fun v s1 ⟨x,H1,I1,r1,q1⟩=>Am (hb pins s1 σ H1 _ I1 q1) fun u s2 ⟨y,H2,I2,r2,q2⟩ =>
  Am (ho pins s2 σ H2 x y v u _ I2 r1 r2 q2) fun c s3 ⟨z,H3,I3,r3,k,e,q3⟩=>?_) hm
 subst e
 cases r3
 exact Rh ⟨H3,I3,q3⟩
noncomputable def Oa (r r':R2) (ta tb tc:TE):TE:=fun σ H Q=>ta σ H fun x H1=>tb σ H1 fun y H2=>r x y H2 fun z H3=>∃ k,z=.bl k /\
 (if k=true then tc σ H3 fun w' H4=>r' y w' H4 Q else Q (.bl false) H3)
theorem Zme {op op':CmpOp} {r r':R2} (ho:OpR X (compareOp op) r) (ho':OpR X (compareOp op') r') (ha:PE X a ta) (hb:PE X b tb) (hc:PE X c tc)
  (hm:lastMarks [op,op'] [b,c]=false:=by with_unfolding_all rfl):PE X (.Compare a [op,op'] [b,c] pos) (Oa r r' ta tb tc):=by
 intro pins s σ H Q I h
 refine Compare_chain (Am (ha pins s σ H _ I h) fun v s1 ⟨x,H1,I1,r1,q1⟩=>chain_link (Am (hb pins s1 σ H1 _ I1 q1) fun u s2 ⟨y,H2,I2,r2,q2⟩ =>
  Am (ho pins s2 σ H2 x y v u _ I2 r1 r2 q2) fun d s3 ⟨z,H3,I3,r3,k,e,q3⟩=>?_)) hm
 subst e
 cases r3
 refine Rh ?_
 cases k with
 | false=>exact ite_ff ⟨.bl false,H3,I3,rfl,q3⟩
 | true=>exact ite_tt (chain_last (Am (hc pins s3 σ H3 _ I3 q3) fun w' s4 ⟨z',H4,I4,r4,q4⟩=>ho' pins s4 σ H4 y z' u w' Q I4 r2 r4 q4))
noncomputable def J9 (K:Pd) (x:V) (H:Hp) (k:Bool):Prop :=
 match x with
 | .non=>k=false
 | .bl b=>k=b
 | .int i=>k=(i != 0)
 | .str y=>y.length<=sizeLine/\k=((y.length:Int) != 0)
 | .byt y=>y.size<=sizeLine/\k=((y.size:Int) != 0)
 | .ref p=>(∃ xs,SqL K H p xs/\k=!xs.isEmpty)\/(∃ xs,SqT K H p xs/\k=!xs.isEmpty)\/∃ kvs,H p=some (.dK kvs)/\k=!kvs.isEmpty
 | _=>False
theorem Zi3 {κ:Type} {kvs:List (κ×V)} {vs:List (κ×Value)} (r:KV kvs vs):(!vs.isEmpty)=!kvs.isEmpty:=by
 cases r <;> rfl
theorem Zde {xs:List V} {its:List Value} (r:Vals xs its):(!its.toArray.isEmpty)=!xs.isEmpty:=by
 cases r <;> simp
theorem Jr:(sizeLine:Nat) < 2 ^ 63:=by rw [Vl]; decide
theorem M9:TruR X (fun x H Q=>∃ k,J9 X.K x H k/\Q k H):=by
 intro pins s σ H x v Q I rx h
 obtain ⟨k,e,q⟩:=h
 have hl:=Jr
 have hs:sizeLine=16777216:=Vl
 cases x with
 | non =>
  cases rx
  have e':k=false:=e
  subst e'
  exact truthy_none ⟨H,I,q⟩
 | bl b =>
  cases rx
  have e':k=b:=e
  subst e'
  exact Rh ⟨H,I,q⟩
 | int i =>
  obtain ⟨t,rfl⟩:=rx
  have e':k=(i != 0):=e
  subst e'
  exact PySem.P.truthy_int ⟨H,I,q⟩
 | str y =>
  obtain ⟨t,rfl⟩:=rx
  obtain ⟨hy,e'⟩:y.length<=sizeLine/\k=((y.length:Int) != 0):=e
  subst e'
  exact PySem.P.truthy_str (by omega) ⟨H,I.tok _,q⟩
 | byt y =>
  obtain ⟨t,rfl⟩:=rx
  obtain ⟨hy,e'⟩:y.size<=sizeLine/\k=((y.size:Int) != 0):=e
  subst e'
  exact PySem.W.truthy_bytes (by omega) ⟨H,I.tok _,q⟩
 | ref p =>
  cases rx
  have e':(∃ xs,SqL X.K H p xs/\k=!xs.isEmpty)\/(∃ xs,SqT X.K H p xs/\k=!xs.isEmpty)\/∃ kvs,H p=some (.dK kvs)/\k=!kvs.isEmpty:=e
  rcases e' with ⟨xs,hx,e'⟩ | ⟨xs,hx,e'⟩ | ⟨kvs,hx,e'⟩
  ·subst e'
   obtain ⟨its,r,pl,hz⟩:=I.list hx
   have hlen:=r.length
   exact wpAny_truthy_list pl.isList (by simp only [Pk]; omega) ⟨H,I.tok _,by rw [Zde r]; exact q⟩
  ·subst e'
   obtain ⟨its,r,pl,hz⟩:=I.tuple hx
   have hlen:=r.length
   exact truthy_tuple pl (by simp only [Pk]; omega) ⟨H,I.tok _,by rw [Zde r]; exact q⟩
  ·subst e'
   obtain ⟨hz,hS,vs,r,m⟩:kvs.length<=sizeLine/\(p == sysModules)=false/\∃ vs,KV kvs vs/\s.heap.DictOf (Dh X.prog X.w) p vs:=I.hok p _ hx
   have hlen:kvs.length=vs.length:=U9 r
   exact wpAny_truthy_dict hS m (by omega) ⟨H,I.tok _,by rw [Zi3 r]; exact q⟩
 | _=>exact (show False from e).elim
theorem Zml (ha:PE X a ta) (he:∀ whole,isTrue a X.env whole=(do let v <- whole; standAt a.pos; holding [v] (truthy v))) :
  PT X a (fun σ H Q=>ta σ H fun x H'=>∃ k,J9 X.K x H' k/\Q k H'):=by
 intro pins s σ H Q I h
 exact isTrue_plain (Am (ha pins s σ H _ I h) fun v s1 ⟨x,H1,I1,r1,q1⟩=>M9 pins s1 σ H1 x v Q I1 r1 q1) (he _)
theorem op_add_str:OpR X (binaryOp .Add) (fun x y H Q=>∃ i j,x=.str i/\y=.str j/\i.length + j.length<=sizeLine/\Q (.str (i++j)) H):=by
 intro pins s σ H x y v u Q I rx ry h
 obtain ⟨i,j,rfl,rfl,hz,q⟩:=h
 obtain ⟨t,rfl⟩:=rx
 obtain ⟨t',rfl⟩:=ry
 exact add_str (fun t' tk=>⟨.str (i++j),H,I.tok _,⟨_,rfl⟩,q⟩) hz
theorem Ja {x:V} {us:List Value} (r:Vals [x] us):∃ u,us=[u]/\RelV x u:=by
 cases r with
 | cons r1 r2=>cases r2; exact ⟨_,rfl,r1⟩
theorem Zq4:Cv X (.type "int") (fun xs H Q=>(∃ i,xs=[.int i]/\Q (.int i) H)\/∃ k,xs=[.bl k]/\Q (.int (if k then 1 else 0)) H):=by
 intro pins s σ H xs us Q I r h
 rcases h with ⟨i,rfl,q⟩ | ⟨k,rfl,q⟩
 ·obtain ⟨u,rfl,t,rfl⟩:=Ja r
  exact call_int_int ⟨.int i,H,I,⟨_,rfl⟩,q⟩
 ·obtain ⟨u,rfl,r1⟩:=Ja r
  cases r1
  exact call_int_bool ⟨.int (if k then 1 else 0),H,I.tok _,⟨_,rfl⟩,q⟩
noncomputable def LenV (K:Pd) (x:V) (H:Hp) (n:Nat):Prop :=
 match x with
 | .str y=>y.length<=sizeLine/\n=y.length
 | .byt y=>y.size<=sizeLine/\n=y.size
 | .ref p=>(∃ xs,SqL K H p xs/\n=xs.length)\/∃ xs,SqT K H p xs/\n=xs.length
 | _=>False
theorem Zif:Cv X (.builtin "len") (fun xs H Q=>∃ x n,xs=[x]/\LenV X.K x H n/\Q (.int n) H):=by
 intro pins s σ H xs us Q I r h
 obtain ⟨x,n,rfl,e,q⟩:=h
 obtain ⟨u,rfl,rx⟩:=Ja r
 have hl:=Jr
 have hs:sizeLine=16777216:=Vl
 cases x with
 | str y =>
  obtain ⟨t,rfl⟩:=rx
  obtain ⟨hy,e'⟩:y.length<=sizeLine/\n=y.length:=e
  subst e'
  exact len_str (by omega) ⟨.int _,H,I.tok _,⟨_,rfl⟩,q⟩
 | byt y =>
  obtain ⟨t,rfl⟩:=rx
  obtain ⟨hy,e'⟩:y.size<=sizeLine/\n=y.size:=e
  subst e'
  exact PySem.W.len_bytes (by omega) ⟨.int _,H,I.tok _,⟨_,rfl⟩,q⟩
 | ref p =>
  cases rx
  have e':(∃ xs,SqL X.K H p xs/\n=xs.length)\/∃ xs,SqT X.K H p xs/\n=xs.length:=e
  rcases e' with ⟨xs,hx,e'⟩ | ⟨xs,hx,e'⟩
  ·subst e'
   obtain ⟨its,r',pl,hz⟩:=I.list hx
   have hlen:=r'.length
   exact Calls.call_len_list pl.isList (by simp only [Pk]; omega) ⟨.int xs.length,H,I.tok _,⟨_,by simp only [Pk]; rw [hlen]⟩,q⟩
  ·subst e'
   obtain ⟨its,r',pl,hz⟩:=I.tuple hx
   have hlen:=r'.length
   exact len_tuple pl (by simp only [Pk]; omega) ⟨.int xs.length,H,I.tok _,⟨_,by simp only [Pk]; rw [hlen]⟩,q⟩
 | _=>exact (show False from e).elim
end
end L2
namespace L2
open PySem PySem.Spec PyProof.Rows
structure ObjM (h:Heap) (x dx C:Addr) (mA:Str->Option Value):Prop where
 obj:h.get? x=some (Ru C dx)
 ns:h.Ns1 dx mA
 ne:dx≠x
theorem Zgn {h:Heap} {dx:Addr} {mA:Str->Option Value} (n:h.Ns1 dx mA):∃ od,h.get? dx=some od/\∀ name,U7 name od=some (mA name):=by
 obtain ⟨o,es,ep,ho,hd,hk,_,hm⟩:=n
 refine ⟨o,ho,fun name=>?_⟩
 have e:=hm name
 unfold nsFind findBy at e
 rw [<- Array.find?_toList] at e
 unfold U7
 rw [hd]
 dsimp only
 split
 ·rename_i y q
  rw [q] at e
  exact congrArg some e
 ·rename_i q
  rw [q] at e
  have a:es.toList.any (·.refKey)=false:=by
   rw [List.any_eq_false]
   intro y hy
   obtain ⟨z,t,hkey⟩:=hk y (Array.mem_toList_iff.mp hy)
   simp [DictEntry.refKey,hkey]
  have a':¬ es.toList.any (·.refKey)=true:=by rw [a]; exact Po
  rw [if_neg a']
  exact congrArg some e
theorem ObjM.look {h:Heap} {x dx C:Addr} {mA:Str->Option Value} (I:ObjM h x dx C mA):∃ od,PySem.W.InstAt h x (Ru C dx) C (some od)/\∀ name,U7 name od=some (mA name) :=
 let ⟨od,ho,hl⟩:=Zgn I.ns
 ⟨od,⟨I.obj,rfl,rfl,ho⟩,hl⟩
section
variable {prog:Program} {w:World} {A:Around} {E:Value->Shared->Prop} {s:Shared} {K:Pd} {x dx C f:Addr} {mA:Str->Option Value} {name:Str} {v:Value}
theorem Zph {expr:Bool} {Q:Value->Shared->Prop} (X:K.In s.heap) (I:ObjM s.heap x dx C mA) (hg:To K C name=true) (hh:Uw K C=true)
  (ha:Qb K (.ref C) name=some none) (hv:mA name=some v) (hv':PySem.W.handedIn v=true) (h:Q v { s with toks:=s.toks + 1 }) :
  wpAny (model prog w) A (getAttr (.ref x) name expr) Q E s:=by
 obtain ⟨od,J,hl⟩:=I.look
 exact PySem.W.get_value X J (V1 hg).1 (PySem.W.findObj_own hh ha rfl (by rw [hl,hv])) hv' h
theorem Zgy {pl:Sem Bool} {Q:Value×List Value->Shared->Prop} (X:K.In s.heap) (I:ObjM s.heap x dx C mA) (hg:To K C name=true)
  (hf:Qb K (.ref C) name=some (some (.ref f))) (ht:Ve K (.ref f)=true) (hv:mA name=none) (h:Q (.ref f,[.ref x]) s) :
  wpAny (model prog w) A (getMethod (.ref x) name pl) Q E s:=by
 obtain ⟨od,J,hl⟩:=I.look
 exact PySem.W.method_fn X J (V1 hg).1 (V1 hg).2 hf (beq_iff_eq.mp ht) (by show (U7 name od).map (·.isSome)=some false; rw [hl,hv]; rfl) h
theorem Zn8 {ns:List Str} {Q:Unit->Shared->Prop} (X:K.In s.heap) (I:ObjM s.heap x dx C mA)
  (hs:Qb K (.ref C) "__setattr__" = some (some (.builtin "object.__setattr__"))) (hp:V4 K C=true) (ht:Wa K C name=some none) (hh:Uw K C=true)
  (hw:Vd mA ns) (hsz:ns.length<=sizeLine)
  (h:∀ h',ObjM h' x dx C (fun y=>if y=name then some v else mA y)->Px dx s.heap h'->Q () { s with heap:=h',toks:=s.toks + 2 }) :
  wpAny (model prog w) A (setAttr (.ref x) name v) Q E s:=by
 obtain ⟨od,J,hl⟩:=I.look
 refine PySem.W.set_plain X J hs (PySem.W.osa_open (s:={ s with toks:=s.toks + 1 }) (r:=none) X J hp ht fun b=>?_)
 obtain ⟨cd,hc,hd'⟩:=PySem.W.any_some hh
 have hx:s.heap.get? x=some ⟨.ref C,some dx,.plain,#[]⟩:=I.obj
 refine Pe (Pf (Pe (Pe (wpAny_loadPart hx (Pe (T2.here (s:={ s with toks:=s.toks + 1 }) (PySem.W.looks_clsIn X hc) ?_))))))
 rw [hd']
 refine Pf (a:=some dx) (Pe (Pf (Pe ?_)))
 refine wpAny_nsSet1 (s:={ s with toks:=s.toks + 1 }) I.ns fun h' hn2 hs2=>?_
 obtain ⟨oD,esD,epD,hoD,hdD,hcD⟩:=hn2.count (Vd.cons name v hw)
 refine Pe (wpAny_lookBehind hoD (by rw [hdD]; exact pastItsLine_dict (Qd hcD (by rw [P9]; omega))) ?_)
 exact Pf (h _ ⟨(hs2.2 _ (Ps I.ne)).trans I.obj,hn2,I.ne⟩ hs2)
theorem Zn5 {R:Result->Shared->Prop} {vs:List Value} {kw:List (Str×Value)} (X:K.In s.heap) (hm:Wb K C=true)
  (hi:Qb K (.ref C) "__init__" = some (some (.ref f))) (hf:PySem.W.typeIn K (.ref f)=some (.type "function"))
  (h:codeAny (model prog w) (A.under (.builtin "type.__call__" ⟨.ref C :: vs,kw⟩)) (.call (.ref f) ⟨.ref (s.heap.objs.size + 1) :: vs,kw⟩) (PySem.W.InitBack (s.heap.objs.size + 1) R)
   { s with heap:=(s.heap.push Ri).push (Ru C s.heap.objs.size) }) :
  codeAny (model prog w) A (.call (.ref C) ⟨vs,kw⟩) R s:=by
 obtain ⟨hh,g,d,t,os⟩:=s
 exact PySem.W.make_core (PySem.W.makes_of X hm) (PySem.W.looks_findIn X hi) (fun self=>PySem.W.bind_fn X self hf) (.inl rfl) h
end
noncomputable def Ai (f:Str) (v:V):List (Str×V)->List (Str×V)
 | []=>[(f,v)]
 | (g,x) :: r=>if g=f then (g,v) :: r else (g,x) :: Ai f v r
theorem Zcb (f g:Str) (v:V):∀ fs:List (Str×V),(Ai f v fs).lookup g=if g=f then some v else fs.lookup g
 | []=>by
  show Rn g [(f,v)]=_
  by_cases h:g=f
  ·have hb:(g == f)=true:=beq_iff_eq.mpr h
   simp only [Rn,hb,if_pos h]
  ·have hb:(g == f)=false:=beq_eq_false_iff_ne.mpr h
   simp only [Rn,hb,if_neg h]
 | (k,x) :: r=>by
  have ih:=Zcb f g v r
  rw [show Ai f v ((k,x) :: r)=(if k=f then (k,v) :: r else (k,x) :: Ai f v r) from rfl]
  by_cases hk:k=f
  ·rw [if_pos hk]
   by_cases h:g=k
   ·have hb:(g == k)=true:=beq_iff_eq.mpr h
    simp only [Rn,hb,if_pos (h.trans hk)]
   ·have hb:(g == k)=false:=beq_eq_false_iff_ne.mpr h
    simp only [Rn,hb,if_neg (fun e:g=f=>h (e.trans hk.symm))]
  ·rw [if_neg hk]
   by_cases h:g=k
   ·have hb:(g == k)=true:=beq_iff_eq.mpr h
    simp only [Rn,hb,if_neg (fun e:g=f=>hk (h.symm.trans e))]
   ·have hb:(g == k)=false:=beq_eq_false_iff_ne.mpr h
    simp only [Rn,hb]
    exact ih
theorem Zan (f:Str) (v:V):∀ fs:List (Str×V),f∈(Ai f v fs).map (·.1)/\∀ g,g∈fs.map (·.1)->g∈(Ai f v fs).map (·.1)
 | []=>⟨by simp [Ai],fun g h=>by simp at h⟩
 | (k,x) :: r=>by
  obtain ⟨i1,i2⟩:=Zan f v r
  rw [show Ai f v ((k,x) :: r)=(if k=f then (k,v) :: r else (k,x) :: Ai f v r) from rfl]
  by_cases hk:k=f
  ·rw [if_pos hk]
   subst hk
   exact ⟨by simp,fun g h=>by simpa using h⟩
  ·rw [if_neg hk]
   refine ⟨?_,fun g h=>?_⟩
   ·rw [Qj]
    exact Rq _ i1
   ·rw [Qj] at h ⊢
    rcases Pm.mp h with e | e
    ·exact Pm.mpr (.inl e)
    ·exact Rq _ (i2 g e)
theorem Zf7 (f:Str) (v:V):∀ fs:List (Str×V),(Ai f v fs).length<=fs.length + 1
 | []=>by simp [Ai]
 | (k,x) :: r=>by
  have ih:=Zf7 f v r
  rw [show Ai f v ((k,x) :: r)=(if k=f then (k,v) :: r else (k,x) :: Ai f v r) from rfl]
  by_cases hk:k=f
  ·rw [if_pos hk,P9,P9]; omega
  ·rw [if_neg hk,P9,P9]; omega
theorem RelO.some_of {v:V} {o:Option Value} (r:RelO (some v) o):∃ u,o=some u/\RelV v u:=by
 cases o with
 | none=>exact (show False from r).elim
 | some u=>exact ⟨u,rfl,r⟩
theorem RelO.none_of {o:Option Value} (r:RelO none o):o=none:=by
 cases o with
 | none=>rfl
 | some u=>exact (show False from r).elim
theorem Zkm {v:V} {u:Value} (r:RelV v u):PySem.W.handedIn u=true:=by
 cases v with
 | non=>cases (show u=Value.none from r); rfl
 | bl b=>cases (show u=Value.bool b from r); rfl
 | int i=>obtain ⟨t,e⟩:=(show ∃ t,u=Value.int i t from r); cases e; rfl
 | str x=>obtain ⟨t,e⟩:=(show ∃ t,u=Value.str x t from r); cases e; rfl
 | byt b=>obtain ⟨t,e⟩:=(show ∃ t,u=Value.bytes b t from r); cases e; rfl
 | flt b=>obtain ⟨t,e⟩:=(show ∃ t,u=Value.float b t from r); cases e; rfl
 | ref a=>cases (show u=Value.ref a from r); rfl
 | ty n=>cases (show u=Value.type n from r); rfl
section
variable {P:Program} {w:World} {H H':Hp} {h h':Heap} {a C dx:Addr} {fs fs':List (Str×V)}
theorem Ls (hok:HOk P w H h) (e:H a=some (.ins C dx fs)):∃ mA,ObjM h a dx C mA/\(∀ f,RelO (fs.lookup f) (mA f))/\Vd mA (fs.map (·.1))/\fs.length<=1000/\H dx=some (.own a):=by
 obtain ⟨d,z,ne,ob,mA,n,r,q⟩:=(show ObjOk P w H h a (.ins C dx fs) from hok a _ e)
 exact ⟨mA,⟨ob,n,ne⟩,r,q,z,d⟩
end
structure Cls (K:Pd) (C:Addr):Prop where
 pg:To K C Str.empty=true
 hd:Uw K C=true
 po:V4 K C=true
 sa:Qb K (.ref C) "__setattr__" = some (some (.builtin "object.__setattr__"))
theorem Cls.get {K:Pd} {C:Addr} (c:Cls K C) (f:Str):To K C f=true:=c.pg
noncomputable def NoAttr (K:Pd) (C:Addr) (f:Str):Prop:=Qb K (.ref C) f=some none
theorem NoAttr.taker {K:Pd} {C:Addr} {f:Str} (n:NoAttr K C f):Wa K C f=some none:=by
 unfold Wa
 rw [show Qb K (.ref C) f=some none from n]
 rfl
structure Meth (K:Pd) (C:Addr) (m:Str) (f:Addr):Prop where
 at_:Qb K (.ref C) m=some (some (.ref f))
 fn:Ve K (.ref f)=true
 kp:Ra K (.ref f)=true
section
variable {X:Cx} {pins:List (Addr×Obj)} {σ:St} {H:Hp} {s:Shared} {a C dx:Addr} {fs:List (Str×V)} {f:Str} {v:V} {A:Around} {E:Value->Shared->Prop}
theorem Zd6 {b:Bool} {Q:Value->Shared->Prop} (I:Inv X pins σ H s) (e:H a=some (.ins C dx fs)) (c:Cls X.K C) (n:NoAttr X.K C f) (l:fs.lookup f=some v)
  (h:∀ u s',Inv X pins σ H s'->RelV v u->Q u s'):wpAny (model X.prog X.w) A (getAttr (.ref a) f b) Q E s:=by
 obtain ⟨mA,O,r,_,_,_⟩:=Ls I.hok e
 obtain ⟨u,hu,ru⟩:=RelO.some_of (v:=v) (o:=mA f) (by rw [<- l]; exact r f)
 exact Zph I.kIn O (c.get f) c.hd n hu (Zkm ru) (h u _ (I.tok _) ru)
theorem Zdd {m:Str} {g:Addr} {pl:Sem Bool} {Q:Value×List Value->Shared->Prop} (I:Inv X pins σ H s) (e:H a=some (.ins C dx fs)) (c:Cls X.K C) (k:Meth X.K C m g) (l:fs.lookup m=none)
  (h:Q (.ref g,[.ref a]) s):wpAny (model X.prog X.w) A (getMethod (.ref a) m pl) Q E s:=by
 obtain ⟨mA,O,r,_,_,_⟩:=Ls I.hok e
 have hn:mA m=none:=RelO.none_of (by rw [<- l]; exact r m)
 exact Zgy I.kIn O (c.get m) k.at_ k.fn hn h
theorem Zeq {y:V} {u:Value} {Q:Unit->Shared->Prop} (I:Inv X pins σ H s) (e:H a=some (.ins C dx fs)) (c:Cls X.K C) (n:NoAttr X.K C f) (hl:fs.length < 1000) (ry:RelV y u)
  (h:∀ s',Inv X pins σ (upd H a (.ins C dx (Ai f y fs))) s'->Q () s'):wpAny (model X.prog X.w) A (setAttr (.ref a) f u) Q E s:=by
 obtain ⟨mA,O,r,wi,_,ho⟩:=Ls I.hok e
 have hz:(fs.map (·.1)).length<=sizeLine:=by rw [Pp,Vl]; omega
 refine Zn8 I.kIn O c.sa c.po n.taker c.hd wi hz fun h' O' sb=>h _ ?_
 have hd:∃ o,h'.get? dx=some o:=let ⟨o,_,_,e',_⟩:=O'.ns; ⟨o,e'⟩
 refine I.write (x:=a) (e:=dx) (by rw [e]; exact True.intro) (.inr ho) (fun b q hb z=>(sb.2 b hb).trans z) hd ?_
 refine ⟨by rw [Af O.ne]; exact ho,?_,O.ne,O'.obj,_,O'.ns,fun g=>?_,fun g hg=>?_⟩
 ·have:=Zf7 f y fs; omega
 ·show RelO ((Ai f y fs).lookup g) (if g=f then some u else mA g)
  rw [Zcb]
  by_cases q:g=f
  ·rw [if_pos q,if_pos q]; exact ry
  ·rw [if_neg q,if_neg q]; exact r g
 ·by_cases q:g=f
  ·rw [q]; exact (Zan f y fs).1
  ·refine (Zan f y fs).2 g (wi g fun z=>hg ?_)
   show (if g=f then some u else mA g)=none
   rw [if_neg q]; exact z
theorem Inv.made (I:Inv X pins σ H s):Inv X pins σ (upd (upd H s.heap.objs.size (.own (s.heap.objs.size + 1))) (s.heap.objs.size + 1) (.ins C s.heap.objs.size []))
  { s with heap:=(s.heap.push Ri).push (Ru C s.heap.objs.size) }:=by
 have e1:(s.heap.push Ri).get? s.heap.objs.size=some Ri:=Py s.heap rfl
 have e2:((s.heap.push Ri).push (Ru C s.heap.objs.size)).get? (s.heap.objs.size + 1)=some (Ru C s.heap.objs.size):=by
  have:=Py (s.heap.push Ri) (o:=Ru C s.heap.objs.size) rfl
  rwa [Qf] at this
 have e3:(s.heap.push Ri).Ns s.heap.objs.size (fun _=>none):=⟨Ri,#[],_,e1,rfl,(fun e he=>absurd he (by simp)),fun _=>rfl⟩
 have I1:=I.laid (a:=s.heap.objs.size) (o:=.own (s.heap.objs.size + 1)) (h':=s.heap.push Ri) (t':=s.toks) (fun b u q=>Pj _ q) (Ph _) ⟨_,e1⟩
 refine I1.laid (a:=s.heap.objs.size + 1) (o:=.ins C s.heap.objs.size []) (t':=s.toks) (fun b u q=>Pj _ q) (Nat.le_of_eq (Qf _ _)) ?_
 have ne:s.heap.objs.size≠s.heap.objs.size + 1:=Pw (Uy _)
 refine ⟨by rw [Af ne,Ad],Pn _,ne,e2,fun _=>none,(Heap.Ns1.of_empty e3).at fun o q=>Pj _ q,fun _=>True.intro,fun y hy=>absurd rfl hy⟩
theorem Znu {prog:Program} {w:World} {env:Env} {e:Expr} {f:Str} {pos:Pos} {s:Shared} {Q:Value->Shared->Prop} (hb:attributeBase e f env (eval e env)=eval e env)
  (h:wpAny (model prog w) A (eval e env) (fun o s₁=>wpAny (model prog w) A (getAttr o f true) Q E s₁) E s):wpAny (model prog w) A (eval (.Attribute e f pos) env) Q E s :=
 Attribute_any_ h (by rw [arm_eval_Attribute,hb])
end
noncomputable def Om (K:Pd) (ta:TE) (f:Str):TE:=fun σ H Q=>ta σ H fun x H1=>∃ a C dx fs v,x=.ref a/\H1 a=some (.ins C dx fs)/\Cls K C/\NoAttr K C f/\fs.lookup f=some v/\Q v H1
noncomputable def Ld (K:Pd) (ta tv:TE) (f:Str):TS:=fun D σ H=>tv σ H fun y H1=>ta σ H1 fun x H2=>∃ a C dx fs,x=.ref a/\H2 a=some (.ins C dx fs)/\Cls K C/\NoAttr K C f/\fs.length < 1000 /\
 D.nx σ (upd H2 a (.ins C dx (Ai f y fs)))
noncomputable def Za4 (X:Cx) (op:Operator) (rd:V->V->Hp->VK->Prop):Prop :=
 ∀ (pins:List (Addr×Obj)) (s:Shared) (σ:St) (H:Hp) (x y:V) (u v:Value) (Q:VK),Inv X pins σ H s->RelV x u->RelV y v->rd x y H Q->wpAny (model X.prog X.w) X.A (inplaceOp op u v) (EP X pins σ Q) X.xe s
noncomputable def Ze5 (K:Pd) (ta tv:TE) (rd:V->V->Hp->VK->Prop) (f:Str):TS:=fun D σ H=>ta σ H fun x H1=>∃ a C dx fs v,x=.ref a/\H1 a=some (.ins C dx fs)/\Cls K C/\NoAttr K C f/\fs.lookup f=some v /\
 tv σ H1 fun y H2=>rd v y H2 fun z H3=>∃ dx' fs',H3 a=some (.ins C dx' fs')/\fs'.length < 1000/\D.nx σ (upd H3 a (.ins C dx' (Ai f z fs')))
section
variable {X:Cx} {o e value:Expr} {f:Str} {pos pos' tpos:Pos} {ta tv:TE}
theorem Zp0 (he:PE X e ta) (hb:attributeBase e f X.env (eval e X.env)=eval e X.env):PE X (.Attribute e f pos) (Om X.K ta f):=by
 intro pins s σ H Q I h
 refine Znu hb (Am (he pins s σ H _ I h) fun u s1 zq=>?_)
 obtain ⟨x,H1,I1,rx,a,C,dx,fs,v,ex,ea,c,n,l,q⟩:=zq
 subst ex
 obtain rfl:u=Value.ref a:=rx
 exact Zd6 I1 ea c n l fun u' s2 I2 ru=>⟨v,H1,I2,ru,q⟩
theorem Zj2 (ha:PE X o ta) (hv:PE X value tv) (hs:swapsWith value (some (.Attribute o f pos')) pos.line X.env=pure false):PS X (.Assign [.Attribute o f pos'] value pos) (Ld X.K ta tv f):=by
 intro pins s σ H D I h
 refine plainObj_wpAny_Assign_Attribute (Am (hv pins s σ H _ I h) fun u s1 zq=>?_) hs
 obtain ⟨y,H1,I1,ry,q⟩:=zq
 refine Am (ha pins s1 σ H1 _ I1 q) fun ov s2 zq=>?_
 obtain ⟨x,H2,I2,rx,a,C,dx,fs,ex,ea,c,n,l,q2⟩:=zq
 subst ex
 obtain rfl:ov=Value.ref a:=rx
 exact Zeq I2 ea c n l ry fun s3 I3=>⟨σ,_,I3,q2⟩
theorem Zjd {op:Operator} {rd:V->V->Hp->VK->Prop} (ha:PE X o ta) (hv:PE X value tv) (hop:Za4 X op rd):PS X (.AugAssign (.Attribute o f tpos) op value pos) (Ze5 X.K ta tv rd f):=by
 intro pins s σ H D I h
 refine wpAny_AugAssign_AttributeAny (Am (ha pins s σ H _ I h) fun ov s1 zq=>?_)
 obtain ⟨x,H1,I1,rx,a,C,dx,fs,v,ex,ea,c,n,l,q⟩:=zq
 subst ex
 obtain rfl:ov=Value.ref a:=rx
 refine Zd6 I1 ea c n l fun u s2 I2 ru=>Am (hv pins s2 σ H1 _ I2 q) fun w3 s3 zq=>?_
 obtain ⟨y,H2,I3,ry,q3⟩:=zq
 refine Am (hop pins s3 σ H2 v y u w3 _ I3 ru ry q3) fun w4 s4 zq=>?_
 obtain ⟨z,H3,I4,rz,dx',fs',ea',l',q4⟩:=zq
 exact Zeq I4 ea' c n l' rz fun s5 I5=>⟨σ,_,I5,q4⟩
noncomputable def rAdd:V->V->Hp->VK->Prop:=fun x y H Q=>∃ i j,x=.int i/\y=.int j/\Q (.int (i + j)) H
theorem Zf9:Za4 X .Add rAdd:=by
 rintro pins s σ H x y u v Q I rx ry ⟨i,j,rfl,rfl,q⟩
 obtain ⟨t,rfl⟩:=(show ∃ t,u=Value.int i t from rx)
 obtain ⟨t',rfl⟩:=(show ∃ t',v=Value.int j t' from ry)
 exact PyProof.Rows.iadd_int ⟨.int (i + j),H,I.tok _,⟨_,rfl⟩,q⟩
end
section
variable {X:Cx} {pins:List (Addr×Obj)} {σ:St} {H:Hp} {s:Shared} {A:Around} {E:Value->Shared->Prop} {Q:Value->Shared->Prop} {c:Value} {b:Bool}
inductive Dg (K:Pd) (H:Hp):V->Value->Prop where
 | non:Dg K H .non (.type "NoneType")
 | bl (x:Bool):Dg K H (.bl x) (.type "bool")
 | int (i:Int):Dg K H (.int i) (.type "int")
 | str (x:Str):Dg K H (.str x) (.type "str")
 | flt (x:UInt64):Dg K H (.flt x) (.type "float")
 | lst {a:Addr} {xs:List V} (e:H a=some (.lst xs)):Dg K H (.ref a) (.type "list")
 | frz {a:Addr} {o:Obj} {xs:List V} (e:H a=some (.frz o (.lst xs))):Dg K H (.ref a) (.type "list")
 | tup {a:Addr} {xs:List V} (e:H a=some (.tup xs)):Dg K H (.ref a) (.type "tuple")
 | dK {a:Addr} {kvs:List (Ao×V)} (e:H a=some (.dK kvs)):Dg K H (.ref a) (.type "dict")
 | dT {a:Addr} {kvs:List (List Ao×V)} (e:H a=some (.dT kvs)):Dg K H (.ref a) (.type "dict")
 | ins {a C dx:Addr} {fs:List (Str×V)} (e:H a=some (.ins C dx fs)) (cl:Cls K C) (ha:Qb K (.ref C) "__class__" = some (some (.builtin "object.__class__")))
   (hn:PySem.W.specialIn K (.builtin "object.__class__") "__get__" = some (some (.builtin "getset_descriptor.__get__"))) (htk:PySem.W.takesIn K (.builtin "object.__class__")=some true)
   (hm:PySem.W.mroIn K C (.type "object")=some true):Dg K H (.ref a) (.ref C)
theorem Zqv {x:V} {u t:Value} (I:Inv X pins σ H s) (rx:RelV x u) (ty:Dg X.K H x t) (e:Rb X.K t c=some b) (h:∀ tk,Q (.bool b) { s with toks:=tk }) :
  wpAny (model X.prog X.w) A (call (.builtin "isinstance") [u,c]) Q E s:=by
 cases ty with
 | non=>cases (show u=Value.none from rx); exact Qk PySem.W.kitx_none I.kIn True.intro e (fun z=>nomatch z) h
 | bl y=>cases (show u=Value.bool y from rx); exact Qk PySem.W.kitx_bool I.kIn True.intro e (fun z=>nomatch z) h
 | int i=>obtain ⟨t,q⟩:=(show ∃ t,u=Value.int i t from rx); cases q; exact Qk PySem.W.kitx_int I.kIn True.intro e (fun z=>nomatch z) h
 | str y=>obtain ⟨t,q⟩:=(show ∃ t,u=Value.str y t from rx); cases q; exact Qk PySem.W.kitx_str I.kIn True.intro e (fun z=>nomatch z) h
 | flt y=>obtain ⟨t,q⟩:=(show ∃ t,u=Value.float y t from rx); cases q; exact Qk PySem.W.kitx_float I.kIn True.intro e (fun z=>nomatch z) h
 | @lst a xs ea =>
  cases (show u=Value.ref a from rx)
  obtain ⟨_,_,n,_,h1⟩:=(show ObjOk X.prog X.w H s.heap a (.lst xs) from I.hok a _ ea)
  exact Qk V5 I.kIn ⟨_,h1,rfl⟩ e (fun z=>nomatch z) h
 | @frz a ob xs ea =>
  cases (show u=Value.ref a from rx)
  obtain ⟨_,_,_,n,_,h1⟩:=(show ObjOk X.prog X.w H s.heap a (.frz ob (.lst xs)) from I.hok a _ ea)
  exact Qk V5 I.kIn ⟨_,h1,rfl⟩ e (fun z=>nomatch z) h
 | @tup a xs ea =>
  cases (show u=Value.ref a from rx)
  obtain ⟨_,_,_,p⟩:=(show ObjOk X.prog X.w H s.heap a (.tup xs) from I.hok a _ ea)
  obtain ⟨o,h1,h2,_⟩:=p
  exact Qk PySem.W.kitx_tuple I.kIn ⟨o,h1,h2⟩ e (fun z=>nomatch z) h
 | @dK a kvs ea =>
  cases (show u=Value.ref a from rx)
  obtain ⟨_,_,vs,_,p⟩:=(show ObjOk X.prog X.w H s.heap a (.dK kvs) from I.hok a _ ea)
  obtain ⟨o,es,ep,h1,h2,_⟩:=p
  exact Qk PySem.W.kitx_dict I.kIn ⟨o,h1,h2.1⟩ e (fun z=>nomatch z) h
 | @dT a kvs ea =>
  cases (show u=Value.ref a from rx)
  obtain ⟨_,_,xs,_,o,es,ep,h1,h2,_⟩:=(show ObjOk X.prog X.w H s.heap a (.dT kvs) from I.hok a _ ea)
  exact Qk PySem.W.kitx_dict I.kIn ⟨o,h1,h2.1⟩ e (fun z=>nomatch z) h
 | @ins a C dx fs ea cl ha hn htk hm =>
  cases (show u=Value.ref a from rx)
  obtain ⟨mA,O,_⟩:=Ls I.hok ea
  obtain ⟨od,J,_⟩:=O.look
  exact Qk (PySem.W.kitx_own (cl.get _) cl.hd ha hn htk hm) I.kIn J e (fun z=>nomatch z) h
end
end L2
namespace L2
open PySem PySem.Spec PyProof.Rows
structure Room (k:Nat) (A:Around):Prop where
 hd:A.handled=none
 dp:A.depth + 3 * k + 5 < recursionLimit
 un:A.units + 16 * k + 200 < cLine
theorem Room.mono {j k:Nat} {A:Around} (r:Room k A) (h:j<=k):Room j A:=⟨r.hd,by have:=r.dp; omega,by have:=r.un; omega⟩
theorem Room.deeper {k:Nat} {A:Around} (r:Room (k + 1) A) (env:Env):Room k (A.deeper env) :=
 ⟨r.hd,by have:=r.dp; show A.depth + 1 + 3 * k + 5 < _; omega,by have:=r.un; show A.units + 3 + 16 * k + 200 < _; omega⟩
theorem Zho {A:Around} {C:Addr} {us:List Value} {kw:List (Str×Value)}:(A.under (.builtin "type.__call__" ⟨.ref C :: us,kw⟩)).depth=A.depth + 1:=by
 first | rfl | simp [Around.under,Code.weight,Code.isCreation,Code.isGuard,Code.isCaller,Code.frames,Code.isFrame,guardIds]
theorem Zmm {A:Around} {C:Addr} {us:List Value} {kw:List (Str×Value)}:(A.under (.builtin "type.__call__" ⟨.ref C :: us,kw⟩)).units=A.units + 1:=by
 first | rfl | simp [Around.under,Code.cUnits,Code.frames,Code.isFrame]
theorem Room.make {k:Nat} {A:Around} (r:Room (k + 1) A) (C:Addr) (us:List Value) (kw:List (Str×Value)):Room k (A.under (.builtin "type.__call__" ⟨.ref C :: us,kw⟩)) :=
 ⟨r.hd,by have:=r.dp; rw [Zho]; omega,by have:=r.un; rw [Zmm]; omega⟩
theorem Room.depth {k:Nat} {A:Around} (r:Room k A):A.depth < recursionLimit:=by have:=r.dp; omega
noncomputable def J8:TA:=fun _ H Q=>Q [] H
noncomputable def Zbc (ta:TE) (tr:TA):TA:=fun σ H Q=>ta σ H fun x H1=>tr σ H1 fun xs H2=>Q (x :: xs) H2
section
variable {X:Cx} {e:Expr} {es:List Expr} {te:TE} {t:TA} {pos:Pos}
theorem Zfs:PA X [] J8:=fun _ _ _ _ H Q I h=>V6 ⟨[],H,I,.nil,h⟩
theorem Zeo (ha:PE X e te) (hr:PA X es t) (hs:starEach (e :: es) X.env=(false,eval e X.env) :: starEach es X.env:=by rfl):PA X (e :: es) (Zbc te t):=by
 intro pos pins s σ H Q I h
 rw [hs]
 show wpAny _ _ (spliced ((false,eval e X.env) :: backTo pos (starEach es X.env))) _ _ s
 refine V2 (Am (ha pins s σ H _ I h) fun u s1 zq=>?_)
 obtain ⟨x,H1,I1,r1,q1⟩:=zq
 exact Am (hr pos pins s1 σ H1 _ I1 q1) fun us s2 ⟨xs,H2,I2,r2,q2⟩=>⟨x :: xs,H2,I2,.cons r1 r2,q2⟩
noncomputable def Np (t:TA):TE:=fun σ H Q=>t σ H fun xs H1=>xs.length<=sizeLine/\∀ p,H1 p=none->Q (.ref p) (upd H1 p (.tup xs))
noncomputable def N6 (t:TA):TE:=fun σ H Q=>t σ H fun xs H1=>xs.length<=sizeLine/\∀ p,H1 p=none->Q (.ref p) (upd H1 p (.lst xs))
theorem Zka {x1} (h:PA X es t):PE X (.Tuple es x1 pos) (Np t):=by
 intro pins s σ H Q I hq
 refine wpAny_Tuple_spliced (Am (h pos pins s σ H _ I hq) fun us s1 ⟨xs,H1,I1,r,z,q⟩=>⟨by rw [<- r.length]; exact z,?_⟩)
 have hf:H1 s1.heap.objs.size=none:=I1.hok.fresh (Ph _)
 refine ⟨.ref s1.heap.objs.size,upd H1 s1.heap.objs.size (.tup xs),I1.laid (t':=s1.toks) (fun b u e=>Pj _ e) (Ph _) ?_,rfl,q _ hf⟩
 exact ⟨z,us,r,⟨_,Py _ rfl,rfl,_,rfl⟩⟩
theorem Zow (h:PA X es t):PE X (.List es pos) (N6 t):=by
 intro pins s σ H Q I hq
 refine wpAny_List_spliced (Am (h pos pins s σ H _ I hq) fun us s1 ⟨xs,H1,I1,r,z,q⟩=>⟨by rw [<- r.length]; exact z,?_⟩)
 have hf:H1 s1.heap.objs.size=none:=I1.hok.fresh (Ph _)
 refine ⟨.ref s1.heap.objs.size,upd H1 s1.heap.objs.size (.lst xs),I1.laid (t':=s1.toks) (fun b u e=>Pj _ e) (Ph _) ?_,rfl,q _ hf⟩
 exact ⟨z,us,0,r,Py _ rfl⟩
end
noncomputable abbrev Sp:=List V->Hp->VK->XK->Prop
noncomputable abbrev B3:=List Env->Hp->Shared->XK->Value->Shared->Prop
structure Env0 (P:Program) (w:World) (K:Pd) (mg:Str->Option Value) (base:Heap) (A:Around) (outer:List Env) (s:Shared) (H:Hp):Prop where
 frames:A.frames=some outer
 mod:Mod K mg base
 bs:∀ b o,base.get? b=some o->s.heap.get? b=some o/\H b=none
 bsz:base.objs.size<=s.heap.objs.size
 funs:s.heap.FunFrames base outer
 frf:∀ b∈Bl outer,H b=none
 hok:HOk P w H s.heap
 bare:AllBare s.gens
noncomputable def CE (outer:List Env) (P:Program) (w:World) (H:Hp) (s:Shared) (Q:VK) (u:Value) (s':Shared):Prop :=
 ∃ v H',s'.os=s.os/\AllBare s'.gens/\Un (Bl outer) [] H H' s.heap s'.heap/\HOk P w H' s'.heap/\RelV v u/\Q v H'
noncomputable def CR (CX:B3) (outer:List Env) (P:Program) (w:World) (H:Hp) (s:Shared) (Q:VK) (E:XK) (r:Result) (s':Shared):Prop :=
 match r with
 | .ok (.ret u)=>CE outer P w H s Q u s'
 | .ok _=>False
 | .error e=>CX outer H s E e s'
structure FnOk (P:Program) (w:World) (K:Pd) (mg:Str->Option Value) (base:Heap) (CX:B3) (k:Nat) (f:Addr) (fd:FuncData) (ps:List Str) (sp:Sp):Prop where
 len:∀ vs H Q E,sp vs H Q E->vs.length=ps.length
 run:∀ (A:Around) (outer:List Env) (s:Shared) (H:Hp) (args:Args) (us:List Value) (vs:List V) (Q:VK) (E:XK),Room k A->Env0 P w K mg base A outer s H->BindsTo s fd args (ps.zip us)->Vals vs us->sp vs H Q E ->
  codeAny (model P w) A (.call (.ref f) args) (CR CX outer P w H s Q E) s
theorem FnOk.imp {P:Program} {w:World} {K:Pd} {mg:Str->Option Value} {base:Heap} {CX:B3} {k:Nat} {f:Addr} {fd:FuncData} {ps:List Str} {sp sp':Sp} (F:FnOk P w K mg base CX k f fd ps sp)
  (h:∀ vs H Q E,sp' vs H Q E->sp vs H Q E):FnOk P w K mg base CX k f fd ps sp' :=
 ⟨fun vs H Q E q=>F.len vs H Q E (h _ _ _ _ q),fun A outer s H args us vs Q E hr he hb hv hs=>F.run A outer s H args us vs Q E hr he hb hv (h _ _ _ _ hs)⟩
theorem Env0.make {P:Program} {w:World} {K:Pd} {mg:Str->Option Value} {base:Heap} {A:Around} {outer:List Env} {s:Shared} {H:Hp} (e:Env0 P w K mg base A outer s H) (C:Addr) (us:List Value) (kw:List (Str×Value)) :
  Env0 P w K mg base (A.under (.builtin "type.__call__" ⟨.ref C :: us,kw⟩)) outer s H:=⟨by first | exact e.frames | (simpa [Around.under,Code.envs,Code.isFrame,pushEnvs] using e.frames),e.mod,e.bs,e.bsz,e.funs,e.frf,e.hok,e.bare⟩
section
variable {X:Cx} {pins:List (Addr×Obj)} {σ:St} {H:Hp} {s s':Shared}
theorem Inv.env0 (I:Inv X pins σ H s):Env0 X.prog X.w X.K X.mg X.base X.A X.stack s H :=
 ⟨I.ok.frames,I.ok.mod,I.bs,Qd I.ok.bsz I.sz,I.stack,I.stkFree,I.hok,I.bare⟩
theorem Inv.after {Q:VK} {u:Value} (I:Inv X pins σ H s) (h:CE X.stack X.prog X.w H s Q u s'):EP X pins σ Q u s':=by
 obtain ⟨v,H',os,bare,un,hok,r,q⟩:=h
 obtain ⟨hh,g,d,t,os'⟩:=s'
 obtain rfl:os'=s.os:=os
 exact ⟨v,H',I.call (h':=hh) (g':=g) (d':=d) (t':=t) (ch:=[]) un hok bare (fun b z=>absurd z (by simp)),r,q⟩
end
noncomputable def Kq (sp:Sp) (dvs:List V) (E:XK) (t:TA):TE:=fun σ H Q=>t σ H fun vs H1=>sp (vs++dvs) H1 Q E
noncomputable def Binds (K:Pd) (fd:FuncData) (ps:List Str) (ds:List Value):Prop :=
 ∀ (s:Shared) (us:List Value),K.In s.heap->(us++ds).length=ps.length->BindsTo s fd ⟨us,[]⟩ (ps.zip (us++ds))
theorem Binds.all {K:Pd} {fd:FuncData} {ps:List Str} (h:∀ us:List Value,us.length=ps.length->bindArgs fd ⟨us,[]⟩=pure (ps.zip us)):Binds K fd ps []:=fun s us _ hl=>by
 rw [Qo] at hl ⊢
 exact .of_eq (h us hl)
noncomputable def E2 (CX:B3) (X:Cx) (E:XK):Prop:=∀ (pins:List (Addr×Obj)) (σ:St) (H:Hp) (s:Shared) (e:Value) (s':Shared),Inv X pins σ H s->CX X.stack H s E e s'->X.xe e s'
section
variable {X:Cx} {CX:B3} {k:Nat} {f C:Addr} {fd:FuncData} {ps:List Str} {sp:Sp} {dvs:List V} {ds:List Value} {E:XK} {x m:Str} {p pos apos:Pos} {e o:Expr} {es:List Expr} {ta:TE} {t:TA}
theorem Zbl {pins:List (Addr×Obj)} {σ:St} {H:Hp} {s:Shared} {Q:VK} {us:List Value} {vs:List V} (F:FnOk X.prog X.w X.K X.mg X.base CX k f fd ps sp) (hr:Room k X.A) (hb:Binds X.K fd ps ds) (hd:Vals dvs ds) (hx:E2 CX X E)
  (I:Inv X pins σ H s) (r:Vals vs us) (h:sp (vs++dvs) H Q E):wpAny (model X.prog X.w) X.A (call (.ref f) us) (EP X pins σ Q) X.xe s:=by
 have r2:Vals (vs++dvs) (us++ds):=r.append hd
 have hl:(us++ds).length=ps.length:=by rw [<- r2.length]; exact F.len _ _ _ _ h
 refine wpAny_call (Sx (F.run X.A X.stack s H ⟨us,[]⟩ (us++ds) (vs++dvs) Q E hr I.env0 (hb s us I.kIn hl) r2 h) fun r s' hq=>?_)
 cases r with
 | error e=>exact hx pins σ H s e s' I hq
 | ok fl =>
  cases fl with
  | ret u=>exact I.after hq
  | next=>exact Qc hq
  | brk=>exact Qc hq
  | cont=>exact Qc hq
theorem Zer (F:FnOk X.prog X.w X.K X.mg X.base CX k f fd ps sp) (hr:Room k X.A) (hg:Gl X x) (hm:X.mg x=some (.ref f)) (hk:Ra X.K (.ref f)=true) (hb:Binds X.K fd ps ds) (hd:Vals dvs ds) (hx:E2 CX X E)
  (ha:PA X (e :: es) t) (hdb:(x == ("__debug__" : Str))=false:=by decide) (he:starEach (e :: es) X.env=(false,eval e X.env) :: starEach es X.env:=by rfl) (hpl:(backTo pos (starEach es X.env)).any (·.1)=false:=by rfl) :
  PE X (.Call (.Name x p) (e :: es) [] pos) (Kq sp dvs E t):=by
 intro pins s σ H Q I h
 refine Tg (Ho I hg hm ?_ hdb)
 refine Uu (h₀:=X.base) I.ok.mod.kin hk (Am (ha pos pins s σ H _ I h) fun us s1 zq=>?_) he hpl
 obtain ⟨vs,H1,I1,r,q⟩:=zq
 refine ⟨I1.kIn,?_⟩
 exact Zbl F hr hb hd hx I1 r q
structure Mk (K:Pd) (C f:Addr):Prop where
 makes:Wb K C=true
 init:Qb K (.ref C) "__init__" = some (some (.ref f))
 fn:Ve K (.ref f)=true
 kp:Ra K (.ref C)=true
theorem Zoe {pins:List (Addr×Obj)} {σ:St} {H:Hp} {s:Shared} {Q:VK} {us:List Value} {vs:List V} (M:Mk X.K C f) (F:FnOk X.prog X.w X.K X.mg X.base CX k f fd ps sp) (hr:Room (k + 1) X.A) (hb:Binds X.K fd ps ds) (hd:Vals dvs ds)
  (hx:E2 CX X E) (I:Inv X pins σ H s) (r:Vals vs us)
  (h:∀ x dx,H x=none->H dx=none->dx≠x->sp (.ref x :: (vs++dvs)) (upd (upd H dx (.own x)) x (.ins C dx [])) (fun v H2=>v=.non/\Q (.ref x) H2) E) :
  wpAny (model X.prog X.w) X.A (call (.ref C) us) (EP X pins σ Q) X.xe s:=by
 have hq:=h (s.heap.objs.size + 1) s.heap.objs.size (I.hok.fresh (Vm _)) (I.hok.fresh (Ph _)) (Pw (Uy _))
 have I2:=Inv.made (C:=C) I
 have r2:Vals (V.ref (s.heap.objs.size + 1) :: (vs++dvs)) (Value.ref (s.heap.objs.size + 1) :: (us++ds)):=.cons rfl (r.append hd)
 have hl:(Value.ref (s.heap.objs.size + 1) :: us++ds).length=ps.length:=by
  have e:=r2.length
  rw [F.len _ _ _ _ hq] at e
  exact e.symm
 refine wpAny_call (Zn5 (f:=f) I.kIn M.makes M.init (beq_iff_eq.mp M.fn) (Sx (F.run _ X.stack _ _ ⟨Value.ref (s.heap.objs.size + 1) :: us,[]⟩ (Value.ref (s.heap.objs.size + 1) :: (us++ds)) _ _ E (hr.make C us [])
  (I2.env0.make C us []) (hb _ (Value.ref (s.heap.objs.size + 1) :: us) I2.kIn hl) r2 hq) fun r s' hq'=>?_))
 cases r with
 | error e=>exact hx pins σ _ _ e s' I2 hq'
 | ok fl =>
  cases fl with
  | ret u =>
   obtain ⟨v,H',I3,rv,ev,q3⟩:=I2.after hq'
   subst ev
   exact ⟨rv,⟨V.ref (s.heap.objs.size + 1),H',I3,rfl,q3⟩⟩
  | next=>exact Qc hq'
  | brk=>exact Qc hq'
  | cont=>exact Qc hq'
end
section
variable {X:Cx} {CX:B3} {k:Nat} {f C:Addr} {fd:FuncData} {ps ks:List Str} {sp:Sp} {E:XK} {x m:Str} {p pos apos kpos:Pos} {e o:Expr} {es:List Expr} {kws:List Keyword} {te ta:TE} {t tk:TA} {nm:Option Str}
variable {g:List Value->List Value->List Value} {gV:List V->List V->List V}
end
structure A2 (N P:List Str) (sc:Scope):Prop where
 kind:sc.kind=.function
 co:sc.isCoroutine=false
 gen:sc.isGenerator=false
 nd:N.Nodup
 pre:N.take P.length=P
 par:∀ x∈P,sc.names.lookup x=some .local\/sc.names.lookup x=some .cell
 nofree:∀ y∈sc.names,y.2≠.free
theorem Zfw {kindOf:Str->Option NameKind} {x:Str}:∀ {binds:List (Str×Value)} {m:Str->Option Value},(∀ v,(x,v) ∉ binds)->bindL kindOf binds m x=m x
 | [],_,_=>rfl
 | (n,v) :: r,m,h=>by
  unfold bindL
  rw [Zfw fun w hw=>h w (Rq _ hw)]
  split
  ·have:x≠n:=by rintro rfl; exact h v Ut
   simp [this]
  ·rfl
theorem Zfc {kindOf:Str->Option NameKind} {x:Str}:∀ {binds:List (Str×Value)} {m:Str->Option Value},(∀ v,(x,v) ∉ binds)->bindC kindOf binds m x=m x
 | [],_,_=>rfl
 | (n,v) :: r,m,h=>by
  unfold bindC
  rw [Zfc fun w hw=>h w (Rq _ hw)]
  split
  ·rfl
  ·have:x≠n:=by rintro rfl; exact h v Ut
   simp [this]
theorem Zb6 {kindOf:Str->Option NameKind} {x:Str} {v:Value}:∀ {P:List Str} {vs:List Value} {i:Nat} {m:Str->Option Value},P.Nodup->P[i]?=some x->vs[i]?=some v->kindOf x=some .local ->
  bindL kindOf (P.zip vs) m x=some v
 | [],_,_,_,_,h,_,_=>by simp at h
 | _ :: _,[],_,_,_,_,h,_=>by simp at h
 | p :: P,w :: vs,0,m,nd,h1,h2,hk=>by
  simp at h1 h2; subst h1; subst h2
  show bindL kindOf ((p,w) :: P.zip vs) m p=_
  unfold bindL
  rw [Zfw fun v hv=>(U2.mp nd).1 (Tu hv).1,if_pos hk]
  simp
 | p :: P,w :: vs,i + 1,m,nd,h1,h2,hk=>by
  show bindL kindOf ((p,w) :: P.zip vs) m x=_
  unfold bindL
  exact Zb6 (i:=i) (U2.mp nd).2 (by simpa using h1) (by simpa using h2) hk
theorem Zf1 {kindOf:Str->Option NameKind} {x:Str} {v:Value}:∀ {P:List Str} {vs:List Value} {i:Nat} {m:Str->Option Value},P.Nodup->P[i]?=some x->vs[i]?=some v->kindOf x≠some .local ->
  bindC kindOf (P.zip vs) m x=some v
 | [],_,_,_,_,h,_,_=>by simp at h
 | _ :: _,[],_,_,_,_,h,_=>by simp at h
 | p :: P,w :: vs,0,m,nd,h1,h2,hk=>by
  simp at h1 h2; subst h1; subst h2
  show bindC kindOf ((p,w) :: P.zip vs) m p=_
  unfold bindC
  rw [Zfc fun v hv=>(U2.mp nd).1 (Tu hv).1,if_neg hk]
  simp
 | p :: P,w :: vs,i + 1,m,nd,h1,h2,hk=>by
  show bindC kindOf ((p,w) :: P.zip vs) m x=_
  unfold bindC
  exact Zf1 (i:=i) (U2.mp nd).2 (by simpa using h1) (by simpa using h2) hk
noncomputable def E1 (N:List Str) (vs:List V):St:=vs.map some++Qg (N.length - vs.length) none
noncomputable def Dx (CX:B3) (P:Program) (w:World) (K:Pd) (mg:Str->Option Value) (base:Heap) (N:List Str) (qual:Str) (scope:Scope) (f:Addr) (cd:Value) (A:Around) (outer:List Env) (s:Shared) (H:Hp) (E:XK):Cx where
 prog:=P
 w:=w
 K:=K
 mg:=mg
 base:=base
 A:=A.deeper (envOfC qual scope s.heap.objs.size f cd)
 N:=N
 s₀:=s
 H₀:=H
 env:=envOfC qual scope s.heap.objs.size f cd
 outer:=outer
 stack:=envOfC qual scope s.heap.objs.size f cd :: outer
 ex:=[]
 calm:=true
 fn:=fun _=>true
 pn:=[]
 xe:=fun e s'=>wpAny (model P w) (A.deeper (envOfC qual scope s.heap.objs.size f cd)) (leaving (envOfC qual scope s.heap.objs.size f cd) e) (fun _ s''=>CX outer H s E e s'') (fun e' s''=>CX outer H s E e' s'') s'
theorem Zbe {sc:Scope} {n:Nat} {x:Str} (h:sc.names.lookup x=some .cell):∃ c,(cellsFrom n sc.names []).lookup x=some c:=by
 have q:=PySem.W.cellsFrom_some sc.names n [] (.inl h)
 exact Tc.mp q
theorem Zi9 {CX:B3} {P:Program} {w:World} {K:Pd} {mg:Str->Option Value} {base:Heap} {N ps:List Str} {qual:Str} {scope:Scope} {f:Addr} {cd:Value} {A:Around} {outer:List Env} {s s1:Shared} {H:Hp} {E:XK} {us:List Value} {vs:List V}
  (S:A2 N ps scope) (hd:A.handled=none) (e0:Env0 P w K mg base A outer s H) (hl:vs.length=ps.length) (r:Vals vs us)
  (x:InCallC s s.heap.objs.size (bindL (envOfC qual scope s.heap.objs.size f cd).kindOf (ps.zip us) fun _=>none) (cellsFrom (s.heap.objs.size + 1) scope.names []) (bindC (envOfC qual scope s.heap.objs.size f cd).kindOf (ps.zip us) fun _=>none) s1) :
  Inv (Dx CX P w K mg base N qual scope f cd A outer s H E) [] (E1 N vs) H s1:=by
 have hpl:ps.length<=N.length:=by have:=congrArg Sz S.pre; rw [Qe] at this; omega
 obtain ⟨h1,tk,rfl,hk⟩:=x.done
 have noA:∀ b:Addr,b ∉ (Dx CX P w K mg base N qual scope f cd A outer s H E).ex:=fun b z=>absurd (show b∈([]:List Addr) from z) (by simp)
 refine ⟨⟨e0.mod,S.kind,rfl,rfl,Ph _,fun y z c h1 h2=>?_,fun y hy=>?_,fun y c _ h=>?_,fun _=>hd,Around.frames_deeper e0.frames,.inr ⟨rfl,rfl⟩,fun b z=>absurd z (noA b),e0.bs,e0.bsz,fun b _ _=>noA b,fun b z=>absurd z (noA b),e0.funs,e0.frf⟩,
  rfl,e0.bare,Un.kept hk,⟨_,x.toInCall.ns,fun i y v h1 h2 h3=>?_⟩,fun y c h=>⟨_,x.cell y c h⟩,e0.hok.fresh (Ph _),fun y c h=>?_,fun p hp=>absurd (show p∈([]:List (Addr×Obj)) from hp) (by simp),e0.hok.kept hk,?_⟩
 ·exact name_of_addr x.apart (R3 h1) (R3 h2)
 ·have hy:scope.names.lookup y=some .cell\/scope.names.lookup y=some .free:=hy
  rcases hy with hy | hy
  ·exact Zbe hy
  ·exact absurd rfl (S.nofree _ (R3 hy))
 ·exact T4 (x.above y c (R3 h))
 ·have hi:i < vs.length:=by
   unfold E1 at h2
   by_cases hi:i < vs.length
   ·exact hi
   ·rw [Q2 (by simpa using hi)] at h2
    rw [List.getElem?_replicate] at h2
    split at h2 <;> cases h2
  have ha:vs[i]?=some v:=by
   unfold E1 at h2
   rw [Qa (by simpa using hi),Qh] at h2
   cases e:vs[i]? with
   | none=>rw [e] at h2; cases h2
   | some a=>rw [e] at h2; cases h2; rfl
  obtain ⟨u,hu,rv⟩:=r.get ha
  have hp:ps[i]?=some y:=by
   rw [<- S.pre,List.getElem?_take_of_lt (by omega)]; exact h1
  have ndP:ps.Nodup:=by rw [<- S.pre]; exact S.nd.sublist (List.take_sublist _ _)
  refine ⟨u,rv,?_⟩
  rcases S.par y (Qv hp) with k | k
  ·exact .inl ⟨k,Zb6 ndP hp hu k⟩
  ·obtain ⟨c,e⟩:=Zbe (n:=s.heap.objs.size + 1) k
   refine .inr ⟨.inl k,c,e,?_⟩
   have q:=x.cell y c e
   rw [Zf1 ndP hp hu (by show scope.names.lookup y≠_; rw [k]; decide)] at q
   exact q
 ·exact e0.hok.fresh (T4 (x.above y c (R3 h)))
 ·unfold E1
  show _=N.length
  rw [Pi,Pp,List.length_replicate]
  omega
theorem Zdt {CX:B3} {P:Program} {w:World} {K:Pd} {mg:Str->Option Value} {base:Heap} {k:Nat} {f:Addr} {name qual:Str} {params:Arguments} {body:List Stmt} {scope:Scope} {dV kV doc pm cdv ct oc:Value} {an od:Option Addr}
  {osl:Array (Option Value)} {N ps:List Str} {sp:Sp} (lk:K.lookup f=some ⟨oc,od,.func (Rv name qual params body scope dV kV doc pm an cdv ct),osl⟩) (hcd:PySem.W.codeIn K cdv qual=true) (S:A2 N ps scope)
  (len:∀ vs H Q E,sp vs H Q E->vs.length=ps.length)
  (hbody:∀ (A:Around) (outer:List Env) (s:Shared) (H:Hp) (vs:List V) (Q:VK) (E:XK),Room k (A.deeper (envOfC qual scope s.heap.objs.size f cdv))->sp vs H Q E ->
   ∃ t,PSs (Dx CX P w K mg base N qual scope f cdv A outer s H E) body t/\t { nx:=fun _ H'=>Q .non H',rt:=Q } (E1 N vs) H) :
  FnOk P w K mg base CX (k + 1) f (Rv name qual params body scope dV kV doc pm an cdv ct) ps sp:=by
 refine ⟨len,fun A outer s H args us vs Q E hr e0 hb r hsp=>?_⟩
 have hl:=len _ _ _ _ hsp
 have KX:K.In s.heap:=e0.mod.kin.keeps fun b o e=>(e0.bs b o e).1
 have lim:s.heap.NoLimit:=e0.mod.nolimit.keeps fun b o e=>(e0.bs b o e).1
 have hkind:∀ y∈ps.zip us,scope.names.lookup y.1=some .local\/(scope.names.lookup y.1=some .cell/\((cellsFrom (s.heap.objs.size + 1) scope.names []).lookup y.1).isSome=true):=fun ⟨n,v⟩ hy=>by
  rcases S.par n (Tu hy).1 with q | q
  ·exact .inl q
  ·exact .inr ⟨q,PySem.W.cellsFrom_some _ _ _ (.inl q)⟩
 refine codeAny_call_function hr.depth (KX _ _ lk) rfl S.co S.gen rfl (PySem.W.codeRec_of KX hcd) (hb _ _ _ _ ?_)
 refine wpAny_newFunctionEnv_cells S.kind hkind fun env he s1 x=>?_
 subst he
 refine ⟨lim.keeps x.toInCall.keep,codeAny_func ?_⟩
 obtain ⟨t,ht,hq⟩:=hbody A outer s H vs Q E (hr.deeper _) hsp
 have I:Inv (Dx CX P w K mg base N qual scope f cdv A outer s H E) [] (E1 N vs) H s1:=Zi9 S hr.hd e0 hl r x
 refine Rf (ht [] s1 (E1 N vs) H _ I hq) (fun fl s' hs=>?_) fun e s' hs=>hs
 have fin:∀ {σ':St} {H':Hp} {v:V} {u:Value},Inv (Dx CX P w K mg base N qual scope f cdv A outer s H E) [] σ' H' s'->RelV v u->Q v H'->CE outer P w H s Q u s' :=
  fun {σ' H' v u} J rv q=>⟨v,H',J.os,J.bare,J.base,J.hok,rv,q⟩
 cases fl with
 | ret u =>
  obtain ⟨v,σ',H',J,rv,q⟩:=hs
  exact fin J rv q
 | next =>
  obtain ⟨σ',H',J,q⟩:=hs
  exact fin (v:=V.non) (u:=Value.none) J rfl q
 | brk =>
  obtain ⟨_,_,_,q⟩:=hs
  exact Qc q
 | cont =>
  obtain ⟨_,_,_,q⟩:=hs
  exact Qc q
end L2
namespace L2
open PySem PySem.Spec PyProof.Rows
section
variable {X:Cx} {x:Str} {p pos:Pos} {e:Expr} {es:List Expr} {t:TA} {id T:String} {r:List V->Hp->VK->Prop}
noncomputable def tCB (r:List V->Hp->VK->Prop) (t:TA):TE:=fun σ H Q=>t σ H fun vs H1=>r vs H1 Q
theorem Zk1 (hc:Cv X (.builtin id) r) (hg:Gl X x) (hm:X.mg x=none) (hv:bootBuiltins x=some (.builtin id)) (ha:PA X (e :: es) t) (hn:x ≠ "__name__" := by decide) (hdb:(x == ("__debug__" : Str))=false:=by decide)
  (he:starEach (e :: es) X.env=(false,eval e X.env) :: starEach es X.env:=by rfl) (hpl:(backTo pos (starEach es X.env)).any (·.1)=false:=by rfl):PE X (.Call (.Name x p) (e :: es) [] pos) (tCB r t):=by
 intro pins s σ H Q I h
 refine Tg (Fc I hg hm hv ?_ hn hdb)
 exact PyProof.Rows.callWith_builtin1 (Am (ha pos pins s σ H _ I h) fun us s1 ⟨vs,H1,I1,r1,q1⟩=>hc pins s1 σ H1 vs us Q I1 r1 q1) he hpl
theorem Zh8 (hc:Cv X (.type T) r) (hg:Gl X x) (hm:X.mg x=none) (hv:bootBuiltins x=some (.type T)) (ha:PA X (e :: es) t) (hn:x ≠ "__name__" := by decide) (hdb:(x == ("__debug__" : Str))=false:=by decide)
  (he:starEach (e :: es) X.env=(false,eval e X.env) :: starEach es X.env:=by rfl) (hpl:(backTo pos (starEach es X.env)).any (·.1)=false:=by rfl):PE X (.Call (.Name x p) (e :: es) [] pos) (tCB r t):=by
 intro pins s σ H Q I h
 refine Tg (Fc I hg hm hv ?_ hn hdb)
 exact Rw (Am (ha pos pins s σ H _ I h) fun us s1 ⟨vs,H1,I1,r1,q1⟩=>hc pins s1 σ H1 vs us Q I1 r1 q1) he hpl
end
end L2
namespace HT
open PySem PyProof.Rows
section
open PySem.SeqAt
open PySem.AutoSeq1 (wpAny_loadPart')
open PySem.MeetsSeq PySem.MeetsSeq2 PySem.MeetsSeq3
end
section
variable {prog:Program} {w:World} {A:Around} {E:Value->Shared->Prop} {s:Shared}
theorem cat_tup {t b:Addr} {vs ws:List Value} {Q:Value->Shared->Prop} (ht:IsTup s.heap t vs.toArray) (hb:IsTup s.heap b ws.toArray) (hv:vs≠[])
  (h1:ws=[]->Q (.ref t) s) (h2:ws≠[]->Q (.ref s.heap.objs.size) { s with heap:=s.heap.push { cls:=.type "tuple",data:=.seq (vs++ws).toArray } })
  (hsz:vs.length + ws.length<=sizeLine):wpAny (model prog w) A (binaryOp .Add (.ref t) (.ref b)) Q E s:=by
 obtain ⟨⟨cls,dd,data,sl⟩,ho,hc,n,hd⟩:=id ht
 obtain ⟨⟨cls2,dd2,data2,sl2⟩,ho2,hc2,n2,hd2⟩:=id hb
 simp only at hc hd hc2 hd2
 subst hc hd hc2 hd2
 have e:vs.toArray++ws.toArray=(vs++ws).toArray:=by simp
 by_cases hw:ws=[]
 ·exact Vf ⟨_,ho,rfl⟩ ⟨_,ho2,rfl⟩ Uz Va Um Uj (Ug _ _)
   (tuple_addW1 t b vs.toArray ws.toArray n n2 dd dd2 sl sl2 (by simpa using hv) (by simp [hw])) ⟨ho,ho2,h1 hw⟩
 ·refine Vf ⟨_,ho,rfl⟩ ⟨_,ho2,rfl⟩ Uz Va Um Uj (Ug _ _)
   (tuple_addW2 t b vs.toArray ws.toArray n n2 dd dd2 sl sl2 (by simpa using hv) (by simpa using hw) (by rw [Pk,Pk]; exact hsz)) ⟨ho,ho2,?_⟩
  rw [e]
  exact h2 hw
noncomputable def sIx (n d:Nat):Option Int->Nat
 | none=>d
 | some v=>if v < 0 then (v + (n:Int)).toNat else min v.toNat n
theorem sIx_none (n d:Nat):sIx n d none=d:=rfl
theorem sIx_nat (n d k:Nat):sIx n d (some (k:Int))=min k n:=by
 show (if (k:Int) < 0 then ((k:Int) + (n:Int)).toNat else min (k:Int).toNat n)=min k n
 rw [if_neg (by omega),Q7]
theorem Zpu (n d:Nat) (hd:d<=n) (o:Option Int):sIx n d o<=n:=by
 cases o with
 | none=>exact hd
 | some v =>
  show (if v < 0 then (v + (n:Int)).toNat else min v.toNat n)<=n
  by_cases hv:v < 0
  ·rw [if_pos hv]; omega
  ·rw [if_neg hv]; exact Nat.min_le_right _ _
theorem Zex (v:Int) (n d:Nat):(if v < 0 then max (v + (n:Int)) 0 else min v (n:Int))=((sIx n d (some v):Nat):Int):=by
 show (if v < 0 then max (v + (n:Int)) 0 else min v (n:Int))=(((if v < 0 then (v + (n:Int)).toNat else min v.toNat n):Nat):Int)
 by_cases hv:v < 0
 ·simp only [if_pos hv]; omega
 ·simp only [if_neg hv]; omega
theorem Zi5 (lo hi:Option Int) (n:Nat):Vq lo hi 1 (n:Int)=(((sIx n 0 lo:Nat):Int),((sIx n n hi:Nat):Int)):=by
 have h1:¬ ((1:Int) < 0):=by omega
 unfold Vq
 simp only [h1,if_false]
 refine Prod.ext ?_ ?_
 ·cases lo with
  | none=>rfl
  | some v=>exact Zex v n 0
 ·cases hi with
  | none=>rfl
  | some v=>exact Zex v n n
theorem Zq1 (i j:Nat):Ue (i:Int) (j:Int) 1=j - i:=by
 unfold Ue
 have h1:(1:Int) > 0:=by omega
 simp only [h1,if_true,Int.ediv_one]
 split <;> omega
theorem Zfl {v:Value} {o:Option Int} {Q:Option Int->Shared->Prop} (p:IsPart v o) (h:Q o s):wpAny (model prog w) A (Builtin.Slice.slicePartIndex v) Q E s:=by
 cases p with
 | none=>exact slicePart_none h
 | int i t=>exact slicePart_int h
theorem sliceApplied_gen {sl:Addr} {vl vu:Value} {lo hi:Option Int} {n:Nat} {Q:Int×Int×Nat->Shared->Prop} (hs:s.heap.IsSliceOf sl vl vu .none) (pl:IsPart vl lo) (pu:IsPart vu hi)
  (h:Q (((sIx n 0 lo:Nat):Int),1,sIx n n hi - sIx n 0 lo) s):wpAny (model prog w) A (Builtin.Slice.sliceApplied (.ref sl) (pure (n:Int))) Q E s:=by
 obtain ⟨os,hos,hcs,hds⟩:=id hs
 unfold Builtin.Slice.sliceApplied Builtin.Slice.sliceFields
 refine Pe (Pe (Pu hos hds (x:=vl) rfl (Pe (Pu hos hds (x:=vu) rfl (Pe (Pu hos hds (x:=.none) rfl (Pf ?_)))))))
 refine Pe (slicePart_none ?_)
 show wpAny _ _ (if ((1:Int) == 0)=true then _ else _) _ _ s
 rw [if_neg (by decide)]
 refine Pe (Zfl pl (Pe (Zfl pu (Pe (Pf ?_)))))
 show wpAny _ _ (match Vq lo hi 1 (n:Int) with | (lo,hi)=>pure (lo,(1:Int),Ue lo hi 1)) _ _ s
 rw [Zi5 lo hi n]
 show wpAny _ _ (pure (((sIx n 0 lo:Nat):Int),(1:Int),Ue ((sIx n 0 lo:Nat):Int) ((sIx n n hi:Nat):Int) 1)) _ _ s
 rw [Zq1]
 exact Pf h
theorem Ziv (xs:Array Value) (i k:Nat):((P3 k).filterMap fun (m:Nat)=>xs[((i:Int) + (m:Int) * 1).toNat]?).toArray=((xs.toList.drop i).take k).toArray:=by
 have e:(fun (m:Nat)=>xs[((i:Int) + (m:Int) * 1).toNat]?)=fun m=>xs[i + m]?:=by
  funext m
  have:((i:Int) + (m:Int) * 1).toNat=i + m:=by omega
  rw [this]
 rw [e]
 have:=pick_run xs i k
 rw [List.filterMap_map] at this
 have e2:((fun x=>xs[x]?) ∘ fun x=>i + x)=fun m=>xs[i + m]?:=rfl
 rw [e2] at this
 rw [this]
theorem getItem_tuple_cut {t sl:Addr} {items:Array Value} {vl vu:Value} {lo hi:Option Int} {Q:Value->Shared->Prop} (ht:IsTup s.heap t items) (hs:s.heap.IsSliceOf sl vl vu .none) (pl:IsPart vl lo) (pu:IsPart vu hi)
  (hw:¬ (sIx items.size 0 lo=0/\sIx items.size items.size hi=items.size))
  (h:Q (.ref s.heap.objs.size) { s with heap:=s.heap.push { cls:=.type "tuple",data:=.seq ((items.toList.drop (sIx items.size 0 lo)).take (sIx items.size items.size hi - sIx items.size 0 lo)).toArray } })
  (hsz:items.size<=sizeLine):wpAny (model prog w) A (getItem (.ref t) (.ref sl)) Q E s:=by
 have htake:sizeOk (.seq ((items.toList.drop (sIx items.size 0 lo)).take (sIx items.size items.size hi - sIx items.size 0 lo)).toArray):=by
  show ((items.toList.drop (sIx items.size 0 lo)).take (sIx items.size items.size hi - sIx items.size 0 lo)).toArray.size<=sizeLine
  rw [Pk,Qe,Se,Ur]
  omega
 have hj:sIx items.size items.size hi<=items.size:=Zpu _ _ (Ph _) hi
 obtain ⟨os,hos,hcs,hds⟩:=id hs
 have hTs:s.TypeIs (.ref sl) "slice" := ⟨os,hos,hcs⟩
 unfold getItem
 try with_reducible refine Rm ?_
 first | refine Pe (Pf ?_) | skip
 refine Pe (wpAny_sequenceKey ht.typeIs (by decide) ?_)
 refine Pe (Q3 (name:=Qs "__getitem__") ht.typeIs Sa
  (Q8 Sa ht.typeIs entry_tuple_getitem ?_ (args_tuple_getitem _ _)))
 show wpAny _ _ (Builtin.Tuple.tupleItemsOf (.ref t) >>= _) _ _ s
 refine Pe (tupleItemsOf_ ht ?_)
 refine Pe (Sy hTs ?_)
 rw [if_pos (by decide)]
 refine Pe (sliceApplied_gen hs pl pu ?_)
 have hno:¬ ((((sIx items.size 0 lo:Nat):Int) == 0 && (1:Int) == 1 && (sIx items.size items.size hi - sIx items.size 0 lo) == items.size)=true):=by
  intro q
  rw [Rk,Rk] at q
  have q1:((sIx items.size 0 lo:Nat):Int)=0:=eq_of_beq q.1.1
  have q2:sIx items.size items.size hi - sIx items.size 0 lo=items.size:=eq_of_beq q.2
  exact hw ⟨by omega,by omega⟩
 show wpAny _ _ (if (((sIx items.size 0 lo:Nat):Int) == 0 && (1:Int) == 1 && (sIx items.size items.size hi - sIx items.size 0 lo) == items.size)=true then _ else _) _ _ s
 rw [if_neg hno,Ziv]
 first
  | exact Pe (m:=Uh _) (Rr (Pf ⟨_,rfl,Pf h⟩) htake)
  | exact Pe (m:=Uh _) (Rr (Pe (Pf (Pf ⟨_,rfl,Pf h⟩))) htake)
  | exact Pe (Pe (m:=Uh _) (Rr (Pf (Pf ⟨_,rfl,Pf h⟩)) htake))
  | exact Pe (Pe (m:=Uh _) (Rr (Pf ⟨_,rfl,Pf h⟩) htake))
end
end HT
namespace L2
open PySem PySem.Spec PyProof.Rows
noncomputable abbrev TO:=St->Hp->(Option Int->Hp->Prop)->Prop
noncomputable def PO (X:Cx) (e:Option Expr) (t:TO):Prop :=
 ∀ (pins:List (Addr×Obj)) (s:Shared) (σ:St) (H:Hp) (Q:Option Int->Hp->Prop),Inv X pins σ H s->t σ H Q ->
  wpAny (model X.prog X.w) X.A (evalPart e X.env) (fun u s'=>∃ o H',Inv X pins σ H' s'/\IsPart u o/\Q o H') X.xe s
noncomputable def Pb:TO:=fun _ H Q=>Q none H
noncomputable def Zaq (t:TE):TO:=fun σ H Q=>t σ H fun x H1=>∃ i,x=.int i/\Q (some i) H1
section
variable {X:Cx} {e:Expr} {te:TE} {lo hi:Option Expr} {tl th:TO} {pos p2:Pos}
theorem Zhz:PO X none Pb:=by
 intro pins s σ H Q I h
 rw [evalPart_none]
 exact Pf ⟨none,H,I,.none,h⟩
theorem Zki (h:PE X e te):PO X (some e) (Zaq te):=by
 intro pins s σ H Q I hw
 rw [evalPart_some]
 refine Am (h pins s σ H _ I hw) fun u s1 zq=>?_
 obtain ⟨x,H1,I1,r1,q1⟩:=zq
 obtain ⟨i,rfl,q⟩:=q1
 obtain ⟨t,rfl⟩:=r1
 exact ⟨some i,H1,I1,.int i t,q⟩
noncomputable def SlR (X:Cx) (r:V->Option Int->Option Int->Hp->VK->Prop):Prop :=
 ∀ (pins:List (Addr×Obj)) (s:Shared) (σ:St) (H:Hp) (x:V) (v vl vu:Value) (lo hi:Option Int) (sl:Addr) (Q:VK),Inv X pins σ H s->RelV x v->s.heap.IsSliceOf sl vl vu .none->IsPart vl lo->IsPart vu hi->r x lo hi H Q ->
  ∃ T id,typeLookup (.type T) "__getitem__" = pure (some (.builtin id))/\s.TypeIs v T/\wpAny (model X.prog X.w) X.A (getItem v (.ref sl)) (EP X pins σ Q) X.xe s
theorem SlR.or {r r':V->Option Int->Option Int->Hp->VK->Prop} (h:SlR X r) (h':SlR X r'):SlR X (fun x lo hi H Q=>r x lo hi H Q\/r' x lo hi H Q):=by
 intro pins s σ H x v vl vu lo hi sl Q I rx hs pl pu q
 rcases q with q | q
 ·exact h pins s σ H x v vl vu lo hi sl Q I rx hs pl pu q
 ·exact h' pins s σ H x v vl vu lo hi sl Q I rx hs pl pu q
noncomputable def tSl (r:V->Option Int->Option Int->Hp->VK->Prop) (te:TE) (tl th:TO):TE:=fun σ H Q=>te σ H fun x H1=>tl σ H1 fun l H2=>th σ H2 fun u H3=>r x l u H3 Q
theorem Zqh {r:V->Option Int->Option Int->Hp->VK->Prop} (hr:SlR X r) (he:PE X e te) (hl:PO X lo tl) (hu:PO X hi th):PE X (.Subscript e (.Slice lo hi none p2) pos) (tSl r te tl th):=by
 intro pins s σ H Q I h
 refine Subscript_ (Am (he pins s σ H _ I h) fun v s1 zq=>?_)
 obtain ⟨x,H1,I1,r1,q1⟩:=zq
 refine wpAny_Slice (Am (hl pins s1 σ H1 _ I1 q1) fun vl s2 zq=>?_)
 obtain ⟨l,H2,I2,pl,q2⟩:=zq
 refine Am (hu pins s2 σ H2 _ I2 q2) fun vu s3 zq=>?_
 obtain ⟨u,H3,I3,pu,q3⟩:=zq
 rw [evalPart_none]
 refine Pf ?_
 have I4:Inv X pins σ H3 { s3 with heap:=s3.heap.push { cls:=.type "slice",data:=.fields #[vl,vu,.none] } }:=I3.kept (t':=s3.toks) fun b ob q=>Pj _ q
 obtain ⟨T,id,hT,ht,hg⟩:=hr pins { s3 with heap:=s3.heap.push { cls:=.type "slice",data:=.fields #[vl,vu,.none] } } σ H3 x v vl vu l u s3.heap.objs.size Q I4 r1 (Heap.IsSliceOf.new ..) pl pu q3
 show wpAny (model X.prog X.w) X.A (subscriptTail e (.Slice lo hi none p2) v (.ref s3.heap.objs.size)) (EP X pins σ Q) X.xe { s3 with heap:=s3.heap.push { cls:=.type "slice",data:=.fields #[vl,vu,.none] } }
 exact tail_any (ops:=[.ref s3.heap.objs.size,v]) ht hT hg (by with_unfolding_all rfl)
noncomputable def B0 (xs:List V) (lo hi:Option Int):List V:=(xs.drop (HT.sIx xs.length 0 lo)).take (HT.sIx xs.length xs.length hi - HT.sIx xs.length 0 lo)
theorem Ze8 (xs:List V) (lo hi:Option Int):(B0 xs lo hi).length<=xs.length:=by
 unfold B0
 rw [Qe,Se]
 omega
noncomputable def rSlT (K:Pd):V->Option Int->Option Int->Hp->VK->Prop:=fun x lo hi H Q=>∃ a xs,x=.ref a/\SqT K H a xs /\
 ¬ (HT.sIx xs.length 0 lo=0/\HT.sIx xs.length xs.length hi=xs.length)/\∀ p,H p=none->Q (.ref p) (upd H p (.tup (B0 xs lo hi)))
theorem Zck:SlR X (rSlT X.K):=by
 intro pins s σ H x v vl vu lo hi sl Q I rx hs pl pu h
 obtain ⟨a,xs,rfl,hx,hw,q⟩:=h
 cases rx
 obtain ⟨its,r,ht,hz⟩:=I.tuple hx
 have hlen:its.toArray.size=xs.length:=by rw [Pk]; exact r.length.symm
 refine ⟨"tuple",_,Sa.lookup,ht.typeIs,?_⟩
 refine HT.getItem_tuple_cut ht hs pl pu (by rw [hlen]; exact hw) ?_ (by rw [hlen]; exact hz)
 rw [hlen]
 refine ⟨.ref s.heap.objs.size,_,I.laid (t':=s.toks) (o:=.tup (B0 xs lo hi)) (fun b ob q=>Pj _ q) (Ph _) ?_,rfl,q _ (I.hok.fresh (Ph _))⟩
 exact ⟨Qd (Ze8 xs lo hi) hz,_,(r.drop (HT.sIx xs.length 0 lo)).take (HT.sIx xs.length xs.length hi - HT.sIx xs.length 0 lo),IsTup.new _ _⟩
noncomputable def Zlx (K:Pd):R2:=fun x y H Q=>∃ a b xs ys,x=.ref a/\y=.ref b/\SqT K H a xs/\SqT K H b ys/\xs≠[]/\xs.length + ys.length<=sizeLine /\
 (ys=[]->Q (.ref a) H)/\(ys≠[]->∀ p,H p=none->Q (.ref p) (upd H p (.tup (xs++ys))))
theorem Vals.nil_iff {xs:List V} {us:List Value} (r:Vals xs us):us=[]↔xs=[]:=by
 cases r with
 | nil=>simp
 | cons _ _=>simp
theorem Zdn:OpR X (binaryOp .Add) (Zlx X.K):=by
 intro pins s σ H x y v u Q I rx ry h
 obtain ⟨a,b,xs,ys,rfl,rfl,ha,hb,hx,hz,q1,q2⟩:=h
 cases rx
 cases ry
 obtain ⟨its,r1,p1,_⟩:=I.tuple ha
 obtain ⟨its2,r2,p2,_⟩:=I.tuple hb
 refine HT.cat_tup p1 p2 (fun z=>hx (r1.nil_iff.mp z)) (fun z=>⟨.ref a,H,I,rfl,q1 (r2.nil_iff.mp z)⟩) (fun z=>?_) (by rw [<- r1.length,<- r2.length]; exact hz)
 refine ⟨.ref s.heap.objs.size,_,I.laid (t':=s.toks) (o:=.tup (xs++ys)) (fun b ob q=>Pj _ q) (Ph _) ?_,rfl,q2 (fun w=>z (r2.nil_iff.mpr w)) _ (I.hok.fresh (Ph _))⟩
 exact ⟨by rw [Pi]; exact hz,_,r1.append r2,IsTup.new _ _⟩
end
end L2
namespace L2
open PySem PySem.Spec PyProof.Rows
noncomputable def Fm (n:Nat) (i:Int):Option Nat:=if 0<=i then (if i < n then some i.toNat else none) else if -(n:Int)<=i then some (i + n).toNat else none
noncomputable def Cf {α:Type} (xs:List α) (i:Int):Option α:=(Fm xs.length i).bind fun j=>xs[j]?
theorem Zh9 {n:Nat} {i:Int} {j:Nat} (h:Fm n i=some j):seqIndex? i n=some j/\j < n/\-(n:Int)<=i/\i < n:=by
 unfold Fm at h
 by_cases h0:0<=i
 ·rw [if_pos h0] at h
  by_cases h1:i < n
  ·rw [if_pos h1] at h
   have e:i.toNat=j:=Qi h
   exact ⟨by rw [seqIndex_of h0 h1,e],by omega,by omega,h1⟩
  ·rw [if_neg h1] at h; cases h
 ·rw [if_neg h0] at h
  by_cases h1:-(n:Int)<=i
  ·rw [if_pos h1] at h
   have e:(i + n).toNat=j:=Qi h
   exact ⟨by rw [seqIndex_neg (by omega) h1,e],by omega,h1,by omega⟩
  ·rw [if_neg h1] at h; cases h
theorem Za5 {α:Type} {xs:List α} {i:Int} {v:α} (h:Cf xs i=some v):∃ j,seqIndex? i xs.length=some j/\xs[j]?=some v/\j < xs.length/\-(xs.length:Int)<=i/\i < xs.length:=by
 unfold Cf at h
 cases e:Fm xs.length i with
 | none=>rw [e] at h; cases h
 | some j =>
  rw [e] at h
  obtain ⟨h1,h2,h3,h4⟩:=Zh9 e
  exact ⟨j,h1,h,h2,h3,h4⟩
theorem Bh {α:Type} {xs:List α} {j:Nat} {v:α} (h:xs[j]?=some v):Cf xs (j:Int)=some v:=by
 have hj:j < xs.length:=(Pq.mp h).1
 have e:Fm xs.length (j:Int)=some j:=by
  unfold Fm
  rw [if_pos (by omega),if_pos (by omega)]; simp
 unfold Cf; rw [e]; exact h
noncomputable def Nn (b:Expr):Prop:=∀ o i,subscripted b false o i=operate [o,i] (getItem o i)
noncomputable def IxR (X:Cx) (r:R2):Prop :=
 ∀ (value slice:Expr) (pins:List (Addr×Obj)) (s:Shared) (σ:St) (H:Hp) (x y:V) (v u:Value) (Q:VK),Inv X pins σ H s->RelV x v->RelV y u->r x y H Q ->
  subscripted slice false v u=operate [v,u] (getItem v u)->wpAny (model X.prog X.w) X.A (subscriptTail value slice v u) (EP X pins σ Q) X.xe s
noncomputable def G5 (X:Cx) (id:String) (r:V->List V->Hp->VK->Prop):Prop :=
 ∀ (pins:List (Addr×Obj)) (s:Shared) (σ:St) (H:Hp) (x:V) (xs:List V) (v:Value) (us:List Value) (Q:VK),Inv X pins σ H s->RelV x v->Vals xs us->r x xs H Q ->
  wpAny (model X.prog X.w) X.A (call (.builtin id) (v :: us)) (EP X pins σ Q) X.xe s
section
variable {X:Cx} {a b:Expr} {ta tb:TE} {pos:Pos}
theorem IxR.or {r r':R2} (h:IxR X r) (h':IxR X r'):IxR X (fun x y H Q=>r x y H Q\/r' x y H Q):=by
 intro value slice pins s σ H x y v u Q I rx ry q hs
 rcases q with q | q
 ·exact h value slice pins s σ H x y v u Q I rx ry q hs
 ·exact h' value slice pins s σ H x y v u Q I rx ry q hs
theorem Zmh {r:R2} (hr:IxR X r) (ha:PE X a ta) (hb:PE X b tb) (hs:Nn b):PE X (.Subscript a b pos) (Ev r ta tb):=by
 intro pins s σ H Q I h
 exact Subscript_ (Zaj ha hb I h fun v u s2 x y H2 I2 rx ry q=>hr a b pins s2 σ H2 x y v u Q I2 rx ry q (hs _ _))
noncomputable def rIxL (K:Pd):R2:=fun x y H Q=>∃ p xs i v,x=.ref p/\y=.int i/\SqL K H p xs/\Cf xs i=some v/\Q v H
noncomputable def rIxT (K:Pd):R2:=fun x y H Q=>∃ p xs i v,x=.ref p/\y=.int i/\SqT K H p xs/\Cf xs i=some v/\Q v H
noncomputable def rIxS:R2:=fun x y H Q=>∃ z i c,x=.str z/\y=.int i/\z.length<=sizeLine/\Cf z.cps.toList i=some c/\Q (.str ⟨#[c]⟩) H
theorem ix_list:IxR X (rIxL X.K):=by
 intro value slice pins s σ H x y v u Q I rx ry h hs
 obtain ⟨p,xs,i,z,rfl,rfl,hq,he,q⟩:=h
 cases rx
 obtain ⟨t,rfl⟩:=ry
 obtain ⟨its,r,pl,hz⟩:=I.list hq
 obtain ⟨j,h1,h2,h3,h4,h5⟩:=Za5 he
 obtain ⟨w,ew,rw'⟩:=r.get h2
 have hl:=r.length
 have hn:=Jr
 have fin:EP X pins σ Q w s:=⟨z,H,I,rw',q⟩
 by_cases h0:0<=i
 ·have hj:i.toNat=j:=by
   rw [seqIndex_of h0 h5] at h1
   exact Qi h1
  exact item_listR pl.isList h0 (by omega) (by rw [hj]; simpa using ew) fin hs
 ·have hj:(i + (its.toArray.size:Int)).toNat=j:=by
   rw [seqIndex_neg (by omega) h4] at h1
   rw [Pk,<- hl]
   exact Qi h1
  exact subscriptTail_builtinR (x:=w) pl.isList.typeIs slot_list_getitem.lookup
   (wpAny_getItem_list_neg (Q:=fun r s'=>r=w/\EP X pins σ Q r s') pl.isList (by omega) (by rw [Pk] <;> omega) (by omega) (by rw [hj]; simpa using ew) ⟨rfl,fin⟩) hs
theorem ix_tup:IxR X (rIxT X.K):=by
 intro value slice pins s σ H x y v u Q I rx ry h hs
 obtain ⟨p,xs,i,z,rfl,rfl,hq,he,q⟩:=h
 cases rx
 obtain ⟨t,rfl⟩:=ry
 obtain ⟨its,r,pl,hz⟩:=I.tuple hq
 obtain ⟨j,h1,h2,h3,h4,h5⟩:=Za5 he
 obtain ⟨w,ew,rw'⟩:=r.get h2
 have hl:=r.length
 have hn:=Jr
 have fin:EP X pins σ Q w s:=⟨z,H,I,rw',q⟩
 exact subscriptTail_builtinR (x:=w) pl.typeIs slot_tuple_getitem.lookup
  (getItem_tuple (j:=j) (Q:=fun r s'=>r=w/\EP X pins σ Q r s') pl (by omega) (by omega) (by rw [Pk,<- hl]; exact h1) (by simpa using ew) ⟨rfl,fin⟩) hs
theorem Zhr:IxR X rIxS:=by
 intro value slice pins s σ H x y v u Q I rx ry h hs
 obtain ⟨z,i,c,rfl,rfl,hz,he,q⟩:=h
 obtain ⟨t,rfl⟩:=rx
 obtain ⟨t',rfl⟩:=ry
 obtain ⟨j,h1,h2,h3,h4,h5⟩:=Za5 he
 have hl:z.cps.toList.length=z.length:=by simp [Str.length]
 rw [hl] at h1 h4 h5
 have hn:=Jr
 exact tail_any (typeIs_str s z t) slot_str_getitem.lookup (getItem_str (c:=c) (by
  have e1:decide (i < -(2 ^ 63:Int))=false:=decide_eq_false (by omega)
  have e2:decide (i ≥ 2 ^ 63)=false:=decide_eq_false (by omega)
  rw [e1,e2,Bool.or_false]) (by rw [h1]; simpa using h2) ⟨.str ⟨#[c]⟩,H,I.tok _,⟨_,rfl⟩,q⟩) hs
noncomputable def Ii (K:Pd):R2:=fun x y H Q=>rIxL K x y H Q\/rIxT K x y H Q\/rIxS x y H Q
theorem Zms:IxR X (Ii X.K):=ix_list.or (ix_tup.or Zhr)
theorem Zp8 (lo hi:Option Int) (n:Nat):(sliceBounds lo hi none n).1=((HT.sIx n 0 lo:Nat):Int)/\(sliceBounds lo hi none n).2.1=((HT.sIx n n hi:Nat):Int)/\(sliceBounds lo hi none n).2.2=1:=by
 refine ⟨?_,?_,rfl⟩
 ·cases lo with
  | none=>simp [sliceBounds,HT.sIx]
  | some i =>
   simp only [sliceBounds,HT.sIx,Option.getD_none,show (1:Int) > 0 by decide,if_true]
   by_cases h:i < 0
   ·simp only [h,if_true] <;> omega
   ·simp only [h,if_false] <;> omega
 ·cases hi with
  | none=>simp [sliceBounds,HT.sIx]
  | some i =>
   simp only [sliceBounds,HT.sIx,Option.getD_none,show (1:Int) > 0 by decide,if_true]
   by_cases h:i < 0
   ·simp only [h,if_true] <;> omega
   ·simp only [h,if_false] <;> omega
theorem Zky (its:List Value) (lo hi:Option Int):slicePick its.toArray lo hi none=((its.drop (HT.sIx its.length 0 lo)).take (HT.sIx its.length its.length hi - HT.sIx its.length 0 lo)).toArray:=by
 obtain ⟨h1,h2,h3⟩:=Zp8 lo hi its.toArray.size
 unfold slicePick
 rw [h1,h2,h3]
 simp only [sliceRange_one,pick_run,Pk] <;> rfl
noncomputable def N2 (K:Pd):V->Option Int->Option Int->Hp->VK->Prop:=fun x lo hi H Q=>∃ a xs,x=.ref a/\SqL K H a xs/\∀ p,H p=none->Q (.ref p) (upd H p (.lst (B0 xs lo hi)))
theorem sl_list:SlR X (N2 X.K):=by
 intro pins s σ H x v vl vu lo hi sl Q I rx hs pl pu h
 obtain ⟨a,xs,rfl,hx,q⟩:=h
 cases rx
 obtain ⟨its,r,ht,hz⟩:=I.list hx
 have hlen:=r.length
 refine ⟨"list",_,slot_list_getitem.lookup,ht.isList.typeIs,?_⟩
 refine wpAny_getItem_list_slice ht.isList hs pl pu .none (by simp) ?_ (by rw [Pk] <;> omega)
 rw [Zky,<- hlen]
 refine ⟨.ref s.heap.objs.size,_,I.laid (t':=s.toks) (o:=.lst (B0 xs lo hi)) (fun b ob q=>Pj _ q) (Ph _) ?_,rfl,q _ (I.hok.fresh (Ph _))⟩
 exact ⟨Qd (Ze8 xs lo hi) hz,_,0,(r.drop (HT.sIx xs.length 0 lo)).take (HT.sIx xs.length xs.length hi - HT.sIx xs.length 0 lo),Py _ rfl⟩
noncomputable def Cb:V->Bool
 | .non=>true
 | .bl _=>true
 | .int _=>true
 | .str _=>true
 | _=>false
noncomputable def D0:V->V->Bool
 | .non,.non=>true
 | .bl a,.bl b=>a == b
 | .bl a,.int b=>(if a then 1 else 0) == b
 | .int a,.bl b=>a == (if b then 1 else 0)
 | .int a,.int b=>a == b
 | .str a,.str b=>a == b
 | _,_=>false
theorem O1 {A:Around} {s:Shared} {y x:V} {u v:Value} (ry:RelV y u) (rx:RelV x v) (fy:Cb y=true) (fx:Cb x=true):Pz A s u v (D0 y x):=by
 cases y with
 | non =>
  cases ry
  cases x with
  | non=>cases rx; exact Wc _
  | bl b=>cases rx; exact Pz.none_bool b
  | int b=>obtain ⟨t,rfl⟩:=rx; exact Pz.none_int b t
  | str b=>obtain ⟨t,rfl⟩:=rx; exact Pz.none_str b t
  | _=>exact absurd (show false=true from fx) Po
 | bl a =>
  cases ry
  cases x with
  | non=>cases rx; exact Pz.bool_none a
  | bl b=>cases rx; exact Pz.bool_bool a b
  | int b=>obtain ⟨t,rfl⟩:=rx; exact Pz.bool_int a b t
  | str b=>obtain ⟨t,rfl⟩:=rx; exact Pz.bool_str a b t
  | _=>exact absurd (show false=true from fx) Po
 | int a =>
  obtain ⟨t',rfl⟩:=ry
  cases x with
  | non=>cases rx; exact Pz.int_none a t'
  | bl b=>cases rx; exact Pz.int_bool a t' b
  | int b=>obtain ⟨t,rfl⟩:=rx; exact Pz.int_int a t' b t
  | str b=>obtain ⟨t,rfl⟩:=rx; exact Pz.int_str a t' b t
  | _=>exact absurd (show false=true from fx) Po
 | str a =>
  obtain ⟨t',rfl⟩:=ry
  cases x with
  | non=>cases rx; exact Pz.str_none a t'
  | bl b=>cases rx; exact Pz.str_bool a t' b
  | int b=>obtain ⟨t,rfl⟩:=rx; exact Pz.str_int a t' b t
  | str b=>obtain ⟨t,rfl⟩:=rx; exact Pz.str_str a t' b t
  | _=>exact absurd (show false=true from fx) Po
 | _=>exact absurd (show false=true from fy) Po
noncomputable def E8 (x:V) (u:Value):Bool:=match u with
 | .none=>D0 .non x
 | .bool b=>D0 (.bl b) x
 | .int i _=>D0 (.int i) x
 | .str z _=>D0 (.str z) x
 | _=>false
theorem Zci {x y:V} {u:Value} (r:RelV y u) (f:Cb y=true):E8 x u=D0 y x:=by
 cases y with
 | non=>cases r; rfl
 | bl b=>cases r; rfl
 | int i=>obtain ⟨t,rfl⟩:=r; rfl
 | str z=>obtain ⟨t,rfl⟩:=r; rfl
 | _=>exact absurd (show false=true from f) Po
theorem N5 {x:V}:∀ {xs:List V} {us:List Value},Vals xs us->xs.all Cb=true->us.any (E8 x)=xs.any fun y=>D0 y x
 | _,_,.nil,_=>rfl
 | y :: xs,u :: us,.cons r t,f=>by
  rw [Rc,Rk] at f
  rw [T3,T3,Zci r f.1,N5 t f.2]
theorem Oc {A:Around} {s:Shared} {x:V} {v:Value} (rx:RelV x v) (fx:Cb x=true):∀ {xs:List V} {us:List Value},Vals xs us->xs.all Cb=true->∀ u∈us,Pz A s u v (E8 x u)
 | _,_,.nil,_=>fun u hu=>by cases hu
 | y :: xs,u :: us,.cons r t,f=>fun u' hu=>by
  rw [Rc,Rk] at f
  rcases Pm.mp hu with rfl | hu
  ·rw [Zci r f.1]; exact O1 r rx f.1 fx
  ·exact Oc rx fx t f.2 u' hu
noncomputable def C9 (x:V) (xs:List V):Bool:=xs.any fun y=>D0 y x
noncomputable def rIn (K:Pd) (neg:Bool):R2:=fun x y H Q=>∃ p xs,y=.ref p/\(SqL K H p xs\/SqT K H p xs)/\Cb x=true/\xs.all Cb=true/\Q (.bl (if neg then !C9 x xs else C9 x xs)) H
theorem op_in_seq:OpR X (compareOp .In) (rIn X.K false):=by
 intro pins s σ H x y v u Q I rx ry h
 obtain ⟨p,xs,rfl,hq,fx,fs,q⟩:=h
 cases ry
 rcases hq with hq | hq
 ·obtain ⟨its,r,pl,hz⟩:=I.list hq
  refine SeqAt.in_listAt (E8 x) pl.isList (fun w hw=>Oc rx fx r fs w (by simpa using hw)) ⟨.bl _,H,I,rfl,?_⟩
  rw [show its.toArray.any (E8 x)=its.any (E8 x) by simp,N5 r fs]
  exact q
 ·obtain ⟨its,r,pl,hz⟩:=I.tuple hq
  refine SeqAt.in_tupleAt (E8 x) pl (fun w hw=>Oc rx fx r fs w (by simpa using hw)) ⟨.bl _,H,I,rfl,?_⟩
  rw [show its.toArray.any (E8 x)=its.any (E8 x) by simp,N5 r fs]
  exact q
theorem Ziy:Cv X (.type "list") (fun xs H Q=>∃ p ys,xs=[.ref p]/\(SqL X.K H p ys\/SqT X.K H p ys)/\∀ l,H l=none->Q (.ref l) (upd H l (.lst ys))):=by
 intro pins s σ H xs us Q I r h
 obtain ⟨p,ys,rfl,hq,q⟩:=h
 obtain ⟨u,rfl,rx⟩:=Ja r
 cases rx
 have fin:∀ (its:List Value),Vals ys its->ys.length<=sizeLine->∀ (h':Heap) (c':Nat),(∀ b o',s.heap.get? b=some o'->h'.get? b=some o') ->
   h'.get? s.heap.objs.size=some { cls:=.type "list",dict:=none,data:=.seq its.toArray c',slots:=#[] }->EP X pins σ Q (.ref s.heap.objs.size) { s with heap:=h' }:=fun its r' hz h' c' kp e =>
  ⟨.ref s.heap.objs.size,_,I.laid (t':=s.toks) kp (Ph _) (show ObjOk X.prog X.w _ h' _ (.lst ys) from ⟨hz,its,c',r',e⟩),rfl,q _ (I.hok.fresh (Ph _))⟩
 rcases hq with hq | hq
 ·obtain ⟨its,r',pl,hz⟩:=I.list hq
  have hlen:=r'.length
  obtain ⟨o,ho,hc,n,hd⟩:=pl.isList
  exact call_list_seq p (.inl rfl) ho hc hd (fun h' c' kp e=>fin its r' hz h' c' kp e) (by simp only [Pk] <;> omega)
 ·obtain ⟨its,r',pl,hz⟩:=I.tuple hq
  have hlen:=r'.length
  obtain ⟨o,ho,hc,n,hd⟩:=pl
  exact call_list_seq p (.inr rfl) ho hc hd (fun h' c' kp e=>fin its r' hz h' c' kp e) (by simp only [Pk] <;> omega)
noncomputable def Hb (K:Pd) (T:String) (x:V) (H:Hp):Prop:=match x with
 | .str _=>T = "str"
 | .int _=>T = "int"
 | .ref p=>(T = "list" /\ ∃ xs,SqL K H p xs)\/(T = "tuple" /\ ∃ o,K.lookup p=some o/\o.cls=.type "tuple" /\ o.dict=none) \/
   (T = "dict" /\ ((∃ kvs,H p=some (.dK kvs))\/∃ kvs,H p=some (.dT kvs)))\/(T = "set" /\ ∃ S n,H p=some (.set S n))
 | _=>False
theorem Zfb {pins:List (Addr×Obj)} {σ:St} {H:Hp} {s:Shared} {T:String} {x:V} {v:Value} (I:Inv X pins σ H s) (r:RelV x v) (ty:Hb X.K T x H) :
  s.TypeIs v T/\∀ a,v=.ref a->∃ ob,s.heap.get? a=some ob/\ob.dict=none:=by
 cases x with
 | str z =>
  obtain ⟨t,rfl⟩:=r
  cases (show T = "str" from ty)
  exact ⟨typeIs_str s z t,fun _ e=>nomatch e⟩
 | int i =>
  obtain ⟨t,rfl⟩:=r
  cases (show T = "int" from ty)
  exact ⟨typeIs_int s i t,fun _ e=>nomatch e⟩
 | ref p =>
  cases r
  rcases ty with ⟨rfl,xs,hq⟩ | ⟨rfl,o,hk,hc,hd⟩ | ⟨rfl,hk⟩ | ⟨rfl,S,n,hk⟩
  ·obtain ⟨its,_,pl,_⟩:=I.list hq
   refine ⟨pl.isList.typeIs,fun a e=>?_⟩
   cases e
   obtain ⟨o,n,e,c,hd,_⟩:=pl
   exact ⟨o,e,hd⟩
  ·refine ⟨⟨o,I.kIn p o hk,hc⟩,fun a e=>?_⟩
   cases e
   exact ⟨o,I.kIn _ o hk,hd⟩
  ·have z:∃ o,s.heap.get? p=some o/\o.ExactDict:=by
    rcases hk with ⟨kvs,hk⟩ | ⟨kvs,hk⟩
    ·obtain ⟨_,_,_,_,o,_,_,e,ex,_⟩:=I.hok p _ hk
     exact ⟨o,e,ex⟩
    ·obtain ⟨_,_,_,_,o,_,_,e,ex,_⟩:=I.hok p _ hk
     exact ⟨o,e,ex⟩
   obtain ⟨o,e,ex⟩:=z
   refine ⟨⟨o,e,ex.1⟩,fun a e2=>?_⟩
   cases e2
   exact ⟨o,e,ex.2.1⟩
  ·obtain ⟨o,_,_,_,e,ex,_⟩:=I.hok p _ hk
   refine ⟨⟨o,e,ex.1⟩,fun a e2=>?_⟩
   cases e2
   exact ⟨o,e,ex.2.1⟩
 | _=>exact Qc ty
noncomputable def Le (K:Pd) (T:String) (r:V->List V->Hp->VK->Prop) (to:TE):TE:=fun σ H Q=>to σ H fun x H1=>Hb K T x H1/\r x [] H1 Q
noncomputable def tBM (K:Pd) (T:String) (r:V->List V->Hp->VK->Prop) (to:TE) (t:TA):TE:=fun σ H Q=>to σ H fun x H1=>Hb K T x H1/\t σ H1 fun xs H2=>r x xs H2 Q
variable {o e:Expr} {es:List Expr} {to:TE} {t:TA} {name:Str} {apos cpos:Pos} {T id:String} {r:V->List V->Hp->VK->Prop}
theorem Zny (pa:PlainAttrs T) (slot:Slot T name id) (hty:typeOf (.builtin id)=pure (.type "method_descriptor")) (hm:G5 X id r) (ho:PE X o to)
  (hbase:attributeBase o name X.env (eval o X.env)=eval o X.env:=by rfl) (hline:(apos.endLine == cpos.line)=true:=by rfl):PE X (.Call (.Attribute o name apos) [] [] cpos) (Le X.K T r to):=by
 intro pins s σ H Q I h
 refine wpAny_Call_method0_late hbase hline (Am (ho pins s σ H _ I h) fun v s1 zq=>?_)
 obtain ⟨x,H1,I1,r1,ty,q1⟩:=zq
 obtain ⟨h1,h2⟩:=Zfb I1 r1 ty
 exact ⟨T,id,pa,slot,hty,h1,h2,Calls.callWith_builtin rfl (PySem.evalArgs_none (hm pins s1 σ H1 x [] v [] Q I1 r1 .nil q1))⟩
theorem Zl1 (pa:PlainAttrs T) (slot:Slot T name id) (hty:typeOf (.builtin id)=pure (.type "method_descriptor")) (hm:G5 X id r) (ho:PE X o to) (ha:PA X (e :: es) t)
  (hbase:attributeBase o name X.env (eval o X.env)=eval o X.env:=by rfl)
  (hfew:((backTo cpos (starEach (e :: es) X.env)).all (fun x=>!x.1) && (backToKw cpos (keywordEach [] X.env)).all (fun x=>x.1.isSome)
   && decide ((e :: es).length + ([]:List Keyword).length + (if ([]:List Keyword).isEmpty then 0 else 1) < 30))=true:=by rfl)
  (hline:(apos.endLine == cpos.line)=true:=by rfl) (hs:starEach (e :: es) X.env=(false,eval e X.env) :: starEach es X.env:=by rfl) (hplain:(backTo cpos (starEach es X.env)).any (·.1)=false:=by rfl) :
  PE X (.Call (.Attribute o name apos) (e :: es) [] cpos) (tBM X.K T r to t):=by
 intro pins s σ H Q I h
 refine wpAny_Call_method_late hbase hfew hline rfl (Am (ho pins s σ H _ I h) fun v s1 zq=>?_)
 obtain ⟨x,H1,I1,r1,ty,q1⟩:=zq
 obtain ⟨h1,h2⟩:=Zfb I1 r1 ty
 refine ⟨T,id,pa,slot,hty,h1,h2,?_⟩
 have hA:=ha cpos pins s1 σ H1 _ I1 q1
 rw [hs] at hA ⊢
 refine Calls.callWith_builtin (by show (false || (backTo cpos (starEach es X.env)).any (·.1))=false; rw [hplain] <;> rfl) (Calls.evalArgs_plain ?_)
 exact Am hA fun us s2 ⟨vs,H2,I2,r2,q2⟩=>hm pins s2 σ H2 x vs v us Q I2 r1 r2 q2
end
end L2
namespace L2
open PySem PySem.Spec PyProof.Rows
noncomputable def MtM (X:Cx) (id:String) (r:V->List V->Hp->VK->Prop):Prop :=
 ∀ (pins:List (Addr×Obj)) (s:Shared) (σ:St) (H:Hp) (x:V) (xs:List V) (v:Value) (us:List Value) (Q:VK),Inv X pins σ H s->RelV x v->Vals xs us->r x xs H Q ->
  wpAny (model X.prog X.w) X.A (call (.builtin id) (v :: us)) (EP X pins σ Q) X.xe s
theorem Vals.one:∀ {x:V} {us:List Value},Vals [x] us->∃ u,us=[u]/\RelV x u
 := fun h=>by
 cases h with
 | cons r t =>
 cases t
 exact ⟨_,rfl,r⟩
theorem Vals.two:∀ {x y:V} {us:List Value},Vals [x,y] us->∃ u v,us=[u,v]/\RelV x u/\RelV y v
 := fun h=>by
 cases h with
 | cons r t =>
 cases t with
 | cons q z =>
 cases z
 exact ⟨_,_,rfl,r,q⟩
theorem Vals.zero:∀ {us:List Value},Vals [] us->us=[]
 | _,.nil=>rfl
theorem Vals.dropLast {xs:List V} {us:List Value} (h:Vals xs us):Vals xs.dropLast us.dropLast:=by
 induction h with
 | nil=>exact .nil
 | cons r t ih =>
  cases t with
  | nil=>exact .nil
  | cons q t'=>exact .cons r ih
theorem Vals.rep {xs:List V} {us:List Value} (h:Vals xs us):∀ k:Nat,Vals (Qg k xs).flatten (Qg k us).flatten
 | 0=>.nil
 | k + 1=>by
  rw [Tf,Tf,Ux,Ux]
  exact Vals.append h (Vals.rep h k)
theorem Zlh {α:Type} (l:List α):l.eraseIdx (l.length - 1)=l.dropLast:=by
 induction l with
 | nil=>rfl
 | cons a r ih =>
  cases r with
  | nil=>rfl
  | cons b r =>
   have e:(a :: b :: r).length - 1=((b :: r).length - 1) + 1:=by
    have h1:(a :: b :: r).length=r.length + 2:=rfl
    have h2:(b :: r).length=r.length + 1:=rfl
    omega
   rw [e,List.eraseIdx_cons_succ,ih]
   all_goals rfl
theorem Ze0 (its:List Value):∀ (k:Nat) (acc:List Value),
  List.foldl (fun x1 x2=>x1++x2) acc.toArray (Qg k its.toArray)=(acc++(Qg k its).flatten).toArray
 | 0,acc=>by simp
 | k + 1,acc=>by
  have e:acc.toArray++its.toArray=(acc++its).toArray:=by simp
  have e2:(acc++its)++(Qg k its).flatten=acc++(Qg (k + 1) its).flatten:=by
   rw [Tf,Ux,Rs]
  rw [<- e2,<- Ze0 its k (acc++its),<- e,Tf,List.foldl_cons]
section
variable {X:Cx} {pins:List (Addr×Obj)} {σ:St} {H:Hp} {s:Shared} {l b:Addr} {xs ys zs:List V}
theorem Inv.lset {its its':List Value} {n:Nat} {f:Array Value->Array Value} {t':Nat} (I:Inv X pins σ H s) (hH:H l=some (.lst xs))
  (e:s.heap.get? l=some { cls:=.type "list",data:=.seq its.toArray n }) (hf:f its.toArray=its'.toArray) (hv:Vals ys its') (hz:ys.length<=sizeLine) :
  Inv X pins σ (upd H l (.lst ys)) { s with heap:=s.heap.update l (Qt f),toks:=t' }:=by
 have q:=PySem.IsL.update e f
 rw [hf] at q
 refine I.write (x:=l) (e:=l) (by rw [hH]; exact trivial) (.inl rfl) (fun b' u hb hu=>(Q4 s.heap (Qt f) (Ps hb)).trans hu) ⟨_,q⟩ ?_
 exact ⟨hz,its',_,hv,q⟩
theorem Inv.lnew {its:List Value} {t':Nat} (I:Inv X pins σ H s) (hv:Vals ys its) (hz:ys.length<=sizeLine) :
  Inv X pins σ (upd H s.heap.objs.size (.lst ys)) { s with heap:=s.heap.push { cls:=.type "list",data:=.seq its.toArray },toks:=t' } :=
 I.laid (fun _ _ q=>Pj _ q) (Ph _) ⟨hz,its,0,hv,Py _ rfl⟩
theorem Inv.fresh (I:Inv X pins σ H s):H s.heap.objs.size=none:=I.hok.fresh (Ph _)
theorem Inv.lstM (I:Inv X pins σ H s) (hH:H l=some (.lst xs)):xs.length<=sizeLine/\∃ (its:List Value) (n:Nat),Vals xs its/\xs.length=its.length/\s.heap.get? l=some { cls:=.type "list",data:=.seq its.toArray n }:=by
 obtain ⟨z,its,n,r,e⟩:=I.hok l _ hH
 exact ⟨z,its,n,r,r.length,e⟩
theorem Zc2 {n:Nat} (h:n<=sizeLine):Ui n=false:=by
 unfold Ui
 exact decide_eq_false (by omega)
end
section
variable {X:Cx}
noncomputable def Zeu:V->List V->Hp->VK->Prop:=fun x vs H Q=>∃ l xs y,x=.ref l/\vs=[y]/\H l=some (.lst xs)/\xs.length < sizeLine/\Q .non (upd H l (.lst (xs++[y])))
theorem Bz:MtM X "list.append" Zeu:=by
 intro pins s σ H x vs v us Q I rx rv h
 obtain ⟨l,xs,y,rfl,rfl,hH,hz,q⟩:=h
 cases rx
 obtain ⟨u,rfl,ru⟩:=rv.one
 obtain ⟨z,its,n,r,hl,e⟩:=I.lstM hH
 refine Ta F.slot_list_append ⟨_,e,rfl⟩ F.entry_list_append (F.args_list_append_2 _ _) (PySem.list_append l its.toArray n u (by rw [Pk]; omega)) ⟨e,?_⟩
 refine ⟨.non,_,I.lset (its':=its++[u]) hH e (by simp) (r.append (.cons ru .nil)) ?_,rfl,q⟩
 rw [Pi,Pr]
 omega
noncomputable def Znw:V->List V->Hp->VK->Prop:=fun x vs H Q=>∃ l b xs zs,x=.ref l/\vs=[.ref b]/\H l=some (.lst xs)/\H b=some (.lst zs)/\xs.length + zs.length<=sizeLine/\Q .non (upd H l (.lst (xs++zs)))
theorem Ot:MtM X "list.extend" Znw:=by
 intro pins s σ H x vs v us Q I rx rv h
 obtain ⟨l,b,xs,zs,rfl,rfl,hH,hB,hz,q⟩:=h
 cases rx
 obtain ⟨u,rfl,ru⟩:=rv.one
 cases ru
 obtain ⟨z,its,n,r,hl,e⟩:=I.lstM hH
 obtain ⟨z2,its2,n2,r2,hl2,e2⟩:=I.lstM hB
 have hsz:its.toArray.size + its2.toArray.size<=sizeLine:=by rw [Pk,Pk]; omega
 have hlong:¬ (!its.toArray.isEmpty && Ui (its.toArray.size + its2.toArray.size))=true:=by
  rw [Zc2 hsz,Bool.and_false]
  exact Po
 refine Ta F.slot_list_extend ⟨_,e,rfl⟩ F.entry_list_extend (F.args_list_extend_2 _ _)
  (AutoSeq1.list_extend_list_list_0 l its.toArray n b its2.toArray n2 hlong (by rw [Pk]; omega) (by omega)) ⟨e,e2,?_⟩
 refine ⟨.non,_,I.lset (its':=its++its2) hH e (by simp) (r.append r2) ?_,rfl,q⟩
 rw [Pi]
 omega
noncomputable def rPop:V->List V->Hp->VK->Prop:=fun x vs H Q=>∃ l xs y,x=.ref l/\vs=[]/\H l=some (.lst xs)/\xs[xs.length - 1]?=some y/\Q y (upd H l (.lst xs.dropLast))
theorem Oj:MtM X "list.pop" rPop:=by
 intro pins s σ H x vs v us Q I rx rv h
 obtain ⟨l,xs,y,rfl,rfl,hH,hy,q⟩:=h
 cases rx
 have hus:=rv.zero
 subst hus
 obtain ⟨z,its,n,r,hl,e⟩:=I.lstM hH
 obtain ⟨u,hu,ru⟩:=r.get hy
 have hy':its.toArray[its.toArray.size - 1]?=some u:=by
  show its.toArray[its.length - 1]?=some u
  rw [<- Array.getElem?_toList,<- hl]
  exact hu
 refine Ta F.slot_list_pop ⟨_,e,rfl⟩ F.entry_list_pop (F.args_list_pop_1 _) (MeetsSeq.list_pop_last l its.toArray n u hy' (by rw [Pk]; omega)) ⟨e,?_⟩
 refine ⟨y,_,I.lset (its':=its.dropLast) hH e ?_ r.dropLast ?_,ru,q⟩
 ·show its.toArray.eraseIdxIfInBounds (its.toArray.size - 1)=its.dropLast.toArray
  rw [Pk,List.eraseIdxIfInBounds_toArray,Zlh]
 ·rw [List.length_dropLast]
  omega
noncomputable def rCat:R2:=fun x y H Q=>∃ l b xs zs,x=.ref l/\y=.ref b/\H l=some (.lst xs)/\H b=some (.lst zs)/\xs.length + zs.length<=sizeLine/\∀ p,H p=none->Q (.ref p) (upd H p (.lst (xs++zs)))
theorem op_cat:OpR X (binaryOp .Add) rCat:=by
 intro pins s σ H x y v u Q I rx ry h
 obtain ⟨l,b,xs,zs,rfl,rfl,hH,hB,hz,q⟩:=h
 cases rx
 cases ry
 obtain ⟨z,its,n,r,hl,e⟩:=I.lstM hH
 obtain ⟨z2,its2,n2,r2,hl2,e2⟩:=I.lstM hB
 refine PySem.P.add_list e e2 ?_ (by rw [Pk,Pk]; omega)
 have ea:its.toArray++its2.toArray=(its++its2).toArray:=by simp
 rw [ea]
 exact ⟨.ref _,_,I.lnew (t':=s.toks) (r.append r2) (by rw [Pi]; omega),rfl,q _ I.fresh⟩
noncomputable def rRep:R2:=fun x y H Q=>∃ l k xs,x=.ref l/\y=.int k/\H l=some (.lst xs)/\-(2 ^ 63)<=k/\k < 2 ^ 63/\xs.length * k.toNat<=sizeLine /\
 ∀ p,H p=none->Q (.ref p) (upd H p (.lst (Qg k.toNat xs).flatten))
theorem Zib {α:Type} (xs:List α) (k:Nat):(Qg k xs).flatten.length=k * xs.length:=by
 induction k with
 | zero=>simp
 | succ k ih=>rw [Tf,Ux,Pi,ih,Nat.succ_mul,Nat.add_comm]
theorem Zqw:OpR X (binaryOp .Mult) rRep:=by
 intro pins s σ H x y v u Q I rx ry h
 obtain ⟨l,k,xs,rfl,rfl,hH,h1,h2,hz,q⟩:=h
 cases rx
 obtain ⟨t,rfl⟩:=ry
 obtain ⟨z,its,n,r,hl,e⟩:=I.lstM hH
 have hlen:its.toArray.size * k.toNat<=sizeLine:=by rw [Pk,<- hl]; exact hz
 have hcap:¬ its.toArray.size * k.toNat > (2 ^ 63 - 1) / 8:=by
  have:(sizeLine:Nat)<=(2 ^ 63 - 1) / 8:=by decide
  omega
 have hfit:¬ (!Builtin.List.listFitsIndex k)=true:=by
  rw [fitsIndex_both h1 h2]
  exact Po
 have hlong:¬ Ui (its.toArray.size * k.toNat)=true:=by
  rw [Zc2 hlen]
  exact Po
 have hnew:List.foldl (fun x1 x2=>x1++x2) #[] (Qg (if its.toArray.isEmpty=true then 0 else k.toNat) its.toArray)=(Qg k.toNat its).flatten.toArray:=by
  have f0:∀ m:Nat,List.foldl (fun x1 x2=>x1++x2) #[] (Qg m its.toArray)=(Qg m its).flatten.toArray:=fun m=>by
   have:=Ze0 its m []
   rw [List.nil_append] at this
   exact this
  rw [f0]
  cases its with
  | nil=>simp
  | cons a r'=>rw [if_neg (by simp)]
 refine wpAny_binaryOp_repeat_ref (T := "list") (U := "int") (by decide) ⟨_,e,rfl⟩ (fun s'=>typeIs_int s' k t) noFill_list_mul F.fills_int_mul F.slot_int_rmul repeat_list F.slot_int_index.lookup
  (Ta F.slot_int_rmul (typeIs_int s k t) F.entry_int_rmul (F.args_int_rmul_2 _ _) (int___rmul___int_list k t l its.toArray n)
   ⟨e,rfl,⟨_,e,rfl⟩,Ta F.slot_list_mul ⟨_,e,rfl⟩ F.entry_list_mul (F.args_list_mul_2 _ _) (AutoListH.list___mul___list_int_3 l its.toArray n k t hfit hcap hlong) ⟨e,?_⟩⟩)
 rw [hnew]
 exact ⟨.ref _,_,I.lnew (t':=s.toks) (r.rep k.toNat) (by rw [Zib,Nat.mul_comm]; exact hz),rfl,q _ I.fresh⟩
end
section
variable {prog:Program} {w:World} {A:Around} {E:Value->Shared->Prop} {s:Shared}
end
section
variable {X:Cx}
end
end L2
namespace Att
open PySem PySem.W PySem.Calls PyProof.Rows
theorem Zok {P:Params} {h:Heap}:∀ (ns:List Int) (vs:List Value),WellAll P h vs (ns.map WData.int)->IntsAre vs ns:=by
 intro ns
 induction ns with
 | nil =>
  intro vs w
  rw [Vg] at w
  cases w
  exact .nil
 | cons n ns ih =>
  intro vs w
  rw [Qj] at w
  cases w with
  | cons a b =>
   cases a
   exact .cons _ _ (ih _ b)
theorem Zpb {l:OpenLaw} {n:Nat} (hn:l.most=some n) {P:Params} {h:Heap} {args:List WData} {vals:List Value}
  (hpre:l.row.toRowW.claim.pre args=true) (hwl:WellAll P h vals args) :
  ∃ a vs ns,vals=[Value.ref a]/\args=[WData.list (ns.map WData.int)]/\h.get? a=some { cls:=.type "list",data:=.seq vs.toArray }/\IntsAre vs ns/\ns.length<=n:=by
 have hsh:WShape.hasAll [] args [.list .int]=true:=(pre_splitW hpre).1
 have hc:l.pre.holds [] { args:=args }=true:=(pre_splitW hpre).2
 obtain ⟨d,r,rfl,h1,h2⟩:=hasAllW_cons hsh
 obtain rfl:=hasAllW_nil h2
 obtain ⟨xs,rfl,h3⟩:=hasW_list h1
 obtain ⟨ns,rfl⟩:=items_int h3
 have hlen:ns.length<=n:=by
  unfold OpenLaw.pre at hc
  have h4:(WTm.not (.lt (.lit (.int (n:Int))) (.len (.arg 0)))).holds [] { args:=[.list (ns.map .int)] }=true:=by
   have h4:=(holds_andW hc).1
   rw [hn] at h4
   exact h4
  have h5:=condW_of h4 (w_not (w_lt w_lit (w_len_list (w_arg rfl))))
  rw [Pp] at h5
  refine Nat.le_of_not_lt fun q=>?_
  have q':(n:Int) < ((ns.length:Nat):Int):=by omega
  first
   | (rw [decide_eq_true q'] at h5; exact absurd h5 (by decide))
   | (simp at h5; omega)
 cases hwl with
 | cons w1 w2 =>
  cases w2
  cases w1 with
  | list ho hall=>exact ⟨_,_,ns,rfl,rfl,ho,Zok ns _ hall,hlen⟩
theorem Zqn (l:OpenLaw) (args:List WData):l.row.toRowW.claim.post args (.bool true) args=true :=
 postW_of (r:=l.row.toRowW) (X:=(true == true))
  (show WShape.has [] (.bool true) .bool=true by first | rfl | decide | simp [WShape.has,WShape.arms,WShape.armsAll])
  (show (WTm.eq .res (.lit (.bool true))).value [] { args:=args,res:=some (.bool true),after:=args }=some (.bool (true == true)) from w_eq_bool (w_res rfl) w_lit) rfl
theorem attach_call {l:OpenLaw} {n:Nat} {q:Program} {loose:List Str} {XP:(Str->Option Value)->Heap->Prop} {YP:World->Heap->Prop} {d:DefRec}
  (hn:l.most=some n) (hdf:d.params.defaults=[])
  (call:∀ (w:World) (s₀ s₁:Shared) (mg mb:Str->Option Value) (fa:Addr) (o:Obj) (pm cd doc:Value) (a:Addr) (vs:List Value) (ns:List Int),
   Ground q loose [] XP w s₀ mg mb s₁.heap->YP w s₁.heap ->
   s₁.heap.get? fa=some o->o.data=.func (docDef d.name d.params d.body d.scope pm cd doc)->s₁.heap.CodeRec cd d.name->mg d.name=some (.ref fa) ->
   s₁.heap.get? a=some { cls:=.type "list",data:=.seq vs.toArray }->IntsAre vs ns->ns.length<=n->s₁.gens=#[] ->
   codeAny (model l.prog w) callerA (.call (.ref fa) ⟨[.ref a],[]⟩) (fun r s'=>r=.ok (.ret (.bool true))/\OldK s₁.heap s'.heap/\s'.os=s₁.os/\AllBare s'.gens) s₁) :
  WalkO q loose XP YP l.row.toRowW d [] (fun f vs=>PySem.call f vs):=by
 intro w s₀ s₁ mg mb G Y fa o pm cd doc dV kV ho hd hcd hD hmg hg args vals as hpre hlay hrd hwl hlo
 obtain rfl:dV=.none:=Dflts.none hD hdf
 obtain rfl:kV=.none:=Dflts.noKw hD
 obtain ⟨a,vs,ns,rfl,rfl,hobj,hints,hlen⟩:=Zpb hn hpre hwl
 refine enter_call (Sx (call w s₀ s₁ mg mb fa o pm cd doc a vs ns G Y ho (fd_plain hd) hcd hmg hobj hints hlen hg) fun r s' hq=>?_)
 obtain ⟨rfl,h2,h3,h4⟩:=hq
 exact ⟨.inl ⟨.bool true,.bool true,[],rfl,fun _=>rfl,.bool true,Zqn l _,fun _=>⟨List.Pairwise.nil,fun _ hm=>(nomatch hm)⟩⟩,h2,h3,h4⟩
section
variable {prog:Program} {w:World} {A:Around} {E:Value->Shared->Prop} {s:Shared} {K:Frag}
end
end Att
namespace L2
open PySem PySem.Spec PyProof.Rows
theorem Zds:∀ {vs:List Value} {ns:List Int},IntsAre vs ns->Vals (ns.map V.int) vs
 | _,_,.nil=>.nil
 | _,_,.cons n t h=>.cons ⟨t,rfl⟩ (Zds h)
noncomputable def Oo (H:Hp):Prop:=∀ b,H b=none\/∃ o xs,H b=some (.frz o (.lst xs))
theorem Zjt {P:Program} {w:World} {K:Pd} {mg mb:Str->Option Value} {CX:B3} {k:Nat} {fa a:Addr} {fd:FuncData} {x:Str} {sp:Sp} {s₁:Shared} {vs:List Value} {ns:List Int}
  (KX:K.In s₁.heap) (hns:s₁.heap.Ns mainGlobals mg) (hb:s₁.heap.Ns builtinsNs mb) (hbb:∀ x:Str,x ≠ "__name__" -> mb x=bootBuiltins x) (hlim:s₁.heap.NoLimit) (hg:s₁.gens=#[])
  (ha:s₁.heap.get? a=some { cls:=.type "list",data:=.seq vs.toArray }) (hi:IntsAre vs ns) (hl:ns.length<=sizeLine) (hr:Room k callerA)
  (F:∀ base:Heap,K.In base->base.Ns mainGlobals mg->FnOk P w K mg base CX k fa fd [x] sp) (hbind:∀ (s:Shared) (u:Value),BindsTo s fd ⟨[u],[]⟩ [(x,u)])
  (hsp:∀ H:Hp,Oo H->SqL K H a (ns.map V.int)->sp [.ref a] H (fun v _=>v=.bl true) fun _ _ _=>False)
  (hCX:∀ H e s',CX [] H s₁ (fun _ _ _=>False) e s'->False) :
  codeAny (model P w) callerA (.call (.ref fa) ⟨[.ref a],[]⟩) (fun r s'=>r=.ok (.ret (.bool true))/\OldK s₁.heap s'.heap/\s'.os=s₁.os/\AllBare s'.gens) s₁:=by
 have rv:=Zds hi
 have lenV:=hi.length
 have core:∀ H:Hp,Oo H->SqL K H a (ns.map V.int)->HOk P w H s₁.heap->(∀ b,H b≠none->b=a)->(H a≠none->K.lookup a=none) ->
   codeAny (model P w) callerA (.call (.ref fa) ⟨[.ref a],[]⟩) (fun r s'=>r=.ok (.ret (.bool true))/\OldK s₁.heap s'.heap/\s'.os=s₁.os/\AllBare s'.gens) s₁:=by
  intro H hO hS hok hA hK
  have base_of:∀ {b:Addr} {o:Obj},s₁.heap.get? b=some o->H b=none->(Fg s₁.heap H).get? b=some o:=fun e n=>Zha e n
  have noA:∀ {b:Addr} {o:Obj} {es:Array DictEntry} {ep:Nat},s₁.heap.get? b=some o->o.data=.dict es ep->H b=none:=fun {b o es ep} e d=>by
   cases q:H b with
   | none=>rfl
   | some u =>
    have e':b=a:=hA b (by rw [q]; simp)
    subst e'
    rw [ha] at e; cases e
    have d':Data.seq vs.toArray _=Data.dict es ep:=d
    cases d'
  have nsK:∀ {b:Addr} {m:Str->Option Value},s₁.heap.Ns b m->(Fg s₁.heap H).Ns b m:=fun {b m} ⟨o,es,ep,e,d,r⟩=>⟨o,es,ep,base_of e (noA e d),d,r⟩
  have hKb:K.In (Fg s₁.heap H):=fun b o e=>base_of (KX b o e) (by
   cases q:H b with
   | none=>rfl
   | some u =>
    have e':b=a:=hA b (by rw [q]; simp)
    subst e'
    rw [hK (by rw [q]; simp)] at e; cases e)
  have hM:Mod K mg (Fg s₁.heap H):=⟨hKb,nsK hns,⟨mb,nsK hb,hbb⟩,let ⟨mc,h1,h2⟩:=hlim; ⟨mc,nsK h1,h2⟩⟩
  have e0:Env0 P w K mg (Fg s₁.heap H) callerA [] s₁ H:=⟨rfl,hM,fun b o e=>Zpn e,Nat.le_of_eq (Zos _ _),trivial,fun b hb=>absurd (show b∈([]:List Addr) from hb) (by simp),hok,.of_eq hg⟩
  refine Sx ((F _ hKb (nsK hns)).run callerA [] s₁ H ⟨[.ref a],[]⟩ [.ref a] [.ref a] _ _ hr e0 (hbind s₁ (.ref a)) (.cons rfl .nil) (hsp H hO hS)) fun r s' h=>?_
  cases r with
  | error e=>exact (hCX H e s' h).elim
  | ok fl =>
   cases fl with
   | next=>exact Qc h
   | brk=>exact Qc h
   | cont=>exact Qc h
   | ret u =>
    obtain ⟨v,H',os,bare,un,hok',r',q⟩:=h
    have q':v=.bl true:=q
    subst q'
    obtain rfl:u=Value.bool true:=r'
    refine ⟨rfl,OldK.of_keep fun b o e=>?_,os,bare⟩
    cases q:H b with
    | none=>exact un.keep b o e q (by intro z; exact absurd (show b∈([]:List Addr) from z) (by simp)) (by simp)
    | some u =>
     rcases hO b with z | ⟨ob,xs,z⟩
     ·rw [q] at z; cases z
     ·have z2:=un.frzs b ob _ z
      obtain ⟨e1,_⟩:=hok b _ z
      obtain ⟨e2,_⟩:=hok' b _ z2
      rw [e] at e1; cases e1
      exact e2
 cases hk:K.lookup a with
 | some o =>
  have e:=KX a o hk
  rw [ha] at e
  cases e
  refine core (fun _=>none) (fun _=>.inl rfl) (.inr ⟨_,vs.toArray,_,hk,rfl,rfl,rfl,by rw [Pk,lenV]; exact hl,by simpa using rv⟩) (fun b u z=>by have z':(none:Option HO)=some u:=z; cases z') (fun b z=>absurd rfl z) fun z=>absurd rfl z
 | none =>
  refine core (fun b=>if b=a then some (.frz { cls:=.type "list",data:=.seq vs.toArray } (.lst (ns.map V.int))) else none) (fun b=>?_) (.inl (.inr ⟨{ cls:=.type "list",data:=.seq vs.toArray },if_pos rfl⟩)) (fun b u z=>?_) (fun b z=>?_) fun _=>hk
  ·by_cases hb:b=a
   ·exact .inr ⟨_,_,if_pos hb⟩
   ·exact .inl (if_neg hb)
  ·by_cases hb:b=a
   ·have z':=(if_pos hb).symm.trans z
    cases z'
    subst hb
    exact ⟨ha,by rw [Pp]; exact hl,vs,_,rv,ha⟩
   ·have z':=(if_neg hb).symm.trans z
    cases z'
  ·by_cases hb:b=a
   ·exact hb
   ·exact absurd (if_neg hb) z
end L2
namespace L2
open PySem PySem.Spec PyProof.Rows
theorem walk_of {l:Wd} {n k:Nat} {q:Program} {loose:List Str} {XP:(Str->Option Value)->Heap->Prop} {YP:World->Heap->Prop} {d:DefRec} {K:Params->Pd} {CX:World->B3} {sp:World->Sp} {x:Str}
  (hn:l.most=some n) (hn2:n<=sizeLine) (hdf:d.params.defaults=[]) (hr:Room k callerA)
  (hY:∀ (w:World) (h:Heap),YP w h->(K w.params).In h)
  (F:∀ (w:World) (mg:Str->Option Value) (fa:Addr) (h:Heap),(K w.params).In h->h.Ns mainGlobals mg->mg d.name=some (.ref fa) ->
   ∃ fd:FuncData,(∀ (s:Shared) (u:Value),BindsTo s fd ⟨[u],[]⟩ [(x,u)]) /\
    ∀ base:Heap,(K w.params).In base->base.Ns mainGlobals mg->FnOk l.prog w (K w.params) mg base (CX w) k fa fd [x] (sp w))
  (hsp:∀ (w:World) (H:Hp) (a:Addr) (ns:List Int),ns.length<=n->Oo H->SqL (K w.params) H a (ns.map V.int)->sp w [.ref a] H (fun v _=>v=.bl true) fun _ _ _=>False)
  (hCX:∀ (w:World) (H:Hp) (s:Shared) (e:Value) (s':Shared),CX w [] H s (fun _ _ _=>False) e s'->False) :
  PySem.W.WalkO q loose XP YP l.row.toRowW d [] (fun f vs=>PySem.call f vs):=by
 refine Att.attach_call hn hdf fun w s₀ s₁ mg mb fa o pm cd doc a vs ns G Y ho hd hcd hmg hobj hints hlen hg=>?_
 have KX:=hY w _ Y
 obtain ⟨fd,hb,hF⟩:=F w mg fa _ KX G.T.g hmg
 exact Zjt KX G.T.g G.T.b G.T.builtins G.T.nolimit hg hobj hints (Qd hlen hn2) hr hF hb (fun H hO hS=>hsp w H a ns hlen hO hS) fun H e s'=>hCX w H s₁ e s'
end L2
namespace L2
open PySem PySem.Spec PyProof.Rows
noncomputable def Ge (s:Stmt):Arguments:=match s with
 | .FunctionDef _ a _ _ _ _ _ _ _ _=>a
 | _=>{ posonlyargs:=[],args:=[],vararg:=none,kwonlyargs:=[],kw_defaults:=[],kwarg:=none,defaults:=[] }
noncomputable def Er (s:Stmt):List Stmt:=match s with
 | .FunctionDef _ _ b _ _ _ _ _ _ _=>b
 | _=>[]
noncomputable def Az (s:Stmt):Scope:=match s with
 | .FunctionDef _ _ _ _ _ _ sc _ _ _=>sc
 | _=>{ kind:=.function,names:=[],isGenerator:=false,isCoroutine:=false }
noncomputable abbrev Ar:B3:=fun _ _ _ _ _ _=>False
noncomputable abbrev E0:XK:=fun _ _ _=>False
theorem C5 {X:Cx}:E2 Ar X E0:=fun _ _ _ _ _ _ _ h=>h.elim
structure Fun (K:Pd) (x qual:Str) (st:Stmt) (f:Addr) (fd:FuncData):Prop where
 ex:∃ (oc:Value) (od:Option Addr) (kV doc pm:Value) (an:Option Addr) (cdv ct:Value) (osl:Array (Option Value)),
  fd=Rv x qual (Ge st) (Er st) (Az st) .none kV doc pm an cdv ct/\K.lookup f=some ⟨oc,od,.func fd,osl⟩/\PySem.W.codeIn K cdv qual=true
 kp:Ra K (.ref f)=true
section
variable {P:Program} {w:World} {K:Pd} {mg:Str->Option Value} {base:Heap}
theorem Fun.ok {x qual:Str} {st:Stmt} {f:Addr} {fd:FuncData} {N ps:List Str} {k:Nat} {sp:Sp} (F:Fun K x qual st f fd) (S:A2 N ps (Az st)) (len:∀ vs H Q E,sp vs H Q E->vs.length=ps.length)
  (hbody:∀ (cdv:Value) (A:Around) (outer:List Env) (s:Shared) (H:Hp) (vs:List V) (Q:VK) (E:XK),Room k (A.deeper (envOfC qual (Az st) s.heap.objs.size f cdv))->sp vs H Q E ->
   ∃ t,PSs (Dx Ar P w K mg base N qual (Az st) f cdv A outer s H E).nox (Er st) t/\t { nx:=fun _ H'=>Q .non H',rt:=Q } (E1 N vs) H):FnOk P w K mg base Ar (k + 1) f fd ps sp:=by
 obtain ⟨oc,od,kV,doc,pm,an,cdv,ct,osl,rfl,lk,hcd⟩:=F.ex
 refine Zdt lk hcd S len fun A outer s H vs Q E hr hsp=>?_
 obtain ⟨t,h,q⟩:=hbody cdv A outer s H vs Q E hr hsp
 exact ⟨t,h.nox,q⟩
theorem Fun.binds {x qual:Str} {st:Stmt} {f:Addr} {fd:FuncData} {ps:List Str} (F:Fun K x qual st f fd)
  (h:∀ (kV doc pm:Value) (an:Option Addr) (cdv ct:Value) (us:List Value),us.length=ps.length->bindArgs (Rv x qual (Ge st) (Er st) (Az st) .none kV doc pm an cdv ct) ⟨us,[]⟩=pure (ps.zip us)):Binds K fd ps []:=by
 obtain ⟨oc,od,kV,doc,pm,an,cdv,ct,osl,rfl,lk,hcd⟩:=F.ex
 exact .all (h kV doc pm an cdv ct)
theorem fun_mk {x qual:Str} {st:Stmt} {f:Addr} {oc:Value} {od an:Option Addr} {osl:Array (Option Value)} {kV doc pm cdv ct:Value} (l:K.lookup f=some ⟨oc,od,.func (Rv x qual (Ge st) (Er st) (Az st) .none kV doc pm an cdv ct),osl⟩)
  (c:PySem.W.codeIn K cdv qual=true) (k:Ra K (.ref f)=true):Fun K x qual st f (Rv x qual (Ge st) (Er st) (Az st) .none kV doc pm an cdv ct):=⟨⟨oc,od,kV,doc,pm,an,cdv,ct,osl,rfl,l,c⟩,k⟩
end
section
variable {X:Cx}
end
theorem iteF {A B:Prop} (h:B):if false=true then A else B:=by
 rw [if_neg Po]
 exact h
theorem iteT {A B:Prop} (h:A):if true=true then A else B:=by
 rw [if_pos rfl]
 exact h
theorem B4 {c A B:Prop} [Decidable c] (h1:c->A) (h2:¬ c->B):if c then A else B:=by
 by_cases h:c
 ·rw [if_pos h]
  exact h1 h
 ·rw [if_neg h]
  exact h2 h
noncomputable def Same (H H':Hp):Prop:=∀ b o,H b=some o->H' b=some o
theorem Same.refl (H:Hp):Same H H:=fun _ _ h=>h
theorem Same.trans {H H1 H2:Hp} (a:Same H H1) (b:Same H1 H2):Same H H2:=fun c o h=>b c o (a c o h)
theorem Same.free {H H':Hp} (e:Same H H') {l:Addr} (h:H' l=Option.none):H l=Option.none:=by
 cases q:H l with
 | none=>rfl
 | some o =>
  rw [e l o q] at h
  cases h
theorem Same.seq {K:Pd} {H H':Hp} {a:Addr} {xs:List V} (e:Same H H') (h:SqL K H a xs):SqL K H' a xs:=by
 rcases h with (h | ⟨o,h⟩) | h
 ·exact .inl (.inl (e _ _ h))
 ·exact .inl (.inr ⟨o,e _ _ h⟩)
 ·exact .inr h
end L2
set_option maxHeartbeats 8000000
namespace L2
open PySem PySem.Spec PyProof.Rows
noncomputable def Dr (env:Env):List (Str×NameKind)->List (Str×Addr)->List (Str×Addr)
 | [],acc=>acc
 | (n,k) :: r,acc=>Dr env r (if k == .free then (match env.cells.lookup n with | some a=>(n,a) :: acc | none=>acc) else acc)
theorem Za8 {env:Env}:∀ {ns:List (Str×NameKind)} {acc:List (Str×Addr)} {x:Str} {c:Addr},(∀ x c,acc.lookup x=some c->env.cells.lookup x=some c)->(Dr env ns acc).lookup x=some c->env.cells.lookup x=some c
 | [],acc,x,c,h,e=>h x c e
 | (n,k) :: r,acc,x,c,h,e=>by
  refine Za8 (ns:=r) ?_ e
  intro y d
  split
  ·split
   ·rename_i a ha
    intro q
    rw [Rt] at q
    split at q
    ·rename_i hy
     have hy':y=n:=by simpa using hy
     subst hy'
     rw [ha]; exact q
    ·exact h y d q
   ·exact h y d
  ·exact h y d
theorem Zb5 {env:Env}:∀ {ns:List (Str×NameKind)} {acc:List (Str×Addr)} {x:Str},(acc.lookup x).isSome=true->((Dr env ns acc).lookup x).isSome=true
 | [],acc,x,h=>h
 | (n,k) :: r,acc,x,h=>by
  refine Zb5 (ns:=r) ?_
  split
  ·split
   ·rw [Rt]
    split
    ·rfl
    ·exact h
   ·exact h
  ·exact h
theorem Zfo {env:Env}:∀ {ns:List (Str×NameKind)} {acc:List (Str×Addr)} {x:Str},(x,NameKind.free)∈ns->(env.cells.lookup x).isSome=true->((Dr env ns acc).lookup x).isSome=true
 | [],acc,x,h,_=>by cases h
 | (n,k) :: r,acc,x,h,hc=>by
  rcases Pm.mp h with e | e
  ·cases e
   refine Zb5 (ns:=r) ?_
   obtain ⟨a,ha⟩:=Tc.mp hc
   rw [if_pos (by rfl),ha]
   show (Rn n ((n,a) :: acc)).isSome=true
   rw [Rt]
   simp
  ·exact Zfo (ns:=r) e hc
theorem Zby {scope:Scope} {env:Env} (h:∀ x∈scope.names,x.2=.free->(env.cells.lookup x.1).isSome=true):closureFor scope env=pure (Dr env scope.names []):=by
 have all:∀ (ns:List (Str×NameKind)) (acc:List (Str×Addr)),(∀ x∈ns,x.2=.free->(env.cells.lookup x.1).isSome=true) ->
   (forIn ns acc fun (x:Str×NameKind) (cs:List (Str×Addr))=>(if (x.2 == NameKind.free)=true then do let a <- cellOf env x.1; pure (ForInStep.yield ((x.1,a) :: cs)) else pure (ForInStep.yield cs):Sem (ForInStep (List (Str×Addr)))))=pure (Dr env ns acc):=by
  intro ns
  induction ns with
  | nil=>intro acc _; rfl
  | cons x r ih =>
   intro acc hx
   obtain ⟨n,k⟩:=x
   rw [Tv]
   by_cases hk:(k == NameKind.free)=true
   ·obtain ⟨a,ha⟩:=Tc.mp (hx (n,k) Ut (by simpa using hk))
    have ha:env.cells.lookup n=some a:=ha
    have hcell:cellOf env n=pure a:=by unfold cellOf; rw [ha]
    simp only [hk,if_true,hcell]
    refine Eq.trans (ih ((n,a) :: acc) fun y hy=>hx y (Rq _ hy)) ?_
    conv=>rhs; unfold Dr
    simp only [hk,if_true,ha]
   ·simp only [hk]
    refine Eq.trans (ih acc fun y hy=>hx y (Rq _ hy)) ?_
    conv=>rhs; unfold Dr
    simp only [hk]
    rfl
 unfold closureFor
 exact (by
  have:=all scope.names [] h
  first | exact this | (simp only [bind_pure] ; exact this) | simpa using this)
noncomputable def Cq (X:Cx) (scope:Scope) (C:Addr) (N:List Str) (s₀:Shared) (H₀:Hp) (ex:List Addr):Cx where
 prog:=X.prog
 w:=X.w
 K:=X.K
 mg:=X.mg
 base:=X.base
 A:=X.A
 N:=N
 s₀:=s₀
 H₀:=H₀
 env:=compEnvC scope (Dr X.env scope.names []) C X.env
 outer:=X.stack
 stack:=X.stack
 ex:=ex
 fn:=fun _=>false
 calm:=X.calm
 pn:=[]
 xe:=fun _ _=>False
structure Gx (sc:Scope) (env:Env):Prop where
 kind:sc.kind=.function
 nocell:∀ y∈sc.names,y.2≠.cell
 loc:∀ y∈sc.names,y.2=.local->sc.names.lookup y.1=some .local
 free:∀ x∈sc.names,x.2=.free->(env.cells.lookup x.1).isSome=true
theorem L7 {env:Env}:∀ {names:List (Str×NameKind)} {x:Str} {k:NameKind},((names.map fun (n,k)=>if (k == NameKind.free && env.scope.kind == .function && env.kindOf n == some .cell) then (n,NameKind.cell) else (n,k)).lookup x=some k) ->
  ∃ k',names.lookup x=some k'/\(k'=k\/(k'=.free/\k=.cell))
 | [],x,k,h=>by simp at h
 | (n,q) :: r,x,k,h=>by
  have ih:=@L7 env r x k
  have h:Rn x ((if (q == NameKind.free && env.scope.kind == .function && env.kindOf n == some .cell)=true then (n,NameKind.cell) else (n,q)) :: _)=some k:=h
  rw [Rt]
  cases hx:x == n with
  | true =>
   by_cases hc:(q == NameKind.free && env.scope.kind == .function && env.kindOf n == some .cell)=true
   ·rw [if_pos hc] at h
    simp only [Rt,hx] at h
    refine ⟨q,rfl,.inr ⟨?_,(Qi h).symm⟩⟩
    simp only [Rk] at hc
    simpa using hc.1.1
   ·rw [if_neg hc] at h
    simp only [Rt,hx] at h
    exact ⟨q,rfl,.inl (Qi h)⟩
  | false =>
   by_cases hc:(q == NameKind.free && env.scope.kind == .function && env.kindOf n == some .cell)=true
   ·rw [if_pos hc] at h
    simp only [Rt,hx] at h
    exact ih h
   ·rw [if_neg hc] at h
    simp only [Rt,hx] at h
    exact ih h
noncomputable def F3 (X:Cx) (scope:Scope) (N:List Str) (σ σ0:St):Prop :=
 σ0.length=N.length/\∀ (i:Nat) (x:Str) (v:V),N[i]?=some x->σ0[i]?=some (some v)->∃ j:Nat,X.N[j]?=some x/\σ[j]?=some (some v)/\scope.names.lookup x=some .free/\(X.env.kindOf x=some .cell\/X.env.kindOf x=some .free)
section
variable {X:Cx}
theorem Zpf {scope:Scope} {N:List Str} {pins:List (Addr×Obj)} {σ σ0:St} {H:Hp} {s:Shared} {h':Heap} {tk:Nat} {fp:List Addr} (I:Inv X pins σ H s) (S:Gx scope X.env) (hf:∀ b∈fp,FpOk X pins H b) (hlt:∀ b∈fp,b < s.heap.objs.size)
  (T:F3 X scope N σ σ0) (hn:h'.Ns s.heap.objs.size (fun _=>none)) (hk:∀ b o,s.heap.get? b=some o->h'.get? b=some o) :
  Inv (Cq X scope s.heap.objs.size N s H fp) [] σ0 H { s with heap:=h',toks:=tk }:=by
 have subC:∀ x c,(Dr X.env scope.names []).lookup x=some c->X.env.cells.lookup x=some c:=fun x c e=>Za8 (ns:=scope.names) (acc:=[]) (fun y d z=>by simp at z) e
 have hasC:∀ x,scope.names.lookup x=some .free->∃ c,(Dr X.env scope.names []).lookup x=some c:=fun x e=>by
  have m:=R3 e
  exact Tc.mp (Zfo m (S.free _ m rfl))
 have fsN:∀ b∈fp,b ∉ Bl X.stack:=fun b hb z=>by
  obtain ⟨_,f1,f2,_⟩:=hf b hb
  rcases Pm.mp (I.stkSub b z) with e | e
  ·exact f1 e
  ·exact f2 e
 have kinds:∀ x,((relabel scope X.env).names.lookup x=some .cell\/(relabel scope X.env).names.lookup x=some .free)->scope.names.lookup x=some .free:=fun x hx=>by
  rcases hx with hx | hx
  ·obtain ⟨k',e,q⟩:=L7 hx
   rcases q with q | ⟨q,_⟩
   ·subst q
    exact absurd rfl (S.nocell _ (R3 e))
   ·rw [e,q]
  ·obtain ⟨k',e,q⟩:=L7 hx
   rcases q with q | ⟨_,q⟩
   ·rw [e,q]
   ·cases q
 have noex:∀ b o,X.base.get? b=some o->b ∉ fp:=fun b o e hb=>by
  obtain ⟨_,_,_,f3,_⟩:=hf b hb
  rcases f3 with z | z
  ·exact I.ok.noex b o e z
  ·exact absurd (P6 (Pl e) (Qd I.ok.bsz z)) (Qr _)
 refine ⟨⟨I.ok.mod,S.kind,I.ok.glob,I.ok.blt,Ph _,fun x y c e1 e2=>I.ok.inj x y c (subC x c e1) (subC y c e2),fun x hx=>hasC x (kinds x hx),fun x c z=>absurd (show false=true from z) Po,I.ok.hd,I.ok.frames,.inl rfl,
   fun b hb=>⟨Pw (hlt b hb),fun x c e=>(hf b hb).2.2.2.2.1 x c (subC x c e)⟩,I.bs,Qd I.ok.bsz I.sz,noex,fsN,I.stack,I.stkFree⟩,
  rfl,I.bare,Un.kept hk,⟨_,hn,fun i x v e1 e2 e3=>?_⟩,fun x c e=>?_,I.hok.fresh (Ph _),fun x c e=>I.freeC x c (subC x c e),fun p hp=>absurd (show p∈([]:List (Addr×Obj)) from hp) (by simp),I.hok.kept hk,T.1⟩
 ·obtain ⟨j,hj,hs,hfr,hkd⟩:=T.2 i x v e1 e2
  obtain ⟨m,_,hl⟩:=I.loc
  obtain ⟨u,r,l⟩:=hl j x v hj hs (hkd.elim (fun z=>Or.inr (Or.inl z)) fun z=>Or.inr (Or.inr z))
  refine ⟨u,r,.inr ⟨?_,?_⟩⟩
  ·show (relabel scope X.env).names.lookup x=some .cell\/(relabel scope X.env).names.lookup x=some .free
   rcases e3 with z | z | z
   ·obtain ⟨k',e,q⟩:=L7 (show (relabel scope X.env).names.lookup x=some .local from z)
    rw [hfr] at e
    cases e
    rcases q with q | ⟨_,q⟩ <;> cases q
   ·exact .inl z
   ·exact .inr z
  ·obtain ⟨c,hc⟩:=hasC x hfr
   refine ⟨c,hc,?_⟩
   rcases l with ⟨k,_⟩ | ⟨_,c',e,z⟩
   ·rcases hkd with hkd | hkd <;> (rw [hkd] at k; cases k)
   ·have e':=subC x c hc
    rw [e] at e'
    cases e'
    obtain ⟨o,ho,hd⟩:=z
    exact ⟨o,hk _ o ho,hd⟩
 ·obtain ⟨v,o,ho,hd⟩:=I.cell x c (subC x c e)
  exact ⟨v,o,hk _ o ho,hd⟩
theorem Zqx {scope:Scope} {N:List Str} {pins pins':List (Addr×Obj)} {σ σ':St} {H H':Hp} {s s':Shared} {h':Heap} {fp:List Addr} (I:Inv X pins σ H s) (hf:∀ b∈fp,FpOk X pins H b)
  (I':Inv (Cq X scope s.heap.objs.size N s H fp) pins' σ' H' s') (hs:Px s.heap.objs.size s'.heap h'):Inv X pins σ H' { s' with heap:=h' }:=by
 have hC:H' s.heap.objs.size=none:=I'.free
 have ne:∀ b o,s.heap.get? b=some o->b≠s.heap.objs.size:=fun b o e=>Pw (Pl e)
 have B:Un (Bl X.stack) fp H H' s.heap s'.heap:=I'.base
 refine I.call' (s':={ s' with heap:=h' }) (ch:=fp) I'.os ⟨fun b o e n hb hx=>?_,fun b o e n hb hx=>?_,B.free,fun b o e hx=>?_,B.tups,B.frzs,B.tbls⟩ (fun b o e=>?_) I'.bare (fun b hb=>?_)
 ·exact (hs.2 b (ne b o e)).trans (B.keep b o e n hb hx)
 ·obtain ⟨sl,q⟩:=B.slot b o e n hb hx
  exact ⟨sl,(hs.2 b (ne b o e)).trans q⟩
 ·obtain ⟨o',q⟩:=B.there b o e hx
  exact ⟨o',(hs.2 b (ne b o e)).trans q⟩
 ·refine (I'.hok b o e).stay (fun c w' hc q=>(hs.2 c ?_).trans q) (fun _ q=>q) fun _ _ q=>q
  rintro rfl
  rcases hc with rfl | hc
  ·rw [hC] at e; cases e
  ·rw [hC] at hc; cases hc
 ·obtain ⟨_,f1,_,f3,f4,f5⟩:=hf b hb
  exact ⟨f3,f1,f4,f5⟩
end
end L2
namespace L2
open PySem PySem.Spec PyProof.Rows
section
variable {prog:Program} {w:World} {A:Around} {R:Result->Shared->Prop} {s:Shared}
theorem Zg2 {elt target iter:Expr} {ifs:List Expr} {scope:Scope} {pos:Pos} {it acc:Value} {env:Env} (I:Nat->Shared->Prop)
  (turn:∀ n s,I n s->wpAny (model prog w) A (pyNext it) (fun r s₁=>match r with
   | none=>R (.ok .next) s₁
   | some v=>wpAny (model prog w) A (letOwnedTupleGo target it v) (fun _ s₁'=>wpAny (model prog w) A (assign target env v) (fun _ s₂ =>
     wpAny (model prog w) A (forIn ifs true fun c r=>if r=true then do let ok <- isTrue c env (eval c env); pure (ForInStep.yield ok) else pure (ForInStep.yield r)) (fun ok s₃ =>
      if ok=true then wpAny (model prog w) A (eval elt env) (fun x s₄ =>
       wpAny (model prog w) A (call (.builtin "list.append") [acc,x]) (fun _ s₅=>∃ m,m < n/\I m s₅) (fun _ _=>False) s₄) (fun _ _=>False) s₃
      else ∃ m,m < n/\I m s₃) (fun _ _=>False) s₂) (fun _ _=>False) s₁') (fun _ _=>False) s₁) (fun _ _=>False) s)
  (n:Nat) (h:I n s):codeAny (model prog w) A (.compLoop (.ListComp elt [⟨target,iter,ifs,0⟩] scope pos) 0 it acc env) R s:=by
 refine codeAny_loop rfl I (fun n s hI=>?_) n h
 show wpAny _ A ((compTurn (.ListComp elt [⟨target,iter,ifs,0⟩] scope pos) 0 it acc env).onRaise (fun x=>do noteFrame x env; theTreesLotGoes x)) _ _ s
 refine wpAny_noted ?_
 rw [compTurn_list]
 have up:∀ {α:Type} {t:Sem α} {Q:α->Shared->Prop} {s:Shared} {E:Value->Shared->Prop},wpAny (model prog w) A t Q (fun _ _=>False) s->wpAny (model prog w) A t Q E s:=fun h=>wpAny_noRaise h
 refine Pe (wpAny_standAt (Pe (up (Am (turn n s hI) fun r s₁ h₁=>?_))))
 cases r with
 | none=>exact Pf h₁
 | some v =>
  refine Pe (up (Am h₁ fun _ s₁' h₁'=>?_))
  refine Pe (up (Am h₁' fun _ s₂ h₂=>Pe (up (Am h₂ fun ok s₃ h₃=>?_))))
  cases ok with
  | false=>exact Pf ⟨rfl,h₃⟩
  | true =>
   exact Pe (Pe (up (Am h₃ fun x s₄ h₄=>Pe (up (Am h₄ fun _ s₅ h₅=>Pf (Pf ⟨rfl,h₅⟩))))))
end
noncomputable def Lb (J:It) (g:TG) (tt:TT) (te:TE) (σ0:St) (H1:Hp) (D:Addr) (Q:VK):Prop :=
 ∃ W:Nat->Nat->St->Hp->Prop,(∃ m,W 0 m σ0 (upd H1 D (.lst [])))/\∀ i m σ' H',W i m σ' H' ->
  (J.stop i H'/\Q (.ref D) H')\/(J.go i H'/\∃ N:St->Hp->Prop,(∀ σ2 H2,N σ2 H2->∃ m',m' < m/\W (i + 1) m' σ2 H2)/\∀ x H2,J.yld i H' x H2->g x σ' H2 fun σ2 H3=>tt σ2 H3 fun b H4 =>
   if b=true then te σ2 H4 fun y H5=>∃ ys,H5 D=some (.lst ys)/\ys.length < sizeLine/\N σ2 (upd H5 D (.lst (ys++[y]))) else N σ2 H4)
noncomputable def Jh (wi:TI) (σ0:St->St) (g:TG) (tt:TT) (te:TE):TE:=fun σ H Q=>wi σ H fun J H1=>∀ D,H1 D=none->Lb J g tt te (σ0 σ) H1 D Q
noncomputable def G8 (X:Cx) (ifs:List Expr) (t:TT):Prop :=
 ∀ (pins:List (Addr×Obj)) (s:Shared) (σ:St) (H:Hp) (Q:Bool->Hp->Prop),Inv X pins σ H s->t σ H Q ->
  wpAny (model X.prog X.w) X.A (forIn ifs true fun c r=>if r=true then do let ok <- isTrue c X.env (eval c X.env); pure (ForInStep.yield ok) else pure (ForInStep.yield r)) (TP X pins σ Q) X.xe s
noncomputable def Zas:TT:=fun _ H Q=>Q true H
theorem Znx {X:Cx}:G8 X [] Zas:=fun _ _ _ H _ I h=>wpAny_tests_nil ⟨H,I,h⟩
section
variable {X:Cx} {elt target iter:Expr} {ifs:List Expr} {scope:Scope} {pos:Pos} {N:List Str} {wi:TI} {σ0:St->St} {g:TG} {tt:TT} {te:TE}
theorem Zbu {pins:List (Addr×Obj)} {σ:St} {H:Hp} {s:Shared} {it:Addr} {fp:List Addr} {tn:Nat->Heap->Prop} {J:It} {Q:Addr->Hp->Prop} {RR:Value->Addr->Result->Shared->Prop} {E:Value->Shared->Prop}
  (hc:X.calm=true) (S:Gx scope X.env) (T:F3 X scope N σ (σ0 σ)) (I:Inv X pins σ H s) (Tn:Gq X.prog X.w X.K target J fp it tn) (st:tn 0 s.heap) (hf:∀ b∈fp,FpOk X pins H b)
  (hg:∀ C s H fp,PG (Cq X scope C N s H fp) target g) (ht:∀ C s H fp,G8 (Cq X scope C N s H fp) ifs tt) (he:∀ C s H fp,PE (Cq X scope C N s H fp) elt te)
  (hw:∀ D,H D=none->∃ W:Nat->Nat->St->Hp->Prop,(∃ m,W 0 m (σ0 σ) (upd H D (.lst [])))/\∀ i m σ' H',W i m σ' H' ->
   (J.stop i H'/\Q D H')\/(J.go i H'/\∃ N:St->Hp->Prop,(∀ σ2 H2,N σ2 H2->∃ m',m' < m/\W (i + 1) m' σ2 H2)/\∀ x H2,J.yld i H' x H2->g x σ' H2 fun σ2 H3=>tt σ2 H3 fun b H4 =>
    if b=true then te σ2 H4 fun y H5=>∃ ys,H5 D=some (.lst ys)/\ys.length < sizeLine/\N σ2 (upd H5 D (.lst (ys++[y]))) else N σ2 H4))
  (hR:∀ (D C:Addr) (H':Hp) (s':Shared) (m:Str->Option Value),s.heap.objs.size<=C->H' C=none->s'.heap.Ns C m->(∀ h',Px C s'.heap h'->Inv X pins σ H' { s' with heap:=h' })->Q D H'->RR (.ref D) C (.ok .next) s') :
  wpAny (model X.prog X.w) X.A (newList []) (fun acc s₃=>wpAny (model X.prog X.w) X.A (newFunctionEnv scope X.env.globals (Dr X.env scope.names []) [] X.env.qual none .none (some X.env)) (fun cenv s₄ =>
   codeAny (model X.prog X.w) X.A (.compStart (.ListComp elt [⟨target,iter,ifs,0⟩] scope pos) 0 (.ref it) acc { cenv with scope:=relabel scope X.env }) (RR acc cenv.locals) s₄) E s₃) E s:=by
 refine Rr (wpAny_newFunctionEnv S.nocell (by intro y hy; simp at hy) (fun h₁ hns₁ hsb₁=>?_) S.kind)
 have hD:H s.heap.objs.size=none:=I.hok.fresh (Ph _)
 have I3:Inv X pins σ (upd H s.heap.objs.size (.lst [])) { s with heap:=s.heap.push { cls:=.type "list",dict:=none,data:=.seq ([]:List Value).toArray } }:=I.lnew (ys:=[]) (its:=[]) (t':=s.toks) .nil (by simp)
 have hlt:∀ b∈fp,b < s.heap.objs.size:=fun b hb=>by obtain ⟨o,e,_⟩:=Tn.obj _ _ st b hb; exact Pl e
 have hf3:∀ b∈fp,FpOk X pins (upd H s.heap.objs.size (.lst [])) b:=fun b hb=>⟨by rw [Af (Pw (hlt b hb))]; exact (hf b hb).1,(hf b hb).2⟩
 have hlt3:∀ b∈fp,b < ({ s with heap:=s.heap.push { cls:=.type "list",dict:=none,data:=.seq ([]:List Value).toArray } }:Shared).heap.objs.size:=fun b hb=>by
  show b < (s.heap.push _).objs.size
  rw [Qf]
  exact Nat.lt_succ_of_lt (hlt b hb)
 have hk1:∀ b o,({ s with heap:=s.heap.push { cls:=.type "list",dict:=none,data:=.seq ([]:List Value).toArray } }:Shared).heap.get? b=some o->h₁.get? b=some o:=fun b o e =>
  hsb₁.extBut b o (Pw (Pl e)) (Pj _ e)
 have I4:=Zpf (N:=N) (tk:=s.toks + ([]:List (Str×Value)).length) I3 S hf3 hlt3 T hns₁ hk1
 have st4:tn 0 h₁:=Tn.keep _ _ _ st fun b hb o e=>hk1 b o (Pj _ e)
 obtain ⟨W,⟨m0,w0⟩,turn⟩:=hw _ hD
 generalize hX:Cq X scope ({ s with heap:=s.heap.push { cls:=.type "list",dict:=none,data:=.seq ([]:List Value).toArray } }:Shared).heap.objs.size N { s with heap:=s.heap.push { cls:=.type "list",dict:=none,data:=.seq ([]:List Value).toArray } } (upd H s.heap.objs.size (.lst [])) fp=X' at I4
 have eP:X'.prog=X.prog:=by rw [<- hX]; rfl
 have eW:X'.w=X.w:=by rw [<- hX]; rfl
 have eK:X'.K=X.K:=by rw [<- hX]; rfl
 have eA:X'.A=X.A:=by rw [<- hX]; rfl
 have eC:X'.calm=true:=by rw [<- hX]; exact hc
 have eX:X'.xe=fun _ _=>False:=by rw [<- hX]; rfl
 have eEx:X'.ex=fp:=by rw [<- hX]; rfl
 have hg':PG X' target g:=by rw [<- hX]; exact hg _ _ _ _
 have ht':G8 X' ifs tt:=by rw [<- hX]; exact ht _ _ _ _
 have he':PE X' elt te:=by rw [<- hX]; exact he _ _ _ _
 have eE:X'.env=compEnvC scope (Dr X.env scope.names []) ({ s with heap:=s.heap.push { cls:=.type "list",dict:=none,data:=.seq ([]:List Value).toArray } }:Shared).heap.objs.size X.env:=by rw [<- hX]; rfl
 have fpIn:∀ {H':Hp},(∀ b∈fp,H' b=none)->∀ b∈fp,FpOk X' [] H' b:=fun {H'} hn b hb=>by
  obtain ⟨f0,f1,f2,f3,f4,f5⟩:=hf3 b hb
  rw [<- hX]
  refine ⟨hn b hb,Pw (hlt3 b hb),fun z=>?_,.inl hb,fun x c e=>f4 x c (Za8 (ns:=scope.names) (acc:=[]) (fun y d z=>by simp at z) e),fun p hp=>absurd (show p∈([]:List (Addr×Obj)) from hp) (by simp)⟩
  rcases Pm.mp (I3.stkSub b z) with e | e
  ·exact f1 e
  ·exact f2 e
 have fr0:∀ b∈fp,upd H s.heap.objs.size (.lst []) b=none:=fun b hb=>(hf3 b hb).1
 have loop:codeAny (model X.prog X.w) X.A (.compLoop (.ListComp elt [⟨target,iter,ifs,0⟩] scope pos) 0 (.ref it) (.ref s.heap.objs.size) X'.env)
   (RR (.ref s.heap.objs.size) ({ s with heap:=s.heap.push { cls:=.type "list",dict:=none,data:=.seq ([]:List Value).toArray } }:Shared).heap.objs.size)
   { s with heap:=h₁,toks:=s.toks + ([]:List (Str×Value)).length }:=by
  refine Zg2 (fun n s'=>∃ i σ' H',Inv X' [] σ' H' s'/\tn i s'.heap/\(∀ b∈fp,H' b=none)/\W i n σ' H') ?_ m0 ⟨0,σ0 σ,_,I4,st4,fr0,w0⟩
  rintro n s5 ⟨i,σ5,H5,I5,st5,fr5,w5⟩
  rcases turn i n σ5 H5 w5 with ⟨stop,qn⟩ | ⟨go,Nx,hN,step⟩
  ·have q:=Tn.done X' eP eW eK eC i [] s5 σ5 H5 (fun _ _=>False) I5 (fpIn fr5) st5 stop
   rw [eA] at q
   refine Am q fun r s6 zq=>?_
   obtain ⟨hr,I6⟩:=zq
   subst hr
   obtain ⟨mm,hns6,_⟩:=I6.loc
   rw [eE] at hns6
   have fr6:=I6.free
   rw [eE] at fr6
   refine hR _ _ H5 s6 mm ?_ fr6 hns6 (fun h' hs=>?_) qn
   ·show s.heap.objs.size<=(s.heap.push _).objs.size
    rw [Qf]
    exact Vm _
   ·rw [<- hX] at I6
    exact Zqx I3 hf3 I6 hs
  ·have q:=Tn.item X' eP eW eK eC i [] s5 σ5 H5 (fun _ _=>False) I5 (fpIn fr5) st5 go
   rw [eA] at q
   refine Am q fun r s6 zq=>?_
   obtain ⟨u,hr,h6⟩:=zq
   subst hr
   refine Am h6 fun _ s7 zq=>?_
   obtain ⟨x,H7,I7,r7,y7,st7,fr7⟩:=zq
   have I7':=I7.pinned (fpIn fr7) (Tn.obj _ _ st7)
   have q8:=hg' _ s7 σ5 H7 x u _ I7' r7 (step x H7 y7)
   rw [eP,eW,eA,eX] at q8
   refine Am q8 fun _ s8 zq=>?_
   obtain ⟨σ8,H8,I8,q8⟩:=zq
   have q9:=ht' _ s8 σ8 H8 _ I8 q8
   rw [eP,eW,eA,eX] at q9
   refine Am q9 fun ok s9 zq=>?_
   obtain ⟨H9,I9,q9⟩:=zq
   have again:∀ {σ10:St} {H10:Hp} {s10:Shared},Inv X' ([]++Io fp s7.heap) σ10 H10 s10->Nx σ10 H10->∃ m,m < n/\∃ i σ' H',Inv X' [] σ' H' s10/\tn i s10.heap/\(∀ b∈fp,H' b=none)/\W i m σ' H':=fun {σ10 H10 s10} J10 n10=>by
    obtain ⟨m',hm,w10⟩:=hN σ10 H10 n10
    refine ⟨m',hm,i + 1,σ10,H10,J10.unpinned,Tn.keep _ _ _ st7 fun b hb o e=>(J10.pin (b,o) (Q5 _ (Q5 _ (Mv hb e)))).1,fun b hb=>?_,w10⟩
    obtain ⟨o,e,d⟩:=Tn.obj _ _ st7 b hb
    exact (J10.pin (b,o) (Q5 _ (Q5 _ (Mv hb e)))).2.1
   cases ok with
   | false =>
    have q9':Nx σ8 H9:=q9
    exact again I9 q9'
   | true =>
    have q9':te σ8 H9 _:=q9
    have q10:=he' _ s9 σ8 H9 _ I9 q9'
    rw [eP,eW,eA,eX] at q10
    refine Am q10 fun y s10 zq=>?_
    obtain ⟨yv,H10,I10,r10,ys,hys,hz,n10⟩:=zq
    have q11:=(Bz (X:=X')) _ s10 σ8 H10 (.ref s.heap.objs.size) [yv] (.ref s.heap.objs.size) [y] (fun _ H11=>Nx σ8 H11) I10 rfl (.cons r10 .nil) ⟨_,ys,yv,rfl,rfl,hys,hz,n10⟩
    rw [eP,eW,eA,eX] at q11
    exact Am q11 fun _ s11 ⟨_,H11,I11,_,n11⟩=>again I11 n11
 rw [eE] at loop
 exact codeAny_compStart_list loop (Tn.self _ 0 _ _ _ st4 loop)
theorem Zoz (hc:X.calm=true) (S:Gx scope X.env) (hi:PI X target iter wi) (T:∀ σ,σ.length=X.N.length->F3 X scope N σ (σ0 σ))
  (hg:∀ C s H fp,PG (Cq X scope C N s H fp) target g) (ht:∀ C s H fp,G8 (Cq X scope C N s H fp) ifs tt) (he:∀ C s H fp,PE (Cq X scope C N s H fp) elt te)
  (hs:∀ x,foldedSetIterable iter X.env x=pure x:=by intro _; rfl):PE X (.ListComp elt [⟨target,iter,ifs,0⟩] scope pos) (Jh wi σ0 g tt te):=by
 intro pins s σ H Q I h
 rw [eval_ListComp]
 refine wpAny_comprehension_free (use:=none) rfl hs (Zby S.free) S.kind S.loc (Am (hi pins s σ H _ I h) fun xv s₁ h₁=>Am h₁ fun itv s₂ h₂=>?_)
 obtain ⟨it,fp,tn,J,H2,rfl,I2,Tn,st2,f2,hw⟩:=h₂
 refine Zbu (Q:=fun D H'=>Q (.ref D) H') (RR:=fun acc C=>compPost (model X.prog X.w) X.A X.xe none (EP X pins σ Q) acc C) hc S (T σ I.len) I2 Tn st2 f2 hg ht he hw ?_
 intro D C H' s' m hC _ hn hI hq
 exact ⟨m,hn,fun h' hs'=>⟨.ref D,H',hI h' hs',rfl,hq⟩⟩
theorem Zih {i:Nat} {y:Str} {py spos:Pos} (hc:X.calm=true) (S:Gx scope X.env) (hi:PI X target iter wi) (T:∀ σ,σ.length=X.N.length->F3 X scope N σ (σ0 σ))
  (hg:∀ C s H fp,PG (Cq X scope C N s H fp) target g) (ht:∀ C s H fp,G8 (Cq X scope C N s H fp) ifs tt) (he:∀ C s H fp,PE (Cq X scope C N s H fp) elt te)
  (hN:X.N.Nodup) (hy:X.N[i]?=some y) (hx:Ez X.env.scope y)
  (hsw:swapsWith (.ListComp elt [⟨target,iter,ifs,0⟩] scope pos) (some (.Name y py)) spos.line X.env=pure true:=by rfl)
  (hf:X.fn y=true\/X.env.scope.names.lookup y=some .local:=by first | exact .inl rfl | exact .inr rfl | assumption)
  (hs:∀ x,foldedSetIterable iter X.env x=pure x:=by intro _; rfl):PS X (.Assign [.Name y py] (.ListComp elt [⟨target,iter,ifs,0⟩] scope pos) spos) (Fw (Jh wi σ0 g tt te) (Ft i)):=by
 intro pins s σ H D I h
 rw [exec_Assign_Name_used _ _ _ _ hsw]
 refine Pe (wpAny_standAt (Pe ?_))
 show wpAny _ X.A (do let _ <- comprehension (.ListComp elt [⟨target,iter,ifs,0⟩] scope pos) scope X.env _ (newList []) false (eval iter X.env) (some (assign (.Name y py) X.env))) _ _ s
 refine Pe (Am (wpAny_comprehension_free (use:=some (assign (.Name y py) X.env)) (Q:=fun _ s'=>SP X pins D .next s') rfl hs (Zby S.free) S.kind S.loc
  (Am (hi pins s σ H _ I h) fun xv s₁ h₁=>Am h₁ fun itv s₂ h₂=>?_)) fun _ s' hq=>Pf (Pf hq))
 obtain ⟨it,fp,tn,J,H2,rfl,I2,Tn,st2,f2,hw⟩:=h₂
 refine Zbu (Q:=fun L H'=>D.nx (σ.set i (some (.ref L))) H') (RR:=fun acc C=>compPost (model X.prog X.w) X.A X.xe (some (assign (.Name y py) X.env)) (fun _ s'=>SP X pins D .next s') acc C) hc S (T σ I.len) I2 Tn st2 f2 hg ht he hw ?_
 intro L C H' s' m hC hfree hn hI hq
 have I3:Inv X pins σ H' s':=hI s'.heap (.refl ..)
 refine wpAny_assign_Name (Zcz I3 hN hy hx (v:=.ref L) rfl (fun s4 I4 hch=>?_) hf)
 obtain ⟨a,hsb,ha⟩:=hch
 have haC:C≠a:=by
  rintro rfl
  rcases ha with e | e
  ·have:=I2.lt
   rw [<- e] at this
   exact absurd (P6 this hC) (Qr _)
  ·obtain ⟨v,z⟩:=I2.cell y _ e
   exact absurd (P6 z.lt hC) (Qr _)
 refine ⟨m,hn.sameBut hsb haC,fun h' hs'=>⟨_,H',?_,hq⟩⟩
 have e4:({ s4 with heap:=h' }:Shared)={ s4 with heap:=h',toks:=s4.toks }:=rfl
 rw [e4]
 refine I4.turned (it:=C) (fun b o hb e=>(hs'.2 b hb).trans e) hfree ?_ (.inr (Qd I2.sz hC)) ?_ ?_
 ·exact Ql (P6 I2.lt hC)
 ·rintro x c e rfl
  obtain ⟨v,z⟩:=I2.cell x _ e
  exact absurd (P6 z.lt hC) (Qr _)
 ·rintro p hp e
  exact absurd (P6 (Pl (I2.pin p hp).1) (by rw [e]; exact hC)) (Qr _)
end
end L2
namespace L2
open PySem PySem.Spec PyProof.Rows
section
variable {X:Cx}
theorem Zoa {K:Pd} {T:String}:Rb K (.type T) (.type T)=some true:=by
 unfold Rb
 rw [if_pos (by simp)]
theorem Zl2 {K:Pd} {T U:String} {b:Bool} {l:List Value} (hm:PySem.W.kitMeta U=true) (hn:¬ T=U) (hl:fastBuiltinMro T=some l) (hb:l.contains (.type U)=b):Rb K (.type T) (.type U)=some b:=by
 unfold Rb
 rw [if_neg (by simp [hn])]
 show (if PySem.W.kitMeta U=true then R6 K (.type T) (.type U) else none)=some b
 rw [if_pos hm]
 show (fastBuiltinMro T).map (·.contains (.type U))=some b
 rw [hl,<- hb]
 rfl
theorem Zke:OpR X (compareOp .LtE) (fun x y H Q=>∃ i j,x=.str i/\y=.str j/\Q (.bl (!(decide (j.cps.toList < i.cps.toList)))) H):=by
 intro pins s σ H x y v u Q I rx ry h
 obtain ⟨i,j,rfl,rfl,q⟩:=h
 obtain ⟨t,rfl⟩:=rx
 obtain ⟨t',rfl⟩:=ry
 exact PySem.P.le_str (Bo I q rfl)
theorem Zi2:OpR X (compareOp .In) (fun x y H Q=>∃ (c:Nat) (j:Str),x=.str ⟨#[c]⟩/\y=.str j/\Q (.bl (decide (c∈j.cps.toList))) H):=by
 intro pins s σ H x y v u Q I rx ry h
 obtain ⟨c,j,rfl,rfl,q⟩:=h
 exact Zhy pins s σ H _ _ v u Q I rx ry ⟨_,_,rfl,rfl,by rw [StrLaws.found_one]; exact q⟩
noncomputable def Ou:V->Option Int->Option Int->Hp->VK->Prop:=fun x lo hi H Q=>∃ z,x=.str z/\z.length<=sizeLine/\Q (.str (T8 z lo hi)) H
theorem sl_str:SlR X Ou:=by
 intro pins s σ H x v vl vu lo hi sl Q I rx hs pl pu h
 obtain ⟨z,rfl,hz,q⟩:=h
 obtain ⟨t,rfl⟩:=rx
 obtain ⟨o,ho,hc,hd⟩:=hs
 refine ⟨"str",_,slot_str_getitem.lookup,typeIs_str _ _ _,?_⟩
 cases pl with
 | none =>
  cases pu with
  | none=>exact Uk (l:=none) (u:=none) (st:=none) ⟨_,ho,hc,hd⟩ rfl (U3 ⟨Qd (Vh z _ _) hz,fun t' k=>⟨.str (T8 z _ _),H,I.tok k,⟨t',rfl⟩,q⟩⟩)
  | int j u=>exact Uk (l:=none) (u:=some (j,u)) (st:=none) ⟨_,ho,hc,hd⟩ rfl (U3 ⟨Qd (Vh z _ _) hz,fun t' k=>⟨.str (T8 z _ _),H,I.tok k,⟨t',rfl⟩,q⟩⟩)
 | int i ti =>
  cases pu with
  | none=>exact Uk (l:=some (i,ti)) (u:=none) (st:=none) ⟨_,ho,hc,hd⟩ rfl (U3 ⟨Qd (Vh z _ _) hz,fun t' k=>⟨.str (T8 z _ _),H,I.tok k,⟨t',rfl⟩,q⟩⟩)
  | int j u=>exact Uk (l:=some (i,ti)) (u:=some (j,u)) (st:=none) ⟨_,ho,hc,hd⟩ rfl (U3 ⟨Qd (Vh z _ _) hz,fun t' k=>⟨.str (T8 z _ _),H,I.tok k,⟨t',rfl⟩,q⟩⟩)
end
end L2
namespace L2
open PySem PySem.Spec PyProof.Rows
noncomputable def Its (z:Str):It:=⟨fun i _=>i < z.cps.size,fun i H x H'=>H'=H/\∃ c,z.cps.toList[i]?=some c/\x=.str ⟨#[c]⟩,fun i _=>i=z.cps.size⟩
theorem Zji (z:Str):["enumerate", "zip", "dict_itemiterator", "dict_reverseitemiterator", "odict_iterator", "itertools.zip_longest", "itertools.pairwise"].contains (strIterType z)=false:=by
 unfold strIterType
 cases z.cps.all (· < 128) <;> decide
theorem Zdl {P:Program} {w:World} {A:Around} (hh:A.handled=none) (it:Addr) (z:Str) (t:Tok):Walks P w A it [it] [it] z.cps.size (SignAt z) (fun i h=>h.IsStrIter it (strIterType z) z t i):=by
 unfold strIterType
 cases z.cps.all (· < 128)
 ·exact Walks.strWide hh it z t
 ·exact Walks.strAscii hh it z t
theorem Zmf {P:Program} {w:World} {K:Pd} {tg:Expr} (it:Addr) (z:Str) (t:Tok):Gq P w K tg (Its z) [it] it (fun i h=>h.IsStrIter it (strIterType z) z t i) where
 mem:=by simp
 obj:=fun i h st b hb=>by
  have e:b=it:=by simpa using hb
  subst e
  obtain ⟨o,e,c,d⟩:=st
  exact ⟨o,e,fun v z=>by rw [d] at z; cases z⟩
 keep:=fun i h h' st k=>let ⟨o,e,r⟩:=st; ⟨o,k it (by simp) o e,r⟩
 item:=by
  intro X hP hw hK hc i pins s σ H E I hf st hg
  subst hP hw hK
  obtain ⟨f0,f1,f2,f3,f4,f5⟩:=hf it (by simp)
  refine (Zdl (P:=X.prog) (w:=X.w) (I.ok.hd hc) it z t).item i s _ _ hg st fun v h' tk hv st' kk=>?_
  obtain ⟨c,u,hcu,rfl⟩:=hv
  have I1:Inv X pins σ H { s with heap:=h',toks:=tk }:=I.turned (fun b o hb e=>kk b o (by simpa using hb) e) f0 f1 f3 f4 f5
  obtain ⟨o,e,cc,d⟩:=id st'
  exact ⟨_,rfl,Kz (s:={ s with heap:=h',toks:=tk }) e cc d (Zji z) ⟨.str ⟨#[c]⟩,H,I1,⟨u,rfl⟩,⟨rfl,c,by simpa using hcu,rfl⟩,st',fun b hb=>(hf b hb).1⟩⟩
 done:=by
  intro X hP hw hK hc i pins s σ H E I hf st hg
  subst hP hw hK
  obtain ⟨f0,f1,f2,f3,f4,f5⟩:=hf it (by simp)
  have hg:i=z.cps.size:=hg
  subst hg
  exact (Zdl (P:=X.prog) (w:=X.w) (I.ok.hd hc) it z t).done s _ _ st fun h' tk kk=>⟨rfl,I.turned (fun b o hb e=>kk b o (by simpa using hb) e) f0 f1 f3 f4 f5⟩
 self:=fun A i s Q E st h=>by
  obtain ⟨o,e,c,d⟩:=st
  unfold strIterType at c
  cases ha:z.cps.all (· < 128)
  ·rw [ha] at c; exact wpAny_pyIter_striter_wide ⟨o,e,c,d⟩ h
  ·rw [ha] at c; exact wpAny_pyIter_striter_ascii ⟨o,e,c,d⟩ h
section
variable {X:Cx} {tg:Expr}
end
section
variable {g:TG} {tt:TT} {te:TE} {σ0:St} {H1:Hp} {D:Addr} {Q:VK}
noncomputable def Oh (g:TG) (tt:TT) (te:TE) (D:Addr) (Nx:List V->St->Hp->Prop) (x:V) (σ:St) (H:Hp):Prop :=
 g x σ H fun σ2 H3=>tt σ2 H3 fun b H4=>if b=true then te σ2 H4 fun y H5=>∃ ys,H5 D=some (.lst ys)/\ys.length < sizeLine/\(∃ zs,upd H5 D (.lst (ys++[y])) D=some (.lst zs)/\Nx zs σ2 (upd H5 D (.lst (ys++[y])))) else ∃ zs,H4 D=some (.lst zs)/\Nx zs σ2 H4
theorem Jw {K:Pd} {a:Addr} {xs:List V} (Pv:Nat->List V->St->Hp->Prop) (h0:Pv 0 [] σ0 (upd H1 D (.lst []))) (hl:∀ i ys σ H,i<=xs.length->Pv i ys σ H->SqL K H a xs)
  (hs:∀ i x ys σ H,xs[i]?=some x->H D=some (.lst ys)->Pv i ys σ H->Oh g tt te D (Pv (i + 1)) x σ H)
  (hd:∀ ys σ H,H D=some (.lst ys)->Pv xs.length ys σ H->Q (.ref D) H):Lb (Gw K a) g tt te σ0 H1 D Q:=by
 refine ⟨fun i m σ H=>m=xs.length - i/\i<=xs.length/\∃ ys,H D=some (.lst ys)/\Pv i ys σ H,⟨xs.length,by simp,Pn _,[],Ad,h0⟩,?_⟩
 rintro i m σ H ⟨rfl,hi,ys,hD,p⟩
 have q:=hl i ys σ H hi p
 by_cases hlt:i < xs.length
 ·refine .inr ⟨⟨xs,xs[i],q,by simp [hlt]⟩,fun σ2 H2=>∃ zs,H2 D=some (.lst zs)/\Pv (i + 1) zs σ2 H2,fun σ' H' p'=>⟨xs.length - (i + 1),by omega,rfl,hlt,p'⟩,fun x H' y=>?_⟩
  obtain ⟨e,y⟩:=y
  subst e
  exact hs i x ys σ _ (y xs q) hD p
 ·have e:i=xs.length:=by omega
  subst e
  exact .inl ⟨⟨xs,q,Ph _⟩,hd ys σ H hD p⟩
end
section
variable {X:Cx}
theorem Zei:∀ {bs:List Bool} {us:List Value},Vals (bs.map V.bl) us->us=bs.map Value.bool
 | [],_,.nil=>rfl
 | b :: bs,_,.cons r t=>by
  cases r
  rw [Zei t]
  rfl
theorem Zkc {bs:List Bool}:(P3 bs.length).all (fun i=>bs.getD i true)=bs.all id:=by
 induction bs with
 | nil=>rfl
 | cons b r ih =>
  rw [P9,List.range_succ_eq_map,Rc,List.all_map,Rc]
  have:((fun i=>(b :: r).getD i true) ∘ Nat.succ)=fun i=>r.getD i true:=by
   funext i
   simp
  rw [this,ih]
  rfl
theorem Zmy (hc:X.calm=true):Cv X (.builtin "all") (fun xs H Q=>∃ (p:Addr) (bs:List Bool),xs=[.ref p]/\SqL X.K H p (bs.map V.bl)/\Q (.bl (bs.all id)) H):=by
 intro pins s σ H xs us Q I r h
 obtain ⟨p,bs,rfl,hq,q⟩:=h
 obtain ⟨u,rfl,ru⟩:=r.one
 cases ru
 obtain ⟨its,rv,pl,hz⟩:=I.list hq
 obtain rfl:=Zei rv
 refine call_all_walk (Tl pl.isList ?_)
 have hlt:p < s.heap.objs.size:=by obtain ⟨o,e,_⟩:=pl.isList; exact Pl e
 have hl':(s.heap.push { cls:=.type "list_iterator",data:=.fields #[.ref p,rawInt 0] }).IsList p (bs.map Value.bool).toArray:=pl.isList.at fun o e=>Pj _ e
 refine ⟨s.heap.objs.size,_,_,_,_,_,fun i=>bs.getD i true,rfl,Walks.list (A:=X.A.in1) (show X.A.in1.handled=none from I.ok.hd hc) s.heap.objs.size p (Pw hlt) (bs.map Value.bool).toArray,⟨⟨_,Py _ rfl,rfl,rfl⟩,?_⟩,?_,?_⟩
 ·exact pl.isList.at fun o e=>Pj _ e
 ·intro i v s' Q' E' hv hQ
  have hv':(bs.map Value.bool)[i]?=some v:=by simpa using hv
  rw [Qh] at hv'
  cases e:bs[i]? with
  | none=>rw [e] at hv'; cases hv'
  | some b =>
   rw [e] at hv'
   cases hv'
   have:bs.getD i true=b:=by simp [List.getD,e]
   have hQ:Q' (bs.getD i true) s':=hQ
   rw [this] at hQ
   exact Rh hQ
 ·intro h' tk hk
  have I1:Inv X pins σ H { s with heap:=s.heap.push { cls:=.type "list_iterator",data:=.fields #[.ref p,rawInt 0] } }:=I.kept (t':=s.toks) fun b o e=>Pj _ e
  have F:=I.fpOk (Ph s.heap.objs.size) (I.hok.fresh (Ph _))
  obtain ⟨f0,f1,f2,f3,f4,f5⟩:=F
  have I2:Inv X pins σ H { s with heap:=h',toks:=tk }:=Inv.turned (s:={ s with heap:=s.heap.push { cls:=.type "list_iterator",data:=.fields #[.ref p,rawInt 0] } }) (h':=h') (t':=tk) (it:=s.heap.objs.size) I1 (fun b o hb e=>hk b o (by simpa using hb) e) f0 f1 f3 f4 f5
  refine ⟨.bl (bs.all id),H,I2,?_,q⟩
  show Value.bool _=Value.bool _
  have:(bs.map Value.bool).toArray.size=bs.length:=by simp
  rw [this,Zkc]
end
end L2
namespace L2
open PySem PySem.Spec PyProof.Rows
theorem Same.upd {H:Hp} {p:Addr} {o:HO} (h:H p=none):Same H (upd H p o):=fun b u e=>by rw [Af (Ca e h)]; exact e
theorem Av {H:Hp} {a:Addr} (h:H a=none) (o:HO):∃ H1,Same H H1/\H1 a=some o/\upd H a o=H1:=⟨_,Same.upd h,Ad,rfl⟩
theorem Same.put {H0 H:Hp} {p:Addr} {o:HO} (s:Same H0 H) (h:H p=none):Same H0 (L2.upd H p o):=s.trans (Same.upd h)
theorem Same.over {H0 H:Hp} {p:Addr} {o:HO} (s:Same H0 H) (h:H0 p=none):Same H0 (L2.upd H p o):=fun b u e=>by rw [Af (Ca e h)]; exact s b u e
theorem Same.tup {K:Pd} {H H':Hp} {a:Addr} {xs:List V} (e:Same H H') (h:SqT K H a xs):SqT K H' a xs:=by
 rcases h with (h | ⟨o,h⟩) | h
 ·exact .inl (.inl (e _ _ h))
 ·exact .inl (.inr ⟨o,e _ _ h⟩)
 ·exact .inr h
theorem Ga {sc out:Scope} {qual:Str} {n:Nat} {f:Addr} {cd:Value} (hk:sc.kind=.function) (hc:(sc.names.all fun y=>y.2 != .cell)=true)
  (hl:(sc.names.all fun y=>y.2 != .local || sc.names.lookup y.1 == some .local)=true) (hf:(sc.names.all fun y=>y.2 != .free || out.names.lookup y.1 == some .cell)=true):Gx sc (envOfC qual out n f cd) where
 kind:=hk
 nocell:=fun y hy e=>by have:=Sh.mp hc y hy; rw [e] at this; cases this
 loc:=fun y hy e=>by
  have:=Sh.mp hl y hy
  rw [e] at this
  simpa using this
 free:=fun y hy e=>by
  have h:=Sh.mp hf y hy
  rw [e] at h
  have h:out.names.lookup y.1=some .cell:=by simpa using h
  obtain ⟨c,hc⟩:=Zbe (n:=n + 1) h
  show ((cellsFrom (n + 1) out.names []).lookup y.1).isSome=true
  rw [hc]
  rfl
noncomputable def Eh (k:Nat) (cap:List Nat) (σ:St):St:=Qg k none++cap.map fun j=>(σ[j]?).join
theorem Zrc {X:Cx} {scope:Scope} {N:List Str} {k:Nat} {cap:List Nat} {σ:St} (hl:k + cap.length=N.length)
  (h:∀ (i j:Nat) (x:Str),cap[i]?=some j->N[k + i]?=some x->X.N[j]?=some x/\scope.names.lookup x=some .free/\(X.env.kindOf x=some .cell\/X.env.kindOf x=some .free)):F3 X scope N σ (Eh k cap σ):=by
 refine ⟨by unfold Eh; simp [hl],fun i x v hx hv=>?_⟩
 unfold Eh at hv
 by_cases hi:i < k
 ·rw [Qa (by simpa using hi),List.getElem?_replicate,if_pos hi] at hv
  cases hv
 ·rw [Q2 (by simpa using hi),List.length_replicate,Qh] at hv
  cases hj:cap[i - k]? with
  | none=>rw [hj] at hv; cases hv
  | some j =>
   rw [hj] at hv
   have hv:(σ[j]?).join=some v:=Qi hv
   obtain ⟨h1,h2,h3⟩:=h (i - k) j x hj (by rw [show k + (i - k)=i by omega]; exact hx)
   refine ⟨j,h1,?_,h2,h3⟩
   cases e:σ[j]? with
   | none=>rw [e] at hv; cases hv
   | some o=>rw [e] at hv; exact congrArg some hv
theorem Gj {X:Cx} {scope:Scope} {N:List Str} {k:Nat} {cap:List Nat} (hl:k + cap.length=N.length)
  (h:((cap.zip (N.drop k)).all fun p=>X.N[p.1]? == some p.2 && scope.names.lookup p.2 == some .free && (X.env.kindOf p.2 == some .cell || X.env.kindOf p.2 == some .free))=true):∀ σ,σ.length=X.N.length->F3 X scope N σ (Eh k cap σ):=fun σ _ =>
 Zrc hl fun i j x hj hx=>by
  have m:(j,x)∈cap.zip (N.drop k):=by
   refine Qv (i:=i) ?_
   rw [List.getElem?_zip_eq_some]
   exact ⟨hj,by rw [List.getElem?_drop]; exact hx⟩
  have:=Sh.mp h _ m
  simp only [Rk,Bool.or_eq_true,beq_iff_eq] at this
  exact ⟨this.1.1,this.1.2,this.2⟩
theorem Zfr {α:Type} {xs:List α} {i:Int} (h0:0<=i) (h1:i < xs.length):∃ v,Cf xs i=some v/\v∈xs:=by
 have hj:i.toNat < xs.length:=by omega
 refine ⟨xs[i.toNat],?_,Tp hj⟩
 have:=Bh (xs:=xs) (j:=i.toNat) (v:=xs[i.toNat]) (by simp [hj])
 rwa [Us h0] at this
noncomputable def N3:Expr->Option V
 | .Constant (.str x) _ _=>some (.str x)
 | .Constant (.int i) _ _=>some (.int i)
 | .Constant (.bool b) _ _=>some (.bl b)
 | .Constant .none _ _=>some .non
 | _=>none
noncomputable def Nf:List Expr->Option (List V)
 | []=>some []
 | e :: es=>match N3 e,Nf es with
  | some v,some vs=>some (v :: vs)
  | _,_=>none
noncomputable def Nv (xs:List V):TA:=fun _ H Q=>Q xs H
theorem Zq3 {X:Cx} {e:Expr} {v:V} (h:N3 e=some v):PE X e (tC v)/\∀ es,starEach (e :: es) X.env=(false,eval e X.env) :: starEach es X.env:=by
 unfold N3 at h
 split at h
 ·cases h; exact ⟨Zcf,fun _=>rfl⟩
 ·cases h; exact ⟨Zfu,fun _=>rfl⟩
 ·cases h; exact ⟨Zdh,fun _=>rfl⟩
 ·cases h; exact ⟨Zgj,fun _=>rfl⟩
 ·cases h
theorem Zdc {X:Cx}:∀ {es:List Expr} {xs:List V},Nf es=some xs->PA X es (Nv xs)
 | [],xs,h=>by
  have h:some []=some xs:=h
  cases h
  exact Zfs
 | e :: es,xs,h=>by
  unfold Nf at h
  split at h
  ·rename_i v vs h1 h2
   cases h
   obtain ⟨p,hs⟩:=Zq3 (X:=X) h1
   exact Zeo p (Zdc h2) (hs es)
  ·cases h
structure Bb (P:Program) (w:World) (K:Pd) (mg:Str->Option Value) (base:Heap) (k:Nat) (x:Str) (ps:List Str) (sp:Sp):Prop where
 ex:∃ (f:Addr) (fd:FuncData),FnOk P w K mg base Ar k f fd ps sp/\mg x=some (.ref f)/\Ra K (.ref f)=true/\Binds K fd ps []
section
variable {X:Cx} {k:Nat} {x:Str} {ps:List Str} {sp:Sp} {p pos:Pos} {e:Expr} {es:List Expr} {t:TA}
theorem Zou (C:Bb X.prog X.w X.K X.mg X.base k x ps sp) (hr:Room k X.A) (ha:PA X (e :: es) t) (hg:Gl X x:=by rfl) (hdb:(x == ("__debug__" : Str))=false:=by decide)
  (he:starEach (e :: es) X.env=(false,eval e X.env) :: starEach es X.env:=by rfl) (hpl:(backTo pos (starEach es X.env)).any (·.1)=false:=by rfl):PE X (.Call (.Name x p) (e :: es) [] pos) (Kq sp [] E0 t):=by
 obtain ⟨f,fd,F,hm,hk,hb⟩:=C.ex
 exact Zer F hr hg hm hk hb .nil C5 ha hdb he hpl
end
end L2
namespace L2
open PySem
theorem Zqf {x:V} {u:Value} (h:Mg u=some x):RelV x u:=by
 cases u <;> simp only [Mg] at h <;> first | (cases h; first | rfl | exact ⟨_,rfl⟩) | cases h
noncomputable def Eg:List Value->Option (List V)
 | []=>some []
 | u :: r=>match Mg u,Eg r with
  | some x,some xs=>some (x :: xs)
  | _,_=>none
theorem Zce:∀ {us:List Value} {xs:List V},Eg us=some xs->Vals xs us
 | [],xs,h=>by
  have h:some []=some xs:=h
  cases h
  exact .nil
 | u :: r,xs,h=>by
  unfold Eg at h
  split at h
  ·rename_i x ys h1 h2
   cases h
   exact .cons (Zqf h1) (Zce h2)
  ·cases h
theorem Gh {K:Pd} {a:Addr} {od:Option Addr} {its:Array Value} {n:Nat} {sl:Array (Option Value)} {xs:List V} (l:K.lookup a=some ⟨.type "tuple",od,.seq its n,sl⟩) (h:Eg its.toList=some xs) (hz:xs.length<=1000):∀ H,SqT K H a xs:=fun H=>by
 have v:=Zce h
 refine .inr ⟨_,its,n,l,rfl,rfl,?_,v⟩
 have e:=v.length
 have b:1000<=sizeLine:=by decide
 have e2:its.toList.length=its.size:=Ur
 omega
theorem Zc7 {P:Program} {w:World} {K:Pd} {mg:Str->Option Value} {base:Heap} {k:Nat} {x:Str} {ps:List Str} {sp:Sp} {f:Addr} {fd:FuncData} (F:FnOk P w K mg base Ar k f fd ps sp) (m:mg x=some (.ref f)) (kp:Ra K (.ref f)=true) (b:Binds K fd ps []):Bb P w K mg base k x ps sp:=⟨f,fd,F,m,kp,b⟩
section
variable {P:Program} {w:World} {K:Pd} {mg:Str->Option Value} {base:Heap}
end
end L2
set_option autoImplicit true
namespace L2
open PySem PySem.Spec PyProof.Rows
structure QE (X:Cx) (e:Expr) (t:TE):Prop where
 run:PE X e t
structure QT (X:Cx) (e:Expr) (t:TT):Prop where
 run:PT X e t
structure QW (X:Cx) (e:Expr) (t:TT):Prop where
 run:PW X e t
structure QA (X:Cx) (es:List Expr) (t:TA):Prop where
 run:PA X es t
structure QS (X:Cx) (st:Stmt) (t:TS):Prop where
 run:PS X st t
structure Ed (X:Cx) (sts:List Stmt) (t:TS):Prop where
 run:PSs X sts t
structure QG (X:Cx) (e:Expr) (g:TG):Prop where
 run:PG X e g
structure QGs (X:Cx) (es:List Expr) (g:D9):Prop where
 run:PGs X es g
structure QI (X:Cx) (tg iter:Expr) (wi:TI):Prop where
 run:PI X tg iter wi
structure QC (X:Cx) (op:CmpOp) (a b:Expr) (t:TE):Prop where
 run:PC X op a b t
structure QO (X:Cx) (e:Option Expr) (t:TO):Prop where
 run:PO X e t
structure QTs (X:Cx) (ifs:List Expr) (t:TT):Prop where
 run:G8 X ifs t
theorem Ac {i j pos}:QE X (.Constant (.int i) j pos) (tC (.int i)):=⟨Zfu⟩
theorem Dw {b j pos}:QE X (.Constant (.bool b) j pos) (tC (.bl b)):=⟨Zdh⟩
theorem Gf {j pos}:QE X (.Constant .none j pos) (tC .non):=⟨Zgj⟩
theorem As {x j pos}:QE X (.Constant (.str x) j pos) (tC (.str x)):=⟨Zcf⟩
theorem C2 {x:Str} {v:V} {u:Value} {pos:Pos} (hg:Gl X x) (hm:X.mg x=none) (hv:bootBuiltins x=some u) (r:RelV v u) (hn:x ≠ "__name__" := by decide) (hd:(x == ("__debug__" : Str))=false:=by decide):QE X (.Name x pos) (tC v):=⟨Zju hg hm hv r hn hd⟩
theorem Aj {op:Operator} {r:R2} (ho:OpR X (binaryOp op) r) (ha:QE X a ta) (hb:QE X b tb):QE X (.BinOp a op b pos) (Ev r ta tb):=⟨Zno ho ha.run hb.run⟩
theorem K2 {op:UnaryOp} {r:V->Hp->VK->Prop} (ho:UnR X (unaryOp op) r) (ha:QE X a ta):QE X (.UnaryOp op a pos) (tUn r ta):=⟨Zgm ho ha.run⟩
theorem Zbp {op:CmpOp} {t:TE} (h:QC X op a b t) (h1:behindInMarks op b=false:=by first | exact Ln _ (by decide) (by decide) | rfl):QE X (.Compare a [op] [b] pos) t:=⟨Zq8 h.run h1⟩
theorem Zct {op:CmpOp} {t:TE} (h:QC X op a b t) (h1:behindInMarks op b=false:=by first | exact Ln _ (by decide) (by decide) | rfl):QT X (.Compare a [op] [b] pos) (tB t):=⟨Zit h.run h1⟩
theorem C3 {op:CmpOp} {r:R2} (ho:OpR X (compareOp op) r) (ha:QE X a ta) (hb:QE X b tb) (hm:behindInMarks op b=false):QE X (.Compare a [op] [b] pos) (Ev r ta tb):=⟨Zp9 ho ha.run hb.run hm⟩
theorem Ax {op:CmpOp} {r:R2} (ho:OpR X (compareOp op) r) (ha:QE X a ta) (hb:QE X b tb) (hm:behindInMarks op b=false):QT X (.Compare a [op] [b] pos) (Ow (Ev r ta tb)):=⟨Zpm ho ha.run hb.run hm⟩
theorem Zpg {op op':CmpOp} {r r':R2} (ho:OpR X (compareOp op) r) (ho':OpR X (compareOp op') r') (ha:QE X a ta) (hb:QE X b tb) (hc:QE X c tc) (hm:lastMarks [op,op'] [b,c]=false:=by with_unfolding_all rfl):QE X (.Compare a [op,op'] [b,c] pos) (Oa r r' ta tb tc):=⟨Zme ho ho' ha.run hb.run hc.run hm⟩
theorem Dm {e:Expr} {t:TE} (h:QE X e t) (he:∀ whole,isTrue e X.env whole=(do let v <- whole; standAt e.pos; holding [v] (truthy v)):=by intro _; rfl):QT X e (tB t):=⟨Zkp h.run he⟩
theorem Dp (ha:QT X a tA):QW X (.BoolOp .And [a] pos) tA:=⟨pw_and1 ha.run⟩
theorem L9 (ha:QT X a tA):QW X (.BoolOp .Or [a] pos) tA:=⟨pw_or1 ha.run⟩
theorem Da {rest:List Expr} (ha:QT X a tA) (hb:QW X (.BoolOp .And (b :: rest) pos) tB'):QW X (.BoolOp .And (a :: b :: rest) pos) (Oy tA tB'):=⟨pw_and ha.run hb.run⟩
theorem Me {rest:List Expr} (ha:QT X a tA) (hb:QW X (.BoolOp .Or (b :: rest) pos) tB'):QW X (.BoolOp .Or (a :: b :: rest) pos) (tOr tA tB'):=⟨pw_or ha.run hb.run⟩
theorem Kj (ha:QT X a tA):QT X (.UnaryOp .Not a pos) (Zbf tA):=⟨Zm5 ha.run⟩
theorem Fd {op} {t:TE} (h:QE X a t):QE X (.BoolOp op [a] pos) t:=⟨Zjb h.run⟩
theorem Fl {rest:List Expr} (ha:QE X a ta) (hb:QE X (.BoolOp .And (b :: rest) pos) tb):QE X (.BoolOp .And (a :: b :: rest) pos) (Ob ta tb):=⟨Zlw ha.run hb.run⟩
theorem Zrh {rest:List Expr} (ha:QE X a ta) (hb:QE X (.BoolOp .Or (b :: rest) pos) tb):QE X (.BoolOp .Or (a :: b :: rest) pos) (Zbn ta tb):=⟨Zjl ha.run hb.run⟩
theorem Zp6 (ha:QE X a ta):QE X (.UnaryOp .Not a pos) (Za9 ta):=⟨Zob ha.run⟩
theorem Ll {c:Expr} (hc:QT X c tA) (ha:QE X a ta) (hb:QE X b tb):QE X (.IfExp c a b pos) (Ie tA ta tb):=⟨Zlp hc.run ha.run hb.run⟩
theorem A6  : Ed X [] O0:=⟨Zg5⟩
theorem Ae {st:Stmt} {rest:List Stmt} {t u:TS} (h1:QS X st t) (h2:Ed X rest u):Ed X (st :: rest) (Nd t u):=⟨Zor h1.run h2.run⟩
theorem Ag {st:Stmt} {t:TS} (h1:QS X st t):Ed X [st] t:=⟨Zq0 h1.run⟩
theorem Be {e:Expr} {te:TE} (he:QE X e te) (hs:swapsWith e none pos.line X.env=pure false:=by rfl):QS X (.Expr e pos) (Oq te):=⟨Zk9 he.run hs⟩
theorem Au {e:Expr} {te:TE} (he:QE X e te):QS X (.Return (some e) pos) (Zah te):=⟨Znc he.run⟩
theorem A0 {t u:TS} {c:Expr} {a b:List Stmt} {tc:TT} (hc:QT X c tc) (ha:Ed X a t) (hb:Ed X b u):QS X (.If c a b pos) (F0 tc t u):=⟨Znm hc.run ha.run hb.run⟩
theorem Di  : QGs X [] Za7:=⟨Zk6⟩
theorem Bm {e:Expr} {es:List Expr} {t:TG} {u:D9} (h1:QG X e t) (h2:QGs X es u) (hs:(assignEach (e :: es) X.env).map (·.2)=assign e X.env :: (assignEach es X.env).map (·.2):=by rfl):QGs X (e :: es) (Zbo t u):=⟨Zjw h1.run h2.run hs⟩
theorem A9 {i:Nat} {x:Str} (hN:X.N.Nodup) (hi:X.N[i]?=some x) (hx:Ez X.env.scope x) (hf:X.fn x=true\/X.env.scope.names.lookup x=some .local:=by first | exact .inl rfl | exact .inr rfl | assumption):QG X (.Name x pos) (Ft i):=⟨Zpp hN hi hx hf⟩
theorem Zm4 {es:List Expr} {k:Nat} {t:D9} {n:Nat} (hc:X.calm=true) (h:QGs X es t) (hn:(assignEach es X.env).length=n:=by rfl) (hst:(assignEach es X.env).findIdx? (·.1)=none:=by rfl):QG X (.Tuple es k pos) (Lv X.K n t):=⟨Zpd hc h.run hn hst⟩
theorem Fe {tg e:Expr} {te:TE} {g:TG} (he:QE X e te) (hg:QG X tg g) (hs:swapsWithSole [tg] e pos.line X.env=pure false:=by rfl) (hw:swappedStores [tg] e X.env=pure none:=by rfl) (h1:(assignEach [tg] X.env).map (·.2)=[assign tg X.env]:=by rfl):QS X (.Assign [tg] e pos) (Fw te g):=⟨Zj1 he.run hg.run hs hw h1⟩
theorem Zfz {i:Nat} {x:Str} {e:Expr} {te:TE} {pos':Pos} (hN:X.N.Nodup) (hi:X.N[i]?=some x) (hx:Ez X.env.scope x) (he:QE X e te) (hs:swapsWith e (some (.Name x pos')) pos.line X.env=pure false:=by rfl) (hf:X.fn x=true\/X.env.scope.names.lookup x=some .local:=by first | exact .inl rfl | exact .inr rfl | assumption):QS X (.Assign [.Name x pos'] e pos) (Fw te (Ft i)):=⟨Zjp hN hi hx he.run hs hf⟩
theorem Zff {c:Expr} {body:List Stmt} {tc:TT} {tb:TS} (hp:PassesOwn (model X.prog X.w) X.A X.env X.xe) (hc:QT X c tc) (hb:Ed X body tb):QS X (.While c body [] pos) (Zb2 tc tb):=⟨Zrf hp hc.run hb.run⟩
theorem Mp {a:Expr} {ta:TA} {p pos:Pos} (hg:Gl X "range") (hm:X.mg "range" = none) (ha:QA X [a] ta) (hs:starEach [a] X.env=[(false,eval a X.env)]:=by rfl):QI X tg (.Call (.Name "range" p) [a] [] pos) (Za3 ta):=⟨Zpj hg hm ha.run hs⟩
theorem Dz {iter:Expr} {body:List Stmt} {wi:TI} {g:TG} {tb:TS} {pos:Pos} (hp:PassesOwn (model X.prog X.w) X.A X.env X.xe) (hc:X.calm=true) (hi:QI X tg iter wi) (hg:QG X tg g) (hb:Ed X body tb) (hs:∀ x,foldedSetIterable iter X.env x=pure x:=by intro _; rfl):QS X (.For tg iter body [] pos) (Zag wi g tb):=⟨Zh6 hp hc hi.run hg.run hb.run hs⟩
theorem Zm1 (he:QE X e ta) (hb:attributeBase e f X.env (eval e X.env)=eval e X.env):QE X (.Attribute e f pos) (Om X.K ta f):=⟨Zp0 he.run hb⟩
theorem Zgp (ha:QE X o ta) (hv:QE X value tv) (hs:swapsWith value (some (.Attribute o f pos')) pos.line X.env=pure false):QS X (.Assign [.Attribute o f pos'] value pos) (Ld X.K ta tv f):=⟨Zj2 ha.run hv.run hs⟩
theorem Ab  : QA X [] J8:=⟨Zfs⟩
theorem Aa (ha:QE X e te) (hr:QA X es t) (hs:starEach (e :: es) X.env=(false,eval e X.env) :: starEach es X.env:=by rfl):QA X (e :: es) (Zbc te t):=⟨Zeo ha.run hr.run hs⟩
theorem An {x1} (h:QA X es t):QE X (.Tuple es x1 pos) (Np t):=⟨Zka h.run⟩
theorem Bc (h:QA X es t):QE X (.List es pos) (N6 t):=⟨Zow h.run⟩
theorem A3 (C:Bb X.prog X.w X.K X.mg X.base k x ps sp) (hr:Room k X.A) (ha:QA X (e :: es) t) (hg:Gl X x:=by rfl) (hdb:(x == ("__debug__" : Str))=false:=by decide) (he:starEach (e :: es) X.env=(false,eval e X.env) :: starEach es X.env:=by rfl) (hpl:(backTo pos (starEach es X.env)).any (·.1)=false:=by rfl):QE X (.Call (.Name x p) (e :: es) [] pos) (Kq sp [] E0 t):=⟨Zou C hr ha.run hg hdb he hpl⟩
theorem Bp {id:String} (hc:Cv X (.builtin id) r) (hg:Gl X x) (hm:X.mg x=none) (hv:bootBuiltins x=some (.builtin id)) (ha:QA X (e :: es) t) (hn:x ≠ "__name__" := by decide) (hdb:(x == ("__debug__" : Str))=false:=by decide) (he:starEach (e :: es) X.env=(false,eval e X.env) :: starEach es X.env:=by rfl) (hpl:(backTo pos (starEach es X.env)).any (·.1)=false:=by rfl):QE X (.Call (.Name x p) (e :: es) [] pos) (tCB r t):=⟨Zk1 hc hg hm hv ha.run hn hdb he hpl⟩
theorem Dk {T:String} (hc:Cv X (.type T) r) (hg:Gl X x) (hm:X.mg x=none) (hv:bootBuiltins x=some (.type T)) (ha:QA X (e :: es) t) (hn:x ≠ "__name__" := by decide) (hdb:(x == ("__debug__" : Str))=false:=by decide) (he:starEach (e :: es) X.env=(false,eval e X.env) :: starEach es X.env:=by rfl) (hpl:(backTo pos (starEach es X.env)).any (·.1)=false:=by rfl):QE X (.Call (.Name x p) (e :: es) [] pos) (tCB r t):=⟨Zh8 hc hg hm hv ha.run hn hdb he hpl⟩
theorem Fs  : QO X none Pb:=⟨Zhz⟩
theorem Ey (h:QE X e te):QO X (some e) (Zaq te):=⟨Zki h.run⟩
theorem Fb {lo hi:Option Expr} {r:V->Option Int->Option Int->Hp->VK->Prop} (hr:SlR X r) (he:QE X e te) (hl:QO X lo tl) (hu:QO X hi th):QE X (.Subscript e (.Slice lo hi none p2) pos) (tSl r te tl th):=⟨Zqh hr he.run hl.run hu.run⟩
theorem Lj {r:R2} (hr:IxR X r) (ha:QE X a ta) (hb:QE X b tb) (hs:Nn b):QE X (.Subscript a b pos) (Ev r ta tb):=⟨Zmh hr ha.run hb.run hs⟩
theorem Zip {T id:String} (pa:PlainAttrs T) (slot:Slot T name id) (hty:typeOf (.builtin id)=pure (.type "method_descriptor")) (hm:G5 X id r) (ho:QE X o to) (ha:QA X (e :: es) t) (hbase:attributeBase o name X.env (eval o X.env)=eval o X.env:=by rfl) (hfew:((backTo cpos (starEach (e :: es) X.env)).all (fun x=>!x.1) && (backToKw cpos (keywordEach [] X.env)).all (fun x=>x.1.isSome)
   && decide ((e :: es).length + ([]:List Keyword).length + (if ([]:List Keyword).isEmpty then 0 else 1) < 30))=true:=by rfl) (hline:(apos.endLine == cpos.line)=true:=by rfl) (hs:starEach (e :: es) X.env=(false,eval e X.env) :: starEach es X.env:=by rfl) (hplain:(backTo cpos (starEach es X.env)).any (·.1)=false:=by rfl):QE X (.Call (.Attribute o name apos) (e :: es) [] cpos) (tBM X.K T r to t):=⟨Zl1 pa slot hty hm ho.run ha.run hbase hfew hline hs hplain⟩
theorem Zim {T id:String} (pa:PlainAttrs T) (slot:Slot T name id) (hty:typeOf (.builtin id)=pure (.type "method_descriptor")) (hm:G5 X id r) (ho:QE X o to) (hbase:attributeBase o name X.env (eval o X.env)=eval o X.env:=by rfl) (hline:(apos.endLine == cpos.line)=true:=by rfl):QE X (.Call (.Attribute o name apos) [] [] cpos) (Le X.K T r to):=⟨Zny pa slot hty hm ho.run hbase hline⟩
theorem Nt (hc:X.calm=true) (S:Gx scope X.env) (hi:QI X target iter wi) (T:∀ σ,σ.length=X.N.length->F3 X scope N σ (σ0 σ)) (hg:∀ C s H fp,QG (Cq X scope C N s H fp) target g) (ht:∀ C s H fp,QTs (Cq X scope C N s H fp) ifs tt) (he:∀ C s H fp,QE (Cq X scope C N s H fp) elt te) (hs:∀ x,foldedSetIterable iter X.env x=pure x:=by intro _; rfl):QE X (.ListComp elt [⟨target,iter,ifs,0⟩] scope pos) (Jh wi σ0 g tt te):=⟨Zoz hc S hi.run T (fun C s H fp=>(hg C s H fp).run) (fun C s H fp=>(ht C s H fp).run) (fun C s H fp=>(he C s H fp).run) hs⟩
theorem M8 {i:Nat} {y:Str} {py spos:Pos} (hc:X.calm=true) (S:Gx scope X.env) (hi:QI X target iter wi) (T:∀ σ,σ.length=X.N.length->F3 X scope N σ (σ0 σ)) (hg:∀ C s H fp,QG (Cq X scope C N s H fp) target g) (ht:∀ C s H fp,QTs (Cq X scope C N s H fp) ifs tt) (he:∀ C s H fp,QE (Cq X scope C N s H fp) elt te) (hN:X.N.Nodup) (hy:X.N[i]?=some y) (hx:Ez X.env.scope y) (hsw:swapsWith (.ListComp elt [⟨target,iter,ifs,0⟩] scope pos) (some (.Name y py)) spos.line X.env=pure true:=by rfl) (hf:X.fn y=true\/X.env.scope.names.lookup y=some .local:=by first | exact .inl rfl | exact .inr rfl | assumption) (hs:∀ x,foldedSetIterable iter X.env x=pure x:=by intro _; rfl):QS X (.Assign [.Name y py] (.ListComp elt [⟨target,iter,ifs,0⟩] scope pos) spos) (Fw (Jh wi σ0 g tt te) (Ft i)):=⟨Zih hc S hi.run T (fun C s H fp=>(hg C s H fp).run) (fun C s H fp=>(ht C s H fp).run) (fun C s H fp=>(he C s H fp).run) hN hy hx hsw hf hs⟩
theorem Gu {X:Cx}:QTs X [] Zas:=⟨Znx⟩
theorem Mm {j pos'} (ha:QE X a ta):QC X .Is a (.Constant .none j pos') (Zau ta):=⟨Zqo ha.run⟩
end L2
namespace L2
open PySem PySem.Spec PyProof.Rows
theorem He {X:Cx} {es:List Expr} {xs:List V} (h:Nf es=some xs):QA X es (Nv xs):=⟨Zdc h⟩
theorem qv {X:Cx} (i:Nat) {x:Str} {pos:Pos} (hN:X.N[i]?=some x:=by rfl) (hv:Vis X.env.scope x:=by first | exact Or.inl rfl | exact Or.inr (Or.inl rfl) | exact Or.inr (Or.inr rfl)) (hd:(x == ("__debug__" : Str))=false:=by decide)
  (hcd:(x == ("__classdict__" : Str))=false:=by decide):QE X (.Name x pos) (Zai i):=⟨Znr hN hv hd hcd⟩
theorem QW.qt {X:Cx} {e:Expr} {t:TT} (h:QW X e t):QT X e t:=⟨h.run.pt⟩
section
variable {P:Program} {w:World} {K:Pd} {mg:Str->Option Value} {base:Heap}
theorem Fun.okq {x qual:Str} {st:Stmt} {f:Addr} {fd:FuncData} {N ps:List Str} {k:Nat} {sp:Sp} (F:Fun K x qual st f fd) (S:A2 N ps (Az st)) (len:∀ vs H Q E,sp vs H Q E->vs.length=ps.length)
  (hbody:∀ (cdv:Value) (A:Around) (outer:List Env) (s:Shared) (H:Hp) (vs:List V) (Q:VK) (E:XK),Room k (A.deeper (envOfC qual (Az st) s.heap.objs.size f cdv))->sp vs H Q E ->
   ∃ t,Ed (Dx Ar P w K mg base N qual (Az st) f cdv A outer s H E).nox (Er st) t/\t { nx:=fun _ H'=>Q .non H',rt:=Q } (E1 N vs) H):FnOk P w K mg base Ar (k + 1) f fd ps sp :=
 F.ok S len fun cdv A outer s H vs Q E hr h=>by
  obtain ⟨t,q,r⟩:=hbody cdv A outer s H vs Q E hr h
  exact ⟨t,q.run,r⟩
end
end L2
namespace L2
open PySem PySem.Spec PyProof.Rows
section
variable {X:Cx}
noncomputable def Zlc:R2:=fun x y H Q=>∃ i j,x=.str i/\y=.str j/\i.length + j.length<=sizeLine/\Q (.str (i++j)) H
noncomputable def Zfi (K:Pd):R2:=fun x y H Q=>∃ a b xs ys,x=.ref a/\y=.ref b/\SqT K H a xs/\SqT K H b ys/\xs.length + ys.length<=sizeLine /\
 ∀ r H',Same H H'->SqT K H' r (xs++ys)->Q (.ref r) H'
theorem Zrg:OpR X (binaryOp .Add) (Zfi X.K):=by
 intro pins s σ H x y v u Q I rx ry h
 obtain ⟨a,b,xs,ys,rfl,rfl,ha,hb,hz,q⟩:=h
 by_cases hx:xs=[]
 ·subst hx
  cases rx
  cases ry
  obtain ⟨its,r1,p1,_⟩:=I.tuple ha
  obtain ⟨its2,r2,p2,_⟩:=I.tuple hb
  cases r1
  obtain ⟨⟨cls,dd,data,sl⟩,ho,hc,n,hd⟩:=id p1
  obtain ⟨⟨cls2,dd2,data2,sl2⟩,ho2,hc2,n2,hd2⟩:=id p2
  simp only at hc hd hc2 hd2
  subst hc hd hc2 hd2
  exact Vf ⟨_,ho,rfl⟩ ⟨_,ho2,rfl⟩ Uz Va Um Uj (Ug _ _)
   (tuple_addW0 a b _ _ n n2 dd dd2 sl sl2 (by simp)) ⟨ho,ho2,⟨.ref b,H,I,rfl,q b H (Same.refl H) hb⟩⟩
 ·refine Zdn pins s σ H _ _ v u Q I rx ry ⟨a,b,xs,ys,rfl,rfl,ha,hb,hx,hz,fun e=>?_,fun _ p hp=>q p _ (fun c o e=>by rw [Af (Ca e hp)]; exact e) (.inl (.inl Ad))⟩
  subst e
  exact q a H (Same.refl H) (by rw [Qo]; exact ha)
noncomputable def G0 (K:Pd):R2:=fun x y H Q=>Ee (fun i j=>.int (i + j)) x y H Q\/Zlc x y H Q\/rCat x y H Q\/Zfi K x y H Q
theorem op_addA:OpR X (binaryOp .Add) (G0 X.K):=op_add.or (op_add_str.or (op_cat.or Zrg))
theorem s_add_int {K:Pd} {i j:Int} {H:Hp} {Q:VK} (h:Q (.int (i + j)) H):G0 K (.int i) (.int j) H Q:=.inl ⟨i,j,rfl,rfl,h⟩
theorem Zc6 {K:Pd} {i j:Str} {H:Hp} {Q:VK} (hl:i.length + j.length<=sizeLine) (h:Q (.str (i++j)) H):G0 K (.str i) (.str j) H Q:=.inr (.inl ⟨i,j,rfl,rfl,hl,h⟩)
theorem Zis {K:Pd} {a b:Addr} {xs ys:List V} {H:Hp} {Q:VK} (ha:H a=some (.lst xs)) (hb:H b=some (.lst ys)) (hz:xs.length + ys.length<=sizeLine) (h:∀ p,H p=none->Q (.ref p) (upd H p (.lst (xs++ys)))):G0 K (.ref a) (.ref b) H Q:=.inr (.inr (.inl ⟨a,b,xs,ys,rfl,rfl,ha,hb,hz,h⟩))
theorem Zch {K:Pd} {a b:Addr} {xs ys:List V} {H:Hp} {Q:VK} (ha:SqT K H a xs) (hb:SqT K H b ys) (hz:xs.length + ys.length<=sizeLine) (h:∀ r H',Same H H'->SqT K H' r (xs++ys)->Q (.ref r) H'):G0 K (.ref a) (.ref b) H Q:=.inr (.inr (.inr ⟨a,b,xs,ys,rfl,rfl,ha,hb,hz,h⟩))
noncomputable def Zaa:R2:=fun x y H Q=>rI CMul (fun i j=>.int (i * j)) x y H Q\/rRep x y H Q
theorem Ex:OpR X (binaryOp .Mult) Zaa:=op_mul.or Zqw
theorem s_mul_l {i j:Int} {H:Hp} {Q:VK} (h1:-(2 ^ 64) < i) (h2:i < 2 ^ 64) (h:Q (.int (i * j)) H):Zaa (.int i) (.int j) H Q:=.inl ⟨i,j,rfl,rfl,.inl ⟨h1,h2⟩,h⟩
theorem s_mul_r {i j:Int} {H:Hp} {Q:VK} (h1:-(2 ^ 64) < j) (h2:j < 2 ^ 64) (h:Q (.int (i * j)) H):Zaa (.int i) (.int j) H Q:=.inl ⟨i,j,rfl,rfl,.inr ⟨h1,h2⟩,h⟩
theorem s_rI {C:Int->Int->Prop} {g:Int->Int->V} {i j:Int} {H:Hp} {Q:VK} (hc:C i j) (h:Q (g i j) H):rI C g (.int i) (.int j) H Q:=⟨i,j,rfl,rfl,hc,h⟩
theorem s_rI0 {g:Int->Int->V} {i j:Int} {H:Hp} {Q:VK} (h:Q (g i j) H):Ee g (.int i) (.int j) H Q:=⟨i,j,rfl,rfl,h⟩
theorem s_rU {g:Int->V} {i:Int} {H:Hp} {Q:VK} (h:Q (g i) H):rU g (.int i) H Q:=⟨i,rfl,h⟩
noncomputable def rLtA:R2:=fun x y H Q=>Ee (fun i j=>.bl (decide (i < j))) x y H Q\/∃ i j,x=.str i/\y=.str j/\Q (.bl (decide (i.cps.toList < j.cps.toList))) H
theorem Ia:OpR X (compareOp .Lt) rLtA:=op_lt.or Zmq
noncomputable def rLeA:R2:=fun x y H Q=>Ee (fun i j=>.bl (decide (i<=j))) x y H Q\/∃ i j,x=.str i/\y=.str j/\Q (.bl (!(decide (j.cps.toList < i.cps.toList)))) H
theorem Zku:OpR X (compareOp .LtE) rLeA:=op_le.or Zke
theorem s_lt {i j:Int} {H:Hp} {Q:VK} (h:Q (.bl (decide (i < j))) H):rLtA (.int i) (.int j) H Q:=.inl ⟨i,j,rfl,rfl,h⟩
theorem s_le {i j:Int} {H:Hp} {Q:VK} (h:Q (.bl (decide (i<=j))) H):rLeA (.int i) (.int j) H Q:=.inl ⟨i,j,rfl,rfl,h⟩
noncomputable def rInS (neg:Bool):R2:=fun x y H Q=>∃ (c:Nat) (j:Str),x=.str ⟨#[c]⟩/\y=.str j/\Q (.bl (if neg then !decide (c∈j.cps.toList) else decide (c∈j.cps.toList))) H
theorem Zmg:OpR X (compareOp .In) (rInS false):=Zi2
noncomputable def Nw (K:Pd) (neg:Bool):R2:=fun x y H Q=>rIn K neg x y H Q\/rInS neg x y H Q
theorem Zoq:OpR X (compareOp .In) (Nw X.K false):=op_in_seq.or Zmg
theorem Ec {K:Pd} {neg:Bool} {x:V} {p:Addr} {xs:List V} {H:Hp} {Q:VK} (hq:SqL K H p xs\/SqT K H p xs) (hx:Cb x=true) (hxs:xs.all Cb=true) (h:Q (.bl (if neg then !C9 x xs else C9 x xs)) H):Nw K neg x (.ref p) H Q:=.inl ⟨p,xs,rfl,hq,hx,hxs,h⟩
noncomputable def Nk (K:Pd):V->Option Int->Option Int->Hp->VK->Prop:=fun x lo hi H Q=>N2 K x lo hi H Q\/Ou x lo hi H Q\/rSlT K x lo hi H Q
theorem Zpe:SlR X (Nk X.K):=sl_list.or (sl_str.or Zck)
theorem Lh {K:Pd} {a:Addr} {xs:List V} {lo hi:Option Int} {H:Hp} {Q:VK} (ha:SqL K H a xs) (h:∀ p,H p=none->Q (.ref p) (upd H p (.lst (B0 xs lo hi)))):Nk K (.ref a) lo hi H Q:=.inl ⟨a,xs,rfl,ha,h⟩
theorem Bd {K:Pd} {a:Addr} {xs:List V} {i:Int} {v:V} {H:Hp} {Q:VK} (ha:SqL K H a xs) (hv:Cf xs i=some v) (h:Q v H):Ii K (.ref a) (.int i) H Q:=.inl ⟨a,xs,i,v,rfl,rfl,ha,hv,h⟩
theorem Ak {K:Pd} {a:Addr} {xs:List V} {i:Int} {v:V} {H:Hp} {Q:VK} (ha:SqT K H a xs) (hv:Cf xs i=some v) (h:Q v H):Ii K (.ref a) (.int i) H Q:=.inr (.inl ⟨a,xs,i,v,rfl,rfl,ha,hv,h⟩)
theorem Zl5 {K:Pd} {z:Str} {i:Int} {c:Nat} {H:Hp} {Q:VK} (hl:z.length<=sizeLine) (hv:Cf z.cps.toList i=some c) (h:Q (.str ⟨#[c]⟩) H):Ii K (.str z) (.int i) H Q:=.inr (.inr ⟨z,i,c,rfl,rfl,hl,hv,h⟩)
noncomputable def Mw (K:Pd):List V->Hp->VK->Prop:=fun xs H Q=>∃ x n,xs=[x]/\LenV K x H n/\Q (.int n) H
theorem Zma:Cv X (.builtin "len") (Mw X.K):=Zif
theorem Cm {K:Pd} {a:Addr} {xs:List V} {H:Hp} {Q:VK} (ha:SqL K H a xs) (h:Q (.int xs.length) H):Mw K [.ref a] H Q:=⟨_,_,rfl,.inl ⟨xs,ha,rfl⟩,h⟩
theorem Fa {K:Pd} {a:Addr} {xs:List V} {H:Hp} {Q:VK} (ha:SqT K H a xs) (h:Q (.int xs.length) H):Mw K [.ref a] H Q:=⟨_,_,rfl,.inr ⟨xs,ha,rfl⟩,h⟩
structure En (mg:Str->Option Value) (x:Str) (v:V):Prop where
 ex:∃ u,mg x=some u/\RelV v u
theorem E4 {x:Str} {v:V} {pos:Pos} (G:En X.mg x v) (hg:Gl X x:=by rfl) (hd:(x == ("__debug__" : Str))=false:=by decide):QE X (.Name x pos) (tC v):=by
 obtain ⟨u,h,r⟩:=G.ex
 exact ⟨Zps hg h r hd⟩
noncomputable def Zbq (K:Pd) (tl:TE):TI:=fun σ H R=>tl σ H fun x H1=>(∃ a,x=.ref a/\(∃ xs,SqL K H1 a xs)/\R (Gw K a) H1)\/(∃ a,x=.ref a/\(∃ xs,SqT K H1 a xs)/\R (Gc K a) H1)\/∃ z,x=.str z/\R (Its z) H1
theorem Zpx {tg l:Expr} {tl:TE} (hl:QE X l tl):QI X tg l (Zbq X.K tl):=by
 refine ⟨fun pins s σ H R I h=>?_⟩
 refine Am (hl.run pins s σ H _ I h) fun v s1 zq=>?_
 obtain ⟨x,H1,I1,r1,q1⟩:=zq
 have one:∀ (l:Expr) (t:TE),PE X l t->True:=fun _ _ _=>trivial
 rcases q1 with ⟨a,e,⟨xs,hq⟩,q⟩ | ⟨a,e,⟨xs,hq⟩,q⟩ | ⟨z,e,q⟩
 ·subst e
  cases r1
  obtain ⟨its,rv,p,hz⟩:=I1.list hq
  refine Tl p.isList ?_
  refine ⟨s1.heap.objs.size,[s1.heap.objs.size],_,_,H1,rfl,I1.kept (t':=s1.toks) fun b o e=>Pj _ e,Zig a _,⟨_,Py _ rfl,rfl,rfl⟩,fun b hb=>?_,q⟩
  have e:b=s1.heap.objs.size:=by simpa using hb
  subst e
  exact I1.fpOk (Ph _) (I1.hok.fresh (Ph _))
 ·subst e
  cases r1
  obtain ⟨its,rv,p,hz⟩:=I1.tuple hq
  refine Th (show s1.heap.IsTuple a its.toArray from p) ?_
  refine ⟨s1.heap.objs.size,[s1.heap.objs.size],_,_,H1,rfl,I1.kept (t':=s1.toks) fun b o e=>Pj _ e,Zjo a _,⟨_,Py _ rfl,rfl,rfl⟩,fun b hb=>?_,q⟩
  have e:b=s1.heap.objs.size:=by simpa using hb
  subst e
  exact I1.fpOk (Ph _) (I1.hok.fresh (Ph _))
 ·subst e
  obtain ⟨t,rfl⟩:=r1
  refine wpAny_pyIter_strU ?_
  refine ⟨s1.heap.objs.size,[s1.heap.objs.size],_,_,H1,rfl,I1.kept (t':=s1.toks) fun b o e=>Pj _ e,Zmf _ z t,⟨_,Py _ rfl,rfl,rfl⟩,fun b hb=>?_,q⟩
  have e:b=s1.heap.objs.size:=by simpa using hb
  subst e
  exact I1.fpOk (Ph _) (I1.hok.fresh (Ph _))
end
end L2
namespace L2
open PySem PySem.Spec PyProof.Rows
section
variable {X:Cx} {tg:Expr}
end
noncomputable def Ih (K:Pd) (a:Addr) (n:Nat):It :=
 ⟨fun i H=>∃ xs,SqL K H a xs/\xs.length=n/\i < n,fun i H x H'=>H'=H/\∀ xs,SqL K H a xs->xs[n - 1 - i]?=some x,fun i _=>i=n⟩
theorem Znv {P:Program} {w:World} {K:Pd} {tg:Expr} (a it:Addr) (n:Nat):Gq P w K tg (Ih K a n) [it] it (fun i h=>i<=n/\h.IsRevIter it a ((n:Int) - 1 - (i:Int))) where
 mem:=by simp
 obj:=fun i h st b hb=>by
  have e:b=it:=by simpa using hb
  subst e
  obtain ⟨o,e,c,d⟩:=st.2
  exact ⟨o,e,fun v z=>by rw [d] at z; cases z⟩
 keep:=fun i h h' st k=>⟨st.1,st.2.at fun o e=>k it (by simp) o e⟩
 item:=by
  intro X hP hw hK hc i pins s σ H E I hf st hg
  subst hP hw hK
  obtain ⟨xs,hq,hl,hi⟩:=hg
  obtain ⟨its,rv,p,hz⟩:=I.list hq
  have hx:xs[n - 1 - i]?=some (xs[n - 1 - i]'(by omega)):=Pg (by omega)
  obtain ⟨u,hu,ru⟩:=rv.get hx
  obtain ⟨f0,f1,f2,f3,f4,f5⟩:=hf it (by simp)
  have e:(n:Int) - 1 - (i:Int)=((n - 1 - i:Nat):Int):=by omega
  have hit:=st.2
  rw [e] at hit
  refine wpAny_pyNext_rev_item hit p.isList (x:=u) (by simpa using hu) fun h' st' sb=>?_
  have I1:Inv X pins σ H { s with heap:=h' }:=I.turned (t':=s.toks) (fun b o hb e=>(sb.2 b hb).trans e) f0 f1 f3 f4 f5
  have e2:((n - 1 - i:Nat):Int) - 1=(n:Int) - 1 - ((i + 1:Nat):Int):=by omega
  rw [e2] at st'
  obtain ⟨o,eo,c,d⟩:=id st'
  exact ⟨u,rfl,Kz (s:={ s with heap:=h' }) eo c d (by decide) ⟨_,H,I1,ru,⟨rfl,fun ys hy=>by rw [I.list_inj hy hq]; exact hx⟩,⟨hi,st'⟩,fun b hb=>(hf b hb).1⟩⟩
 done:=by
  intro X hP hw hK hc i pins s σ H E I hf st hg
  subst hP hw hK
  have hg:i=n:=hg
  subst hg
  obtain ⟨f0,f1,f2,f3,f4,f5⟩:=hf it (by simp)
  have e:(i:Int) - 1 - (i:Int)=-1:=by omega
  have hit:=st.2
  rw [e] at hit
  exact wpAny_pyNext_rev_end (I.ok.hd hc) hit fun h' eb=>⟨rfl,I.turned (t':=s.toks) (fun b o hb e=>eb b o hb e) f0 f1 f3 f4 f5⟩
 self:=fun _ _ _ _ _ st h=>wpAny_pyIter_revIter st.2 h
theorem Zo2:bootBuiltins "reversed" = some (.type "reversed"):=by decide +kernel
section
variable {X:Cx} {tg:Expr}
noncomputable def Za6 (K:Pd) (ta:TA):TI:=fun σ H R=>ta σ H fun vs H1=>∃ a xs,vs=[.ref a]/\SqL K H1 a xs/\R (Ih K a xs.length) H1
theorem Zm3 {a:Expr} {ta:TA} {p pos:Pos} (hg:Gl X "reversed") (hm:X.mg "reversed" = none) (ha:QA X [a] ta) (hs:starEach [a] X.env=[(false,eval a X.env)]:=by rfl):QI X tg (.Call (.Name "reversed" p) [a] [] pos) (Za6 X.K ta):=by
 refine ⟨fun pins s σ H R I h=>?_⟩
 refine Call_ (Fc I hg hm Zo2 (Rw (Am (ha.run pos pins s σ H _ I h) fun us s1 zq=>?_) hs rfl))
 obtain ⟨vs,H1,I1,r1,q1⟩:=zq
 obtain ⟨l,xs,e,hq,q⟩:=q1
 subst e
 cases r1 with
 | cons r rr =>
  cases rr
  cases r
  obtain ⟨its,rv,pl,hz⟩:=I1.list hq
  refine call_reversed_list pl.isList ?_
  have hl:=rv.length
  have st0:(s1.heap.push (PySem.revObj l (((its.toArray).size:Int) - 1))).IsRevIter s1.heap.objs.size l ((xs.length:Int) - 1 - ((0:Nat):Int)):=by
   refine ⟨_,Py _ rfl,rfl,?_⟩
   have e:((its.toArray).size:Int) - 1=(xs.length:Int) - 1 - ((0:Nat):Int):=by simp [hl]
   rw [<- e]
   rfl
  refine wpAny_pyIter_revIter (it:=s1.heap.objs.size) (l:=l) (i:=(xs.length:Int) - 1 - ((0:Nat):Int)) st0 ?_
  refine ⟨s1.heap.objs.size,[s1.heap.objs.size],_,_,H1,rfl,I1.kept (t':=s1.toks) fun b o e=>Pj _ e,Znv l _ xs.length,⟨Pn _,st0⟩,fun b hb=>?_,q⟩
  have e:b=s1.heap.objs.size:=by simpa using hb
  subst e
  exact I1.fpOk (Ph _) (I1.hok.fresh (Ph _))
theorem Lz {K:Pd} {a:Addr} {xs:List V} {g:TG} {tb:TS} {D:C7} {σ:St} {H:Hp} (Pv:Nat->St->Hp->Prop) (h0:Pv 0 σ H) (hl:∀ i σ H,i<=xs.length->Pv i σ H->SqL K H a xs)
  (hs:∀ i x σ H,i < xs.length->xs[xs.length - 1 - i]?=some x->Pv i σ H->g x σ H fun σ2 H2=>tb { D with nx:=Pv (i + 1),ct:=Pv (i + 1),bk:=D.nx } σ2 H2) (hd:∀ σ H,Pv xs.length σ H->D.nx σ H) :
  ∃ W:Nat->Nat->St->Hp->Prop,(∃ m,W 0 m σ H)/\∀ i m σ H,W i m σ H ->
   ((Ih K a xs.length).stop i H/\D.nx σ H)\/((Ih K a xs.length).go i H/\∃ N:St->Hp->Prop,(∀ σ' H',N σ' H'->∃ m',m' < m/\W (i + 1) m' σ' H')/\∀ x H',(Ih K a xs.length).yld i H x H'->g x σ H' fun σ2 H2=>tb { D with nx:=N,ct:=N,bk:=D.nx } σ2 H2):=by
 refine ⟨fun i m σ H=>m=xs.length - i/\i<=xs.length/\Pv i σ H,⟨xs.length,by simp,Pn _,h0⟩,?_⟩
 rintro i m σ H ⟨rfl,hi,p⟩
 have q:=hl i σ H hi p
 by_cases hlt:i < xs.length
 ·refine .inr ⟨⟨xs,q,rfl,hlt⟩,Pv (i + 1),fun σ' H' p'=>⟨xs.length - (i + 1),by omega,rfl,hlt,p'⟩,fun x H' y=>?_⟩
  obtain ⟨e,y⟩:=y
  subst e
  exact hs i x σ _ hlt (y xs q) p
 ·have e:i=xs.length:=by omega
  subst e
  exact .inl ⟨rfl,hd σ H p⟩
end
end L2
namespace L2
open PySem PySem.Spec PyProof.Rows
section
variable {prog:Program} {w:World} {A:Around} {E:Value->Shared->Prop} {s:Shared}
theorem Znd {it t:Addr} {i:Nat} {items:Array Value} {x:Value} {Q:Value->Shared->Prop} (hit:s.heap.IsTupleIter it t i) (ht:s.heap.IsTuple t items) (hx:items[i]?=some x)
  (hQ:∀ h',h'.IsTupleIter it t (i + 1)->Px it s.heap h'->Q x { s with heap:=h' }):wpAny (model prog w) A (Qn (.ref it)) Q E s:=by
 obtain ⟨o,ho,hc,hd⟩:=id hit
 obtain ⟨ol,hol,_,nl,hdl⟩:=ht
 unfold Qn
 refine Pe (Q3 (name:=Qs "__next__") hit.typeIs T9
  (Q8 T9 hit.typeIs Wi ?_ (Wh _)))
 show wpAny _ _ (field (.ref it) 0 >>= _) _ _ s
 refine Pe (Pu ho hd (x:=.ref t) rfl ?_)
 show wpAny _ _ (if (Value.ref t == Value.none)=true then _ else _) _ _ s
 rw [if_neg (show ¬ ((Value.ref t == Value.none)=true) from Po)]
 show wpAny _ _ (field (.ref it) 1 >>= _) _ _ s
 refine Pe (Pu ho hd (x:=.int i 0) rfl ?_)
 show wpAny _ _ (seqItems? (.ref t) >>= _) _ _ s
 refine Pe (Qz hol hdl ?_)
 simp only [Q7,hx]
 refine Pe (Tz ho hd (by simp) (Pf ⟨x,rfl,Pf (hQ _ ?_ (Px.update ..))⟩))
 exact ⟨_,R0 _ ho (Vv (Uv hd _)),(Obj.cls_mapFields ..).trans hc,by
  rw [Uv hd]; simp [rawInt]⟩
theorem Zqg {it t:Addr} {i:Nat} {items:Array Value} {Q:Value->Shared->Prop} (hh:A.handled=none) (hit:s.heap.IsTupleIter it t i) (ht:s.heap.IsTuple t items) (hx:items[i]?=none)
  (hE:∀ h' e,S9 it s.heap h'->(∃ o,h'.get? e=some o/\o.cls=.type "StopIteration")->E (.ref e) { s with heap:=h' }):wpAny (model prog w) A (Qn (.ref it)) Q E s:=by
 obtain ⟨o,ho,hc,hd⟩:=id hit
 obtain ⟨ol,hol,_,nl,hdl⟩:=ht
 unfold Qn
 refine Pe (Q3 (name:=Qs "__next__") hit.typeIs T9
  (Q8 T9 hit.typeIs Wi ?_ (Wh _)))
 show wpAny _ _ (field (.ref it) 0 >>= _) _ _ s
 refine Pe (Pu ho hd (x:=.ref t) rfl ?_)
 show wpAny _ _ (if (Value.ref t == Value.none)=true then _ else _) _ _ s
 rw [if_neg (show ¬ ((Value.ref t == Value.none)=true) from Po)]
 show wpAny _ _ (field (.ref it) 1 >>= _) _ _ s
 refine Pe (Pu ho hd (x:=.int i 0) rfl ?_)
 show wpAny _ _ (seqItems? (.ref t) >>= _) _ _ s
 refine Pe (Qz hol hdl ?_)
 simp only [Q7,hx]
 refine Pe (Tb (Pe (Tz ho hd (by simp) ?_)))
 show wpAny _ _ (newExc (.type "StopIteration") [] >>= _) _ _ _
 refine Pe ?_
 simp only [newExc,newTuple]
 refine Pe (Rr ?_ (by size_fits))
 refine Pe (m:=firstArgMember _ _) (wpAny_of_eq (a:=Value.none) (by first | rfl | (simp only [firstArgMember]; rfl)) ?_)
 refine Rr ?_ (by size_fits)
 simp only [raiseNew]
 refine Pe (wpAny_handled ?_)
 first | rw [show A.in1.handled=none from hh] | rw [hh]
 refine Pe (Pf (wpAny_throw ?_))
 exact hE _ _ (((Px.update ..).extBut.push _).push _) ⟨_,Py _ rfl,rfl⟩
end
theorem Za0 {prog:Program} {w:World} {A:Around} (hh:A.handled=none) (it l:Addr) (hne:l≠it) (items:Array Value) :
  Draws prog w A it [it,l] items.size (fun i v=>items[i]?=some v) (fun i h=>h.IsTupleIter it l i/\h.IsTuple l items) where
 live:=fun _ _ st=>let ⟨o,ho,_⟩:=st.1; ⟨o,ho⟩
 frame:=fun _ _ _ st hk=>⟨st.1.at fun o e=>hk it (by simp) o e,let ⟨o,e,r⟩:=st.2; ⟨o,hk l (by simp) o e,r⟩⟩
 item:=fun i s Q E hi st hQ=>by
  refine Znd st.1 st.2 (x:=items[i]) (by simp [hi]) fun h' hit' hs'=>?_
  exact hQ _ h' s.toks (by simp [hi]) ⟨hit',st.2.extBut hs'.extBut hne⟩ hs'
 done:=fun s Q E st hE=>Zqg hh st.1 st.2 (by simp) hE
theorem Zmt (l:Addr) (items:Array Value) (n:Nat) (dct:Option Addr) (sl:Array (Option Value)) :
  Meets (Builtin.«enumerate.__new__» ⟨[.type "enumerate",.ref l],[]⟩) (fun _ R s=>s.heap.get? l=some { cls:=.type "tuple",dict:=dct,data:=.seq items n,slots:=sl } /\
   R (.ok (.ret (.ref (s.heap.push { cls:=.type "tuple_iterator",data:=.fields #[.ref l,.int 0 0] }).objs.size)))
    { s with heap:=(s.heap.push { cls:=.type "tuple_iterator",data:=.fields #[.ref l,.int 0 0] }).push { cls:=.type "enumerate",data:=.fields #[.none,.bool false,.ref s.heap.objs.size,rawInt 0,.none,.none] } }) :=
 .of_wp fun prog w A R s h=>by
  obtain ⟨hp,g,d,tk,os⟩:=s; obtain ⟨hl,h⟩:=h
  have hsub:=sub_enumerate
  have hL:Heap.IsTuple (Shared.heap ⟨hp,g,d,tk,os⟩) l items:=⟨_,hl,rfl,n,rfl⟩
  wp_walk using Ua hl
  refine wpAny_stack_any fun st=>Pf ?_
  split
  ·rename_i c _ _ _ _ _
   cases (c == Value.type "enumerate")
   ·wp_walk using Ua hl,Th hL
    exact ⟨_,rfl,h⟩
   ·wp_walk using Ua hl,Th hL
    exact ⟨_,rfl,h⟩
  ·wp_walk using Ua hl,Th hL
   exact ⟨_,rfl,h⟩
section
variable {prog:Program} {w:World} {A:Around} {E:Value->Shared->Prop} {s:Shared}
theorem Zm6 {l:Addr} {items:Array Value} {Q:Value->Shared->Prop} (hL:s.heap.IsTuple l items)
  (h:∀ h',IsEnum h' (s.heap.objs.size + 1) s.heap.objs.size 0 .none->h'.IsTupleIter s.heap.objs.size l 0->h'.objs.size=s.heap.objs.size + 2 ->
   (∀ b o,s.heap.get? b=some o->h'.get? b=some o)->Q (.ref (s.heap.objs.size + 1)) { s with heap:=h' }) :
  wpAny (model prog w) A (call (.type "enumerate") [.ref l]) Q E s:=by
 obtain ⟨⟨c,dct,dt,sl⟩,hl,hc,n,hd⟩:=hL
 replace hc:c=.type "tuple" := hc
 replace hd:dt=.seq items n:=hd
 subst hc hd
 refine callType_new PySem.F.called_enumerate (by decide) (PySem.F.typeCall_enumerate_1 _) (PySem.F.newCall_enumerate_1 _) (fun obj=>PySem.F.args_object_init_2 obj _) PySem.F.entry_enumerate_new
  (Zmt l items n dct sl) ⟨hl,?_⟩
 have hz:(s.heap.push { cls:=.type "tuple_iterator",data:=.fields #[.ref l,.int 0 0] }).objs.size=s.heap.objs.size + 1:=Qf ..
 show _/\_
 rw [hz]
 have he:IsEnum ((s.heap.push { cls:=.type "tuple_iterator",data:=.fields #[.ref l,.int 0 0] }).push
   { cls:=.type "enumerate",data:=.fields #[.none,.bool false,.ref s.heap.objs.size,rawInt 0,.none,.none] }) (s.heap.objs.size + 1) s.heap.objs.size 0 .none:=by
  unfold IsEnum
  rw [<- hz]
  exact Py _ rfl
 refine ⟨⟨_,he,rfl⟩,h _ he ⟨_,Pj _ (Py _ rfl),rfl,rfl⟩ (by rw [Qf,hz]) fun b o e=>Pj _ (Pj _ e)⟩
noncomputable def Nb (h:Heap) (e it:Addr) (i:Int):Prop:=∃ (a:Addr) (oa:Obj) (f1 old:Value),h.get? e=some { cls:=.type "enumerate",dict:=none,data:=.fields #[rawInt a,f1,.ref it,rawInt i,.none,old],slots:=#[] }/\h.get? a=some oa/\a≠e/\a≠it
theorem Zec {a:Addr} {Q:Option Obj->Shared->Prop} (h:Q (s.heap.get? a) s):wpAny (model prog w) A (loadIfAlive a) Q E s:=by
 intro Γ p hΓ
 show Sem.wp _ Γ (.loadIfAlive a .pure) _ _ p s
 rw [Sem.wp_loadIfAlive]
 exact h
end
end L2
namespace L2
open PySem PySem.Spec PyProof.Rows
section
variable {prog:Program} {w:World} {A:Around} {E:Value->Shared->Prop} {s:Shared}
theorem Zle {e it:Addr} {fp:List Addr} {n i:Nat} {P:Nat->Value->Prop} {St:Nat->Heap->Prop} {Q:Value->Shared->Prop}
  (D:Draws prog w A it fp n P St) (he0:Nb s.heap e it i) (hst:St i s.heap) (hlt:i < n) (hne:e≠it) (hef:e ∉ fp)
  (hQ:∀ x h' tk,P i x->Nb h' e it ((i:Int) + 1)->St (i + 1) h' ->
   h'.get? s.heap.objs.size=some { cls:=.type "tuple",data:=.seq #[.int i tk,x] }->h'.objs.size=s.heap.objs.size + 1 ->
   (∀ b o,b≠e->b≠it->s.heap.get? b=some o->h'.get? b=some o)->Q (.ref s.heap.objs.size) { s with heap:=h',toks:=tk + 1 }) :
  wpAny (model prog w) A (Builtin.«enumerate.__next__» ⟨[.ref e],[]⟩) (fun fin s'=>∃ v,fin=.done (.ret v)/\Q v s') E s:=by
 obtain ⟨a,oa,f1,old,he,hoa,hae,hai⟩:=he0
 obtain ⟨hp,g,d,tk₀,os⟩:=s
 show wpAny _ _ (field (.ref e) 2 >>= _) _ _ _
 refine Pe (Pu he rfl (x:=.ref it) rfl ?_)
 refine Pe (D.item i _ _ _ hlt hst fun x h₁ tk hPx hit₁ hs₁=>?_)
 replace hs₁:Px it hp h₁:=hs₁
 have he₁:=(hs₁.2 e hne).trans he
 have ha₁:=hs₁.extBut a oa hai hoa
 show wpAny _ _ (field (.ref e) 3 >>= _) _ _ ⟨h₁,g,d,tk,os⟩
 refine Pe (Pu he₁ rfl (x:=rawInt i) rfl ?_)
 show wpAny _ _ (field (.ref e) 4 >>= _) _ _ ⟨h₁,g,d,tk,os⟩
 refine Pe (Pu he₁ rfl (x:=.none) rfl ?_)
 show wpAny _ _ (mkInt i >>= _) _ _ ⟨h₁,g,d,tk,os⟩
 refine Pe (wpAny_mkInt ?_)
 show wpAny _ _ (setField (.ref e) 3 (rawInt ((i:Int) + 1)) >>= _) _ _ ⟨h₁,g,d,tk + 1,os⟩
 refine Pe (Q6 he₁ (by simp) fun h₂ he₂ hs₂=>?_)
 replace hs₂:Px e h₁ h₂:=hs₂
 have ha₂:=hs₂.extBut a oa hae ha₁
 replace he₂:h₂.get? e=some { cls:=.type "enumerate",dict:=none,data:=.fields #[rawInt a,f1,.ref it,rawInt ((i:Int) + 1),.none,old],slots:=#[] }:=he₂
 show wpAny _ _ (setField (.ref e) 4 .none >>= _) _ _ ⟨h₂,g,d,tk + 1,os⟩
 refine Pe (Q6 he₂ (by simp) fun h₃ he₃ hs₃=>?_)
 replace hs₃:Px e h₂ h₃:=hs₃
 have ha₃:=hs₃.extBut a oa hae ha₂
 replace he₃:h₃.get? e=some { cls:=.type "enumerate",dict:=none,data:=.fields #[rawInt a,f1,.ref it,rawInt ((i:Int) + 1),.none,old],slots:=#[] }:=he₃
 show wpAny _ _ (newTuple [.int i tk,x] >>= _) _ _ ⟨h₃,g,d,tk + 1,os⟩
 refine Pe (wpAny_newTuple ?_)
 have he₄:(h₃.push { cls:=.type "tuple",data:=.seq #[.int i tk,x] }).get? e=some { cls:=.type "enumerate",dict:=none,data:=.fields #[rawInt a,f1,.ref it,rawInt ((i:Int) + 1),.none,old],slots:=#[] }:=Pj _ he₃
 have ha₄:(h₃.push { cls:=.type "tuple",data:=.seq #[.int i tk,x] }).get? a=some oa:=Pj _ ha₃
 generalize hh₄:h₃.push { cls:=.type "tuple",data:=.seq #[.int i tk,x] }=h₄ at he₄ ha₄
 have hsz:h₃.objs.size=hp.objs.size:=by rw [hs₃.1,hs₂.1,hs₁.1]
 have hel:e < hp.objs.size:=Pl he
 have ht₄:h₄.get? hp.objs.size=some { cls:=.type "tuple",data:=.seq #[.int i tk,x] }:=by rw [<- hh₄,<- hsz]; exact Py _ rfl
 have hz₄:h₄.objs.size=hp.objs.size + 1:=by rw [<- hh₄,Qf,hsz]
 have hk₄:∀ b o,b≠e->b≠it->hp.get? b=some o->h₄.get? b=some o:=fun b o hbe hbi hb=>by
  rw [<- hh₄]; exact Pj _ (hs₃.extBut b o hbe (hs₂.extBut b o hbe (hs₁.extBut b o hbi hb)))
 have hit₄:St (i + 1) h₄:=D.frame _ _ _ hit₁ fun b hb o y=>by
  have hbe:b≠e:=fun q=>hef (q ▸ hb)
  rw [<- hh₄]; exact Pj _ (hs₃.extBut b o hbe (hs₂.extBut b o hbe y))
 show wpAny _ _ (Q1 (.ref e) >>= _) _ _ ⟨h₄,g,d,tk + 1,os⟩
 rw [hsz]
 clear hh₄ ha₃ ha₂ ha₁ he₃ hs₃ he₂ hs₂ he₁ hs₁ hit₁ hsz h₃ h₂ h₁
 refine Pe ?_
 unfold Q1
 refine Pe (Pu he₄ rfl (x:=rawInt a) rfl ?_)
 show wpAny _ _ (loadIfAlive ((a:Int).toNat) >>= _) _ _ ⟨h₄,g,d,tk + 1,os⟩
 refine Pe (Zec ?_)
 rw [Q7]
 show wpAny _ _ (if (h₄.get? a).isNone=true then _ else _) _ _ ⟨h₄,g,d,tk + 1,os⟩
 rw [ha₄]
 rw [if_neg (by simp)]
 refine Pe (Pu he₄ rfl (x:=f1) rfl ?_)
 have fin:∀ h₅,Nb h₅ e it ((i:Int) + 1)->Px e h₄ h₅->Q (.ref hp.objs.size) ⟨h₅,g,d,tk + 1,os⟩:=fun h₅ hl hs₅ =>
  hQ x h₅ tk hPx hl (D.frame _ _ _ hit₄ fun b hb o y=>hs₅.extBut b o (fun q=>hef (q ▸ hb)) y) (hs₅.extBut _ _ (Ql hel) ht₄) (by rw [hs₅.1,hz₄]) fun b o hbe hbi hb=>hs₅.extBut b o hbe (hk₄ b o hbe hbi hb)
 by_cases hf:(f1 != Value.bool true)=true
 ·simp only [hf,if_true]
  refine Pe (Q6 he₄ (by simp) fun h₅ he₅ hs₅=>?_)
  replace hs₅:Px e h₄ h₅:=hs₅
  refine Pf ?_
  simp only [Ti,if_false]
  refine Pf ⟨_,rfl,fin h₅ ⟨a,oa,.bool true,old,he₅,hs₅.extBut a oa hae ha₄,hae,hai⟩ hs₅⟩
 ·simp only [hf]
  refine Pf ?_
  simp only [Ti,if_false]
  exact Pf ⟨_,rfl,fin h₄ ⟨a,oa,f1,old,he₄,ha₄,hae,hai⟩ (Px.refl ..)⟩
noncomputable def EnSt (h:Heap) (e it:Addr) (i:Nat):Prop:=(i=0/\∃ old,IsEnum h e it 0 old)\/(0 < i/\Nb h e it i)
theorem EnSt.obj {h:Heap} {e it:Addr} {i:Nat} (x:EnSt h e it i):∃ vs,h.get? e=some { cls:=.type "enumerate",dict:=none,data:=.fields vs,slots:=#[] }:=by
 rcases x with ⟨_,old,x⟩ | ⟨_,_,_,_,_,x,_⟩
 ·exact ⟨_,x⟩
 ·exact ⟨_,x⟩
theorem Zqp {e it:Addr} {fp:List Addr} {n i:Nat} {P:Nat->Value->Prop} {St:Nat->Heap->Prop} {Q:Option Value->Shared->Prop}
  (D:Draws prog w A.in1 it fp n P St) (he:EnSt s.heap e it i) (hst:St i s.heap) (hlt:i < n) (hne:e≠it) (hef:e ∉ fp)
  (hQ:∀ x h' tk,P i x->EnSt h' e it (i + 1)->St (i + 1) h' ->
   h'.get? s.heap.objs.size=some { cls:=.type "tuple",data:=.seq #[.int i tk,x] }->h'.objs.size=s.heap.objs.size + 1 ->
   (∀ b o,b≠e->b≠it->s.heap.get? b=some o->h'.get? b=some o)->Q (some (.ref s.heap.objs.size)) { s with heap:=h',toks:=tk + 1 }) :
  wpAny (model prog w) A (pyNext (.ref e)) Q E s:=by
 obtain ⟨vs,ho⟩:=he.obj
 have hT:s.TypeIs (.ref e) "enumerate" := ⟨_,ho,rfl⟩
 have hel:e < s.heap.objs.size:=Pl ho
 have hil:it < s.heap.objs.size:=by obtain ⟨_,y⟩:=D.live _ _ hst; exact Pl y
 rcases he with ⟨rfl,old,he⟩ | ⟨_,he⟩
 ·refine wpAny_pyNext_enum_itemD D he hst hlt hne hef fun x h' tk a b c z k q=>?_
  exact hQ x h' tk a (.inr ⟨Vi _,_,_,_,_,b,z,Ql hel,Ql hil⟩) c z k q
 ·unfold pyNext
  exact Pe (Sr (Q3 (name:=Qs "__next__") hT Ub
   (Q8 Ub hT Wk
    (Zle D he hst hlt hne hef fun x h' tk a b c z k q=>Pf (hQ x h' tk a (.inr ⟨Vi _,b⟩) c z k q)) (Wj _))))
theorem Zlt {e it:Addr} {fp:List Addr} {n:Nat} {P:Nat->Value->Prop} {St:Nat->Heap->Prop} {Q:Option Value->Shared->Prop}
  (D:Draws prog w A.in1 it fp n P St) (he:EnSt s.heap e it n) (hst:St n s.heap)
  (hQ:∀ h',S9 it s.heap h'->Q none { s with heap:=h' }):wpAny (model prog w) A (pyNext (.ref e)) Q E s:=by
 obtain ⟨vs,ho⟩:=he.obj
 have hT:s.TypeIs (.ref e) "enumerate" := ⟨_,ho,rfl⟩
 have h2:vs[2]?=some (.ref it):=by
  rcases he with ⟨rfl,old,he⟩ | ⟨_,a,oa,f1,old,he,_⟩
  ·unfold IsEnum at he
   rw [ho] at he
   injection he with he
   injection he with _ _ he _
   injection he with he
   rw [he]; rfl
  ·rw [ho] at he
   injection he with he
   injection he with _ _ he _
   injection he with he
   rw [he]; rfl
 unfold pyNext
 refine Pe (Sr (Q3 (name:=Qs "__next__") hT Ub
  (Q8 Ub hT Wk ?_ (Wj _))))
 show wpAny _ _ (field (.ref e) 2 >>= _) _ _ _
 refine Pe (Pu ho rfl (x:=.ref it) h2 ?_)
 refine Pe (D.done _ _ _ hst fun h' x he' hx'=>?_)
 obtain ⟨o,ho',hc⟩:=hx'
 refine Pe (V9 (T := "StopIteration") (b:=true) ⟨o,ho',hc⟩ isSubtype_stop ?_)
 exact Pf (hQ _ he')
end
end L2
namespace L2
open PySem PySem.Spec PyProof.Rows
structure Src (X:Cx) (pins:List (Addr×Obj)) (σ:St) (it:Addr) (T:String) (n:Nat) (H0:Hp) (J:Nat->List V->Hp->Heap->Prop):Prop where
 ty:∀ i ys H h,J i ys H h->∃ o,h.get? it=some o/\o.cls=.type T
 nl:(Value.type T == Value.type "list")=false/\(Value.type T == Value.type "tuple")=false
 nolen:typeLookup (.type T) "__len__" = pure none
 nohint:typeLookup (.type T) "__length_hint__" = pure none
 self:∀ (A:Around) (s:Shared) (ys:List V) (H:Hp) (Q:Value->Shared->Prop) (E:Value->Shared->Prop),J 0 ys H s.heap->Q (.ref it) s->wpAny (model X.prog X.w) A (pyIter (.ref it)) Q E s
 keep:∀ i ys H h h' S zs zs',H0 S=none->H S=some (.lst zs)->J i ys H h->(∀ b o,b≠S->h.get? b=some o->h'.get? b=some o)->(∃ o,h'.get? S=some o)->J i ys (upd H S (.lst zs')) h'
 fresh:∀ i ys H h,J i ys H h->H it=none
 item:∀ (A:Around) (i:Nat) (s:Shared) (H:Hp) (ys:List V) (E:Value->Shared->Prop),A.handled=none->i < n->Inv X pins σ H s->J i ys H s.heap ->
  wpAny (model X.prog X.w) A (pyNext (.ref it)) (fun r s'=>∃ u x H',r=some u/\RelV x u/\Inv X pins σ H' s'/\J (i + 1) (ys++[x]) H' s'.heap/\∀ S zs,H S=some (.lst zs)->H' S=some (.lst zs)) E s
 done:∀ (A:Around) (s:Shared) (H:Hp) (ys:List V) (E:Value->Shared->Prop),A.handled=none->Inv X pins σ H s->J n ys H s.heap ->
  wpAny (model X.prog X.w) A (pyNext (.ref it)) (fun r s'=>r=none/\Inv X pins σ H s') E s
section
variable {X:Cx} {pins:List (Addr×Obj)} {σ:St} {it:Addr} {T:String} {n:Nat} {H0:Hp} {J:Nat->List V->Hp->Heap->Prop}
theorem Zkx (C:Src X pins σ it T n H0 J) (hn:n<=sizeLine) {A:Around} (hh:A.handled=none) {R:Result->Shared->Prop} (S:Addr) (hS0:H0 S=none) (res:Value)
  (fin:∀ s' H' ys',Inv X pins σ H' s'->H' S=some (.lst ys')->ys'.length=n->(∃ h,J n ys' H' h)->R (.ok (.ret res)) s') :
  ∀ (k i:Nat) (s:Shared) (H:Hp) (ys:List V),n - i=k->i<=n->Inv X pins σ H s->J i ys H s.heap->H S=some (.lst ys)->ys.length=i ->
  codeAny (model X.prog X.w) A (.builtin "list.extend.loop" ⟨[.ref S,.ref it,res],[]⟩) R s:=by
 intro k
 induction k with
 | zero =>
  intro i s H ys hk hi I j hS hl
  have hin:i=n:=by omega
  subst hin
  refine Sq PySem.F.entry_extend_loop ?_
  rw [Sb Uf _]
  show wpAny _ A.in1 (pyNext (.ref it) >>= _) _ _ s
  refine Pe (Am (C.done A.in1 s H ys _ hh I j) fun r s' zq=>?_)
  obtain ⟨hr,I'⟩:=zq
  subst hr
  exact Pf (fin s' H ys I' hS hl ⟨_,j⟩)
 | succ k ih =>
  intro i s H ys hk hi I j hS hl
  have hlt:i < n:=by omega
  refine Sq PySem.F.entry_extend_loop ?_
  rw [Sb Uf _]
  show wpAny _ A.in1 (pyNext (.ref it) >>= _) _ _ s
  refine Pe (Am (C.item A.in1 i s H ys _ hh hlt I j) fun r s' zq=>?_)
  obtain ⟨u,x,H',hr,rx,I',j',kS⟩:=zq
  subst hr
  have hS':=kS S ys hS
  obtain ⟨z,its,m,rv,hl',e⟩:=I'.lstM hS'
  show wpAny _ A.in1 (updateSeq S (·.push u) >>= _) _ _ _
  refine Pe ?_
  have hu:(its.toArray.push u)=(its++[u]).toArray:=by simp
  have I2:=I'.lset (f:=(·.push u)) (its':=its++[u]) (ys:=ys++[x]) (t':=s'.toks) hS' e hu (rv.append (.cons rx .nil)) (by rw [Pi,Pr]; omega)
  refine U4 e rfl (Pf ⟨Ss Uf _,ih (i + 1) _ _ (ys++[x]) (by omega) hlt I2 ?_ Ad (by simp [hl])⟩)
   (by rw [Pk]; omega) (by show (its.toArray.push u).size<=sizeLine + 1; rw [Array.size_push,Pk]; omega)
  exact C.keep _ _ _ _ _ S ys (ys++[x]) hS0 hS' j' (fun b o hb eb=>(Q4 _ _ (Ps hb)).trans eb) ⟨_,R0 _ e rfl⟩
theorem Zfp {H:Hp} (C:Src X pins σ it T n H J) (hn:n<=sizeLine) {A:Around} (hh:A.handled=none) {s:Shared} {Q:VK} {E:Value->Shared->Prop} (I:Inv X pins σ H s) (j:J 0 [] H s.heap)
  (jn:∀ S,s.heap.objs.size<=S->H S=none->∀ h',(∀ b o,s.heap.get? b=some o->h'.get? b=some o)->J 0 [] (upd H S (.lst [])) h')
  (q:∀ S H' ys,H S=none->H' S=some (.lst ys)->ys.length=n->(∃ h,J n ys H' h)->Q (.ref S) H') :
  wpAny (model X.prog X.w) A (call (.type "list") [.ref it]) (EP X pins σ Q) E s:=by
 have hf:H s.heap.objs.size=none:=I.hok.fresh (Ph _)
 have hne:s.heap.objs.size≠it:=by
  obtain ⟨o,e,_⟩:=C.ty _ _ _ _ j
  exact Ql (Pl e)
 refine callType_codes (Q₁:=fun obj s₁=>obj=.ref s.heap.objs.size/\s₁={ s with heap:=s.heap.push { cls:=.type "list",data:=.seq #[] } }) PySem.F.called_list (PySem.F.typeCall_list_1 _) PySem.F.entry_list_init
  (code_list_new _ ⟨rfl,rfl⟩) fun obj s₁ h₁=>?_
 obtain ⟨rfl,rfl⟩:=h₁
 have hS:(s.heap.push { cls:=.type "list",data:=.seq #[] }).get? s.heap.objs.size=some { cls:=.type "list",data:=.seq #[] }:=Py _ rfl
 have I1:Inv X pins σ (upd H s.heap.objs.size (.lst [])) { s with heap:=s.heap.push { cls:=.type "list",data:=.seq ([]:List Value).toArray } }:=I.lnew (ys:=[]) (its:=[]) (t':=s.toks) .nil (by simp)
 have j1:J 0 [] (upd H s.heap.objs.size (.lst [])) (s.heap.push { cls:=.type "list",data:=.seq ([]:List Value).toArray })   := jn _ (Ph _) hf _ fun b o e=>Pj _ e
 refine ⟨⟨_,hS,rfl⟩,PySem.F.args_list_init_2 _ _,?_⟩
 generalize hs1:({ s with heap:=s.heap.push { cls:=.type "list",data:=.seq ([]:List Value).toArray } }:Shared)=s1 at I1
 have hS1:s1.heap.get? s.heap.objs.size=some { cls:=.type "list",data:=.seq ([]:List Value).toArray }:=by rw [<- hs1]; exact hS
 replace j1:J 0 [] (upd H s.heap.objs.size (.lst [])) s1.heap:=by rw [<- hs1]; exact j1
 have hs1':({ s with heap:=s.heap.push { cls:=.type "list",data:=.seq #[] } }:Shared)=s1:=hs1
 first | rw [hs1'] | skip
 show wpAny _ A.in1.in1 (do let old <- Builtin.List.listItems (.ref s.heap.objs.size); Builtin.List.listUpdate (.ref s.heap.objs.size) (fun _=>#[]); letGo old.toList.reverse; Vo (.ref s.heap.objs.size) (.ref it) .none) _ _ s1
 generalize s.heap.objs.size=S at *
 refine Pe ?_
 unfold Builtin.List.listItems
 refine Pe (Qz hS1 rfl (Pf ?_))
 show wpAny _ A.in1.in1 (updateSeq S (fun _=>#[]) >>= fun _=>letGo (#[]:Array Value).toList.reverse >>= fun _=>Vo (.ref S) (.ref it) .none) _ _ s1
 refine Pe (U4 hS1 rfl ?_)
 have I2:=I1.lset (f:=fun _=>#[]) (its':=[]) (ys:=[]) (t':=s1.toks) Ad hS1 rfl .nil (by simp)
 have hS2:=R0 (Qt (fun _=>(#[]:Array Value))) hS1 rfl
 have j2:=C.keep _ _ _ _ (s1.heap.update S (Qt fun _=>#[])) S [] [] hf Ad j1 (fun b o hb eb=>(Q4 _ _ (Ps hb)).trans eb) ⟨_,hS2⟩
 rw [Gb] at I2 j2
 generalize hs2:({ s1 with heap:=s1.heap.update S (Qt fun _=>#[]),toks:=s1.toks }:Shared)=s2 at I2
 replace j2:J 0 [] (upd H S (.lst [])) s2.heap:=by rw [<- hs2]; exact j2
 have hs2':({ s1 with heap:=s1.heap.update S (Qt fun _=>#[]) }:Shared)=s2:=hs2
 first | rw [hs2'] | skip
 refine Pe (Vn ?_)
 obtain ⟨oi,ei,ci⟩:=C.ty _ _ _ _ j2
 have hT:s2.TypeIs (.ref it) T:=⟨oi,ei,ci⟩
 unfold Vo
 refine Pe (Sy hT ?_)
 have h1:Builtin.List.listSameRef (.ref S) (.ref it)=false:=by simp [Builtin.List.listSameRef,hne]
 have h2:=C.nl.1
 have h3:=C.nl.2
 simp only [h1,h2,h3,Bool.or_false,Ti,if_false]
 refine Pe (C.self _ s2 _ _ _ _ j2 ?_)
 refine Pe (Rm ?_)
 unfold Builtin.List.listLengthHint
 refine Pe (We hT C.nolen ?_)
 show wpAny _ A.in1.in1 (specialOf (Value.ref it) (Qs "__length_hint__") >>= _) _ _ _
 refine Pe (We hT C.nohint ?_)
 refine Pf ?_
 show wpAny _ A.in1.in1 (rule "list.extend.makes-room" >>= fun _=>Builtin.List.listTouch (.ref S) >>= fun _ =>
  again (.builtin "list.extend.loop" ⟨[.ref S,.ref it,.none],[]⟩)) _ _ _
 refine Pe (Tb ?_)
 refine Pe ?_
 show wpAny _ A.in1.in1 (updateSeq S (·.push .none) >>= fun _=>updateSeq S (·.pop)) _ _ _
 obtain ⟨_,its2,m2,rv2,_,e2⟩:=I2.lstM Ad
 cases rv2
 refine Pe (U4 e2 rfl ?_)
 have I3:=I2.lset (f:=(·.push Value.none)) (its':=[.none]) (ys:=[.non]) (t':=s2.toks) Ad e2 (by simp) (.cons rfl .nil) (by show 1<=sizeLine; decide)
 have hS3:=R0 (Qt (·.push Value.none)) e2 rfl
 have j3:=C.keep _ _ _ _ (s2.heap.update S (Qt (·.push Value.none))) S [] [.non] hf Ad j2 (fun b o hb eb=>(Q4 _ _ (Ps hb)).trans eb) ⟨_,hS3⟩
 rw [Gb] at I3 j3
 generalize hs3:({ s2 with heap:=s2.heap.update S (Qt (·.push Value.none)),toks:=s2.toks }:Shared)=s3 at I3
 replace j3:J 0 [] (upd H S (.lst [.non])) s3.heap:=by rw [<- hs3]; exact j3
 have hs3':({ s2 with heap:=s2.heap.update S (Qt (·.push Value.none)) }:Shared)=s3:=hs3
 first | rw [hs3'] | skip
 obtain ⟨_,its3,m3,rv3,hl3,e3⟩:=I3.lstM Ad
 have hl3':its3.length=1:=hl3.symm
 refine U4 e3 rfl ?_ (by rw [Pk,hl3']; decide) (by show its3.toArray.pop.size<=sizeLine + 1; rw [Array.size_pop,Pk,hl3']; decide)
 have I4:=I3.lset (f:=(·.pop)) (its':=[]) (ys:=[]) (t':=s3.toks) Ad e3 (by
  cases its3 with
  | nil=>simp at hl3'
  | cons a r=>cases r with
   | nil=>simp
   | cons b r'=>simp at hl3') .nil (by simp)
 have hS4:=R0 (Qt (·.pop)) e3 rfl
 have j4:=C.keep _ _ _ _ (s3.heap.update S (Qt (·.pop))) S [.non] [] hf Ad j3 (fun b o hb eb=>(Q4 _ _ (Ps hb)).trans eb) ⟨_,hS4⟩
 rw [Gb] at I4 j4
 refine Pf ⟨Ss Uf _,Zkx C hn (A:=A.in1) hh S hf .none ?_ n 0 _ _ [] rfl (Pn _) I4 j4 Ad rfl⟩
 intro s' H' ys' I' hS' hl' hj'
 exact ⟨rfl,.ref S,H',I',rfl,q S H' ys' hf hS' hl' hj'⟩
end
end L2
namespace L2
open PySem PySem.Spec PyProof.Rows
section
variable {X:Cx} {pins:List (Addr×Obj)} {σ:St} {H:Hp} {s:Shared} {h':Heap}
theorem Inv.turned2 {t':Nat} {i1 i2:Addr} (I:Inv X pins σ H s) (k:∀ b o,b≠i1->b≠i2->s.heap.get? b=some o->h'.get? b=some o) (f1:FpOk X pins H i1) (f2:FpOk X pins H i2):Inv X pins σ H { s with heap:=h',toks:=t' }:=by
 obtain ⟨n1,l1,_,e1,c1,p1⟩:=f1
 obtain ⟨n2,l2,_,e2,c2,p2⟩:=f2
 have nit:∀ b u,H b=some u->b≠i1/\b≠i2:=fun b u e=>⟨(fun z=>by rw [z,n1] at e; exact nomatch e),(fun z=>by rw [z,n2] at e; exact nomatch e)⟩
 refine I.step (g':=s.gens) (d':=s.drawn) (ch:=[i1,i2]) (fun b hb=>?_) (fun b o _ _ hc e _=>k b o (fun z=>hc (by simp [z])) (fun z=>hc (by simp [z])) e) (fun b o _ _ hc e _=>⟨o.slots,k b o (fun z=>hc (by simp [z])) (fun z=>hc (by simp [z])) e⟩) (fun _ _ _ _ n=>n)
  (fun b o hc e=>⟨o,k b o (fun z=>hc (by simp [z])) (fun z=>hc (by simp [z])) e⟩) (fun _ _ e=>e) (fun _ _ _ e=>e) (fun b ps e=>⟨#[],by rw [e]; simp⟩) (fun m hm=>?_) (fun b u e=>?_) I.bare
 ·rcases Pm.mp hb with rfl | hb
  ·exact ⟨e1,l1,c1,p1⟩
  ·rw [P8.mp hb]
   exact ⟨e2,l2,c2,p2⟩
 ·obtain ⟨o,es,ep,ho,r⟩:=hm
  exact ⟨o,es,ep,k _ o (Ps l1) (Ps l2) ho,r⟩
 ·refine (I.hok b u e).stay (fun c v hc q=>k c v ?_ ?_ q) (fun _ q=>q) fun _ _ q=>q
  ·rcases hc with z | z
   ·rw [z]; exact (nit b u e).1
   ·exact (nit c _ z).1
  ·rcases hc with z | z
   ·rw [z]; exact (nit b u e).2
   ·exact (nit c _ z).2
end
theorem FpOk.of {X:Cx} {pins:List (Addr×Obj)} {H H':Hp} {b:Addr} (f:FpOk X pins H b) (h:H' b=none):FpOk X pins H' b:=⟨h,f.2⟩
theorem SqT.kept {K:Pd} {H:Hp} {S a:Addr} {zs zs' xs:List V} (hS:H S=some (.lst zs)) (h:SqT K H a xs):SqT K (upd H S (.lst zs')) a xs:=by
 rcases h with (h | ⟨o,h⟩) | h
 ·exact .inl (.inl (by rw [Af (Df h hS (by intro z; cases z))]; exact h))
 ·exact .inl (.inr ⟨o,by rw [Af (Df h hS (by intro z; cases z))]; exact h⟩)
 ·exact .inr h
theorem SqT.same {K:Pd} {H H':Hp} {a:Addr} {xs:List V} (h:SqT K H a xs) (e:Same H H'):SqT K H' a xs:=e.tup h
noncomputable def Pairs (H:Hp) (xs:List V) (ys:List V):Prop:=∀ (j:Nat) (y:V),ys[j]?=some y->∃ (t:Addr) (x:V),y=V.ref t/\xs[j]?=some x/\H t=some (.tup [.int j,x])
noncomputable def JEn (K:Pd) (H0:Hp) (en it a:Addr) (xs:List V):Nat->List V->Hp->Heap->Prop:=fun i ys H h =>
 EnSt h en it i/\h.IsTupleIter it a i/\(H en=none/\H it=none)/\SqT K H a xs/\ys.length=i/\Pairs H xs ys/\Same H0 H
theorem Zoh:typeLookup (.type "enumerate") "__len__" = pure none:=by rw [Tw,Td]; kernel_rfl
theorem Zhq:typeLookup (.type "enumerate") "__length_hint__" = pure none:=by rw [Tw,Td]; kernel_rfl
theorem Zmz {X:Cx} {pins:List (Addr×Obj)} {σ:St} {H0:Hp} {en it a:Addr} {xs:List V} (fe:FpOk X pins H0 en) (fi:FpOk X pins H0 it) (hne:en≠it) (hae:a≠en) (hai:a≠it):Src X pins σ en "enumerate" xs.length H0 (JEn X.K H0 en it a xs) where
 ty:=fun i ys H h j=>by
  obtain ⟨vs,e⟩:=j.1.obj
  exact ⟨_,e,rfl⟩
 nl:=by decide
 nolen:=Zoh
 nohint:=Zhq
 self:=fun A s ys H Q E j q=>by
  rcases j.1 with ⟨_,old,e⟩ | ⟨z,_⟩
  ·exact wpAny_pyIter_enum e q
  ·exact absurd z (Qr _)
 keep:=fun i ys H h h' S zs zs' h0 hS j k al=>by
  obtain ⟨j1,j2,⟨j3,j4⟩,j5,j6,j7,j8⟩:=j
  have ne1:en≠S:=fun z=>by rw [z,hS] at j3; cases j3
  have ne2:it≠S:=fun z=>by rw [z,hS] at j4; cases j4
  refine ⟨?_,?_,⟨by rw [Af ne1]; exact j3,by rw [Af ne2]; exact j4⟩,j5.kept hS,j6,fun m y hy=>?_,fun b o e=>?_⟩
  ·rcases j1 with ⟨z,old,e⟩ | ⟨z,a0,oa,f1,old,e,ea,x1,x2⟩
   ·exact .inl ⟨z,old,k _ _ ne1 e⟩
   ·by_cases hs:a0=S
    ·subst hs
     obtain ⟨o,eo⟩:=al
     exact .inr ⟨z,a0,o,f1,old,k _ _ ne1 e,eo,x1,x2⟩
    ·exact .inr ⟨z,a0,oa,f1,old,k _ _ ne1 e,k _ _ hs ea,x1,x2⟩
  ·exact j2.at fun o e=>k _ _ ne2 e
  ·obtain ⟨t,x,e1,e2,e3⟩:=j7 m y hy
   exact ⟨t,x,e1,e2,by rw [Af (Df e3 hS (by intro z; cases z))]; exact e3⟩
  ·have:b≠S:=fun z=>by rw [z,h0] at e; cases e
   rw [Af this]
   exact j8 b o e
 fresh:=fun i ys H h j=>j.2.2.1.1
 item:=fun A i s H ys E hh hi I j=>by
  obtain ⟨j1,j2,⟨j3,j4⟩,j5,j6,j7,j8⟩:=j
  obtain ⟨its,rv,p,hz⟩:=I.tuple j5
  have hl:=rv.length
  have D:=Za0 (prog:=X.prog) (w:=X.w) (A:=A.in1) hh it a hai its.toArray
  refine Zqp D j1 ⟨j2,p⟩ (by rw [Pk]; omega) hne (by simp [hne,Ps hae]) fun x h' tk hx st' it' ht hsz kk=>?_
  have I1:Inv X pins σ H { s with heap:=h',toks:=tk + 1 }:=I.turned2 (fun b o h1 h2 e=>kk b o h1 h2 e) (fe.of j3) (fi.of j4)
  have hx':its[i]?=some x:=by simpa using hx
  have hxs:i < xs.length:=hi
  obtain ⟨u,hu,ru⟩:=rv.get (Pg hxs)
  rw [hx'] at hu
  cases hu
  have hf:H s.heap.objs.size=none:=I.hok.fresh (Ph _)
  have I2:Inv X pins σ (upd H s.heap.objs.size (.tup [.int i,xs[i]])) { s with heap:=h',toks:=tk + 1 }:=by
   have hokN:HOk X.prog X.w (upd H s.heap.objs.size (.tup [.int i,xs[i]])) h':=fun b o e=>by
    by_cases hb:b=s.heap.objs.size
    ·subst hb
     rw [Ad] at e
     cases e
     exact ⟨by show 2<=sizeLine; decide,[.int i tk,x],.cons ⟨tk,rfl⟩ (.cons ru .nil),⟨_,ht,rfl,_,rfl⟩⟩
    ·rw [Af hb] at e
     refine (I1.hok b o e).stay (fun c v _ q=>q) (fun c q=>?_) fun c zs q=>?_
     ·rw [Af (Ca q hf)]; exact q
     ·rw [Af (Ca q hf)]; exact q
   have u:Un (Bl X.stack) [en,it] H (upd H s.heap.objs.size (.tup [.int i,xs[i]])) s.heap h':={
    keep:=fun b o e n _ hx=>kk b o (fun z=>hx (by simp [z])) (fun z=>hx (by simp [z])) e
    slot:=fun b o e n _ hx=>⟨o.slots,kk b o (fun z=>hx (by simp [z])) (fun z=>hx (by simp [z])) e⟩
    free:=fun b o e n _=>by rw [Af (Pw (Pl e))]; exact n
    there:=fun b o e hx=>⟨o,kk b o (fun z=>hx (by simp [z])) (fun z=>hx (by simp [z])) e⟩
    tups:=fun b zs e=>by rw [Af (Ca e hf)]; exact e
    frzs:=fun b o u e=>by rw [Af (Ca e hf)]; exact e
    tbls:=fun b ps e=>⟨#[],by rw [Af (Ca e hf),e]; simp⟩ }
   refine I.call (g':=s.gens) (d':=s.drawn) (t':=tk + 1) u hokN I.bare fun b hb=>?_
   rcases Pm.mp hb with rfl | hb
   ·exact ⟨fe.2.2.2.1,fe.2.1,fe.2.2.2.2.1,fe.2.2.2.2.2⟩
   ·rw [P8.mp hb]
    exact ⟨fi.2.2.2.1,fi.2.1,fi.2.2.2.2.1,fi.2.2.2.2.2⟩
  have sm:Same H (upd H s.heap.objs.size (.tup [.int i,xs[i]])):=Same.upd hf
  have ne1:en≠s.heap.objs.size:=by obtain ⟨_,e⟩:=j1.obj; exact Pw (Pl e)
  have ne2:it≠s.heap.objs.size:=by obtain ⟨_,e,_⟩:=j2; exact Pw (Pl e)
  refine ⟨_,.ref s.heap.objs.size,_,rfl,rfl,I2,⟨st',it'.1,⟨by rw [Af ne1]; exact j3,by rw [Af ne2]; exact j4⟩,j5.same sm,by simp [j6],fun m y hy=>?_,j8.trans sm⟩,fun S zs e=>sm S _ e⟩
  by_cases hm:m < i
  ·rw [Qa (by omega)] at hy
   obtain ⟨t,z,e1,e2,e3⟩:=j7 m y hy
   exact ⟨t,z,e1,e2,sm _ _ e3⟩
  ·have hlen:=(Pq.mp hy).1
   rw [Pi,Pr] at hlen
   have:m=i:=by omega
   subst this
   rw [Q2 (by omega),j6,R7] at hy
   have hy:V.ref s.heap.objs.size=y:=by simpa using hy
   exact ⟨_,xs[m],hy.symm,Pg hxs,Ad⟩
 done:=fun A s H ys E hh I j=>by
  obtain ⟨j1,j2,⟨j3,j4⟩,j5,j6,j7,j8⟩:=j
  obtain ⟨its,rv,p,hz⟩:=I.tuple j5
  have hl:=rv.length
  have D:=Za0 (prog:=X.prog) (w:=X.w) (A:=A.in1) hh it a hai its.toArray
  have e:xs.length=its.toArray.size:=by rw [Pk]; omega
  rw [e] at j1 j2
  refine Zlt D j1 ⟨j2,p⟩ fun h' eb=>⟨rfl,?_⟩
  obtain ⟨g0,g1,g2,g3,g4,g5⟩:=fi.of j4
  exact I.turned (t':=s.toks) (fun b o hb e=>eb b o hb e) g0 g1 g3 g4 g5
section
variable {X:Cx}
theorem Zbw:bootBuiltins "list" = some (.type "list"):=by decide +kernel
noncomputable def Nj (K:Pd) (ta:TA):TE:=fun σ H Q=>ta σ H fun vs H1=>∃ a xs,vs=[.ref a]/\SqT K H1 a xs /\
 ∀ (S:Addr) (ys:List V) (H2:Hp),H1 S=none->Same H1 H2->ys.length=xs.length->Pairs H2 xs ys->H2 S=some (.lst ys)->Q (.ref S) H2
theorem Zoi {e:Expr} {ta:TA} {p p2 pos pos2:Pos} (hg:Gl X "list") (hm:X.mg "list" = none) (hg2:Gl X "enumerate") (hm2:X.mg "enumerate" = none) (ha:QA X [e] ta) (hc:X.calm=true:=by rfl)
  (hs:starEach [.Call (.Name "enumerate" p2) [e] [] pos2] X.env=[(false,eval (.Call (.Name "enumerate" p2) [e] [] pos2) X.env)]:=by rfl) (hs2:starEach [e] X.env=[(false,eval e X.env)]:=by rfl) :
  QE X (.Call (.Name "list" p) [.Call (.Name "enumerate" p2) [e] [] pos2] [] pos) (Nj X.K ta):=by
 refine ⟨fun pins s σ H Q I h=>?_⟩
 refine Call_ (Fc I hg hm Zbw (Rw ?_ hs rfl))
 rw [hs]
 show wpAny _ _ (spliced ((false,eval (.Call (.Name "enumerate" p2) [e] [] pos2) X.env) :: [])) _ _ s
 refine V2 ?_
 refine Call_ (Fc I hg2 hm2 PyProof.Rows.boot_enumerate (Rw (Am (ha.run pos2 pins s σ H _ I h) fun us s1 zq=>?_) hs2 rfl))
 obtain ⟨vs,H1,I1,r1,q1⟩:=zq
 obtain ⟨a,xs,e1,hq,q⟩:=q1
 subst e1
 cases r1 with
 | cons r rr =>
  cases rr
  cases r
  obtain ⟨its,rv,pt,hz⟩:=I1.tuple hq
  have hlt:a < s1.heap.objs.size:=by obtain ⟨o,e,_⟩:=id pt; exact Pl e
  refine Zm6 (show s1.heap.IsTuple a its.toArray from pt) fun h' hen hit hsz hk=>?_
  refine V6 ?_
  have I2:Inv X pins σ H1 { s1 with heap:=h' }:=I1.kept (t':=s1.toks) hk
  have fe:=I1.fpOk (b:=s1.heap.objs.size + 1) (Vm _) (I1.hok.fresh (Vm _))
  have fi:=I1.fpOk (b:=s1.heap.objs.size) (Ph _) (I1.hok.fresh (Ph _))
  have C:=Zmz (X:=X) (pins:=pins) (σ:=σ) (H0:=H1) (en:=s1.heap.objs.size + 1) (it:=s1.heap.objs.size) (a:=a) (xs:=xs) fe fi (Nat.succ_ne_self _) (Pw (Nat.lt_succ_of_lt hlt)) (Pw hlt)
  refine Zfp C (by omega) (I1.ok.hd hc) I2 ⟨.inl ⟨rfl,_,hen⟩,hit,⟨fe.1,fi.1⟩,hq,rfl,fun j y hy=>by simp at hy,Same.refl _⟩ (fun S hge hS h2 k2=>?_) fun S H' ys hS hS' hl' hj=>?_
  ·have sm:Same H1 (upd H1 S (.lst [])):=Same.upd hS
   refine ⟨.inl ⟨rfl,_,k2 _ _ hen⟩,hit.at fun o e=>k2 _ _ e,⟨?_,?_⟩,hq.same sm,rfl,fun j y hy=>by simp at hy,sm⟩
   ·rw [Af (show s1.heap.objs.size + 1≠S from fun z=>?_)]
    ·exact fe.1
    ·have hge:h'.objs.size<=S:=hge
     omega
   ·rw [Af (show s1.heap.objs.size≠S from fun z=>?_)]
    ·exact fi.1
    ·have hge:h'.objs.size<=S:=hge
     omega
  ·obtain ⟨h,j⟩:=hj
   exact q S ys H' hS j.2.2.2.2.2.2 hl' j.2.2.2.2.2.1 hS'
end
end L2
namespace L2
open PySem PySem.Spec PyProof.Rows
section
variable {X:Cx}
end
end L2
namespace L2
open PySem PySem.SeqAt
open PySem.AutoSeq1 (wpAny_loadPart')
open PySem.MeetsSeq PySem.MeetsSeq2 PySem.MeetsSeq3 PySem.SeqRoads2
theorem Zm0 (l b:Addr) (items items2:Array Value) (n n2:Nat) (dd dd2:Option Addr) (sl sl2:Array (Option Value)) (hsz:items.size=items2.size) (e:Nat->Bool) (k:Nat) :
  ∀ i:Nat,items.size - i=k->Meets (Builtin.«list.__eq__.loop» ⟨[.ref l,.ref b,rawInt i,rawInt 3],[]⟩)
   (fun A R s=>s.heap.get? l=some { cls:=.type "list",dict:=dd,data:=.seq items n,slots:=sl }/\s.heap.get? b=some { cls:=.type "list",dict:=dd2,data:=.seq items2 n2,slots:=sl2 } /\
    (∀ j (h1:j < items.size) (h2:j < items2.size),EqAt A.in1 s items[j] items2[j] (e j)) /\
    R (.ok (.ret (.bool (!((P3 items.size).drop i).all e)))) s):=by
 induction k with
 | zero =>
  intro i hk prog w A R s h
  obtain ⟨hp,g,d,tk,os⟩:=s; obtain ⟨hl,hb,he,h⟩:=h
  wp_walk using wpAny_loadPart' hl,wpAny_loadPart' hb
  have hi1:items[((i:Nat):Int).toNat]?=none:=by simp; omega
  have hi2:items2[((i:Nat):Int).toNat]?=none:=by simp; omega
  have hd:(P3 items.size).drop i=[]:=by simp; omega
  rw [hd] at h
  rw [hi1,hi2]
  wp_walk using wpAny_loadPart' hl,wpAny_loadPart' hb
  show R (.ok (.ret (.bool (items.size != items2.size)))) _
  rw [hsz]
  simpa using h
 | succ k ih =>
  intro i hk prog w A R s h
  obtain ⟨hp,g,d,tk,os⟩:=s; obtain ⟨hl,hb,he,h⟩:=h
  wp_walk using wpAny_loadPart' hl,wpAny_loadPart' hb
  have hlt:i < items.size:=by omega
  have hlt2:i < items2.size:=by omega
  have hi1:items[((i:Nat):Int).toNat]?=some items[i]:=by simp [hlt]
  have hi2:items2[((i:Nat):Int).toNat]?=some items2[i]:=by simp [hlt2]
  have hd:(P3 items.size).drop i=i :: (P3 items.size).drop (i + 1):=by simp [Ry,hlt]
  have hc:((i:Int) + 1)=((i + 1:Nat):Int):=by push_cast; rfl
  rw [hd,Rc] at h
  rw [hi1,hi2]
  refine Pe (he i hlt hlt2 prog w _ _ ?_)
  cases hb':e i with
  | true =>
   rw [hb'] at h
   wp_walk
   rw [hc]
   exact ⟨Ss plain_eq_loop _,Sq entry_eq_loop (by
    rw [Sb plain_eq_loop _]
    exact ih (i + 1) (by omega) prog w A R _ ⟨hl,hb,he,by simpa using h⟩)⟩
  | false =>
   rw [hb'] at h
   wp_walk using wpAny_loadPart' hl,wpAny_loadPart' hb
   rw [hi1,hi2]
   wp_walk
   simpa using h
theorem Zp3 (l b:Addr) (items items2:Array Value) (n n2:Nat) (dd dd2:Option Addr) (sl sl2:Array (Option Value)) (hsz:items.size=items2.size) (e:Nat->Bool) :
  Meets (Builtin.«list.__ne__» ⟨[.ref l,.ref b],[]⟩)
   (fun A R s=>s.heap.get? l=some { cls:=.type "list",dict:=dd,data:=.seq items n,slots:=sl }/\s.heap.get? b=some { cls:=.type "list",dict:=dd2,data:=.seq items2 n2,slots:=sl2 } /\
    (∀ j (h1:j < items.size) (h2:j < items2.size),EqAt A.in1 s items[j] items2[j] (e j)) /\
    R (.ok (.ret (.bool (!(P3 items.size).all e)))) s):=by
 intro prog w A R s h
 obtain ⟨hp,g,d,tk,os⟩:=s; obtain ⟨hl,hb,he,h⟩:=h
 have f3:=PySem.AutoSeq1.sub_list_list
 have hne:¬ (items.size != items2.size)=true:=by simp [hsz]
 wp_walk using wpAny_loadPart' hl,wpAny_loadPart' hb
 exact ⟨Ss plain_eq_loop _,Sq entry_eq_loop (by
  rw [Sb plain_eq_loop _]
  exact Zm0 l b items items2 n n2 dd dd2 sl sl2 hsz e _ 0 rfl prog w A R _ ⟨hl,hb,he,by simpa using h⟩)⟩
theorem Zri (l b:Addr) (items items2:Array Value) (n n2:Nat) (dd dd2:Option Addr) (sl sl2:Array (Option Value)) (e:Nat->Bool) :
  Meets (Builtin.«tuple.__ne__» ⟨[.ref l,.ref b],[]⟩)
   (fun A R s=>s.heap.get? l=some { cls:=.type "tuple",dict:=dd,data:=.seq items n,slots:=sl }/\s.heap.get? b=some { cls:=.type "tuple",dict:=dd2,data:=.seq items2 n2,slots:=sl2 } /\
    (∀ j (h1:j < items.size) (h2:j < items2.size),EqAt A.in1 s items[j] items2[j] (e j)) /\
    R (.ok (.ret (.bool (!((P3 (min items.size items2.size)).all e && items.size == items2.size))))) s) :=
 .of_wp fun prog w A R s h=>by
  obtain ⟨hp,g,d,tk,os⟩:=s; obtain ⟨hl,hb,he,h⟩:=h
  have f2:=PySem.AutoSeq1.sub_tuple_tuple
  have hZ:(items.toList.zip items2.toList).length=min items.size items2.size:=by simp
  wp_walk using wpAny_loadPart' hl,wpAny_loadPart' hb,wpAny_forIn_list _ (fun rest b s'=>b.1=none/\s'=⟨hp,g,d,tk,os⟩/\∃ i,rest=(items.toList.zip items2.toList).drop i /\
   R (.ok (.ret (.bool (!(((P3 (min items.size items2.size)).drop i).all e && items.size == items2.size))))) ⟨hp,g,d,tk,os⟩) _
  case turn =>
   rintro ⟨y,x⟩ rest b s' ⟨hb',rfl,i,hz,hR⟩
   have hlt:i < (items.toList.zip items2.toList).length:=by
    rcases Nat.lt_or_ge i (items.toList.zip items2.toList).length with h' | h'
    ·exact h'
    ·rw [Rg h'] at hz; cases hz
   have hm:i < min items.size items2.size:=hZ ▸ hlt
   have h1:i < items.size:=P6 hm (Nat.min_le_left _ _)
   have h2:i < items2.size:=P6 hm (Nat.min_le_right _ _)
   rw [Ry hlt] at hz
   injection hz with hyx hrest
   have hy:y=items[i]:=by have:=congrArg Prod.fst hyx; simpa using this
   have hx:x=items2[i]:=by have:=congrArg Prod.snd hyx; simpa using this
   subst hy hx
   have hd:(P3 (min items.size items2.size)).drop i=i :: (P3 (min items.size items2.size)).drop (i + 1):=by simp [Ry,hm]
   rw [hd,Rc] at hR
   refine Pe (he i h1 h2 prog w _ _ ?_)
   cases hy:e i with
   | true =>
    rw [hy] at hR
    wp_walk
    exact ⟨rfl,rfl,i + 1,hrest,by simpa using hR⟩
   | false =>
    rw [hy] at hR
    wp_walk
    exact ⟨_,rfl,by simpa using hR⟩
  case fin =>
   rintro ⟨b1,b2⟩ s' ⟨hb',rfl,i,hz,hR⟩
   simp only at hb'
   subst hb'
   have hge:min items.size items2.size<=i:=by
    rcases Nat.lt_or_ge i (items.toList.zip items2.toList).length with h' | h'
    ·rw [Ry h'] at hz; cases hz
    ·exact hZ ▸ h'
   rw [Rg (by simpa using hge)] at hR
   wp_walk
   exact ⟨_,rfl,by simpa [Builtin.Tuple.tupleCompareSizes,bne] using hR⟩
  case h =>
   exact ⟨rfl,rfl,0,rfl,by simpa using h⟩
section
variable {prog:Program} {w:World} {A:Around} {E:Value->Shared->Prop} {s:Shared}
theorem Zqt {l b:Addr} {items items2:Array Value} {e:Nat->Bool} {Q:Value->Shared->Prop} (hl:s.heap.IsList l items) (hb:s.heap.IsList b items2) (hsz:items.size=items2.size) (hu:A.units < cLine)
  (he:∀ j (h1:j < items.size) (h2:j < items2.size),EqAt A.in1 s items[j] items2[j] (e j)) (h:Q (.bool (!(P3 items.size).all e)) s):wpAny (model prog w) A (compareOp .NotEq (.ref l) (.ref b)) Q E s:=by
 obtain ⟨⟨cls,dd,data,sl⟩,ho,hc,n,hd⟩:=id hl
 obtain ⟨⟨cls2,dd2,data2,sl2⟩,ho2,hc2,n2,hd2⟩:=id hb
 simp only at hc hd hc2 hd2
 subst hc hd hc2 hd2
 exact richCompare_meets_room (op:=.NotEq) ⟨_,ho,rfl⟩ ⟨_,ho2,rfl⟩ F.slot_list_ne F.entry_list_ne (F.args_list_ne_2 _ _) (Zp3 l b items items2 n n2 dd dd2 sl sl2 hsz e)
  ⟨ho,ho2,he,show Value.bool (!(P3 items.size).all e)≠Value.notImplemented/\Q (.bool (!(P3 items.size).all e)) s from ⟨(fun x=>nomatch x),h⟩⟩ hu
theorem Zla {l b:Addr} {items items2:Array Value} {e:Nat->Bool} {Q:Value->Shared->Prop} (hl:s.heap.IsTuple l items) (hb:s.heap.IsTuple b items2) (hu:A.units < cLine)
  (he:∀ j (h1:j < items.size) (h2:j < items2.size),EqAt A.in1 s items[j] items2[j] (e j)) (h:Q (.bool (!((P3 (min items.size items2.size)).all e && items.size == items2.size))) s):wpAny (model prog w) A (compareOp .NotEq (.ref l) (.ref b)) Q E s:=by
 obtain ⟨⟨cls,dd,data,sl⟩,ho,hc,n,hd⟩:=id hl
 obtain ⟨⟨cls2,dd2,data2,sl2⟩,ho2,hc2,n2,hd2⟩:=id hb
 simp only at hc hd hc2 hd2
 subst hc hd hc2 hd2
 exact richCompare_meets_room (op:=.NotEq) ⟨_,ho,rfl⟩ ⟨_,ho2,rfl⟩ F.slot_tuple_ne F.entry_tuple_ne (F.args_tuple_ne_2 _ _) (Zri l b items items2 n n2 dd dd2 sl sl2 e)
  ⟨ho,ho2,he,show Value.bool (!((P3 (min items.size items2.size)).all e && items.size == items2.size))≠Value.notImplemented/\Q (.bool (!((P3 (min items.size items2.size)).all e && items.size == items2.size))) s from ⟨(fun x=>nomatch x),h⟩⟩ hu
end
end L2
namespace L2
open PySem PySem.Spec PyProof.Rows
inductive Dt where
 | flat (v:V)
 | tup (ds:List Dt)
 | lst (ds:List Dt)
inductive IsD (K:Pd) (H:Hp):Nat->V->Dt->Prop where
 | flat {n:Nat} {v:V} (h:Cb v=true):IsD K H n v (.flat v)
 | tup {n:Nat} {a:Addr} {vs:List V} {ds:List Dt} (q:SqT K H a vs) (l:vs.length=ds.length) (h:∀ (j:Nat) (v:V) (d:Dt),vs[j]?=some v->ds[j]?=some d->IsD K H n v d):IsD K H (n + 1) (.ref a) (.tup ds)
 | lst {n:Nat} {a:Addr} {vs:List V} {ds:List Dt} (q:SqL K H a vs) (l:vs.length=ds.length) (h:∀ (j:Nat) (v:V) (d:Dt),vs[j]?=some v->ds[j]?=some d->IsD K H n v d):IsD K H (n + 1) (.ref a) (.lst ds)
theorem IsD.same {K:Pd} {H H':Hp} {n:Nat} {v:V} {d:Dt} (h:IsD K H n v d) (e:Same H H'):IsD K H' n v d:=by
 induction h with
 | flat h=>exact .flat h
 | tup q l _ ih=>exact .tup (e.tup q) l ih
 | lst q l _ ih=>exact .lst (e.seq q) l ih
theorem IsD.up {K:Pd} {H:Hp} {n m:Nat} {v:V} {d:Dt} (h:IsD K H n v d) (hm:n<=m):IsD K H m v d:=by
 induction h generalizing m with
 | flat h=>exact .flat h
 | tup q l _ ih =>
  obtain ⟨k,rfl⟩:∃ k,m=k + 1:=⟨m - 1,by omega⟩
  exact .tup q l fun j v d e1 e2=>ih j v d e1 e2 (by omega)
 | lst q l _ ih =>
  obtain ⟨k,rfl⟩:∃ k,m=k + 1:=⟨m - 1,by omega⟩
  exact .lst q l fun j v d e1 e2=>ih j v d e1 e2 (by omega)
theorem Zc1 {v:V} (h:Cb v=true):D0 v v=true:=by
 cases v with
 | non=>rfl
 | bl b=>simp [D0]
 | int i=>simp [D0]
 | str x=>simp [D0]
 | byt _=>cases h
 | flt _=>cases h
 | ref _=>cases h
 | ty _=>cases h
section
variable {X:Cx} {pins:List (Addr×Obj)} {σ:St} {H:Hp} {s:Shared}
theorem Zly (I:Inv X pins σ H s):∀ {n:Nat} {x y:V} {d:Dt},IsD X.K H n x d->IsD X.K H n y d->∀ {A:Around} {u v:Value},RelV x u->RelV y v->A.units + n < cLine->Pz A s u v true:=by
 intro n
 induction n with
 | zero =>
  intro x y d hx hy A u v rx ry hu
  cases hx with
  | flat fx =>
   cases hy with
   | flat fy =>
    have:=O1 (A:=A) (s:=s) rx ry fx fy
    rw [Zc1 fx] at this
    exact this
 | succ n ih =>
  intro x y d hx hy A u v rx ry hu
  cases hx with
  | flat fx =>
   cases hy with
   | flat fy =>
    have:=O1 (A:=A) (s:=s) rx ry fx fy
    rw [Zc1 fx] at this
    exact this
  | @tup _ a vs ds q l h =>
   cases hy with
   | @tup _ b ws _ q' l' h' =>
    cases rx
    cases ry
    by_cases hab:a=b
    ·subst hab
     exact Wc _
    obtain ⟨its,r1,p1,_⟩:=I.tuple q
    obtain ⟨its2,r2,p2,_⟩:=I.tuple q'
    have l1:=r1.length
    have l2:=r2.length
    have:=SeqAt.RcAt.tuples (A:=A) (e:=fun _=>true) (show s.heap.IsTuple a its.toArray from p1) (show s.heap.IsTuple b its2.toArray from p2) (by omega) fun j h1 h2=>by
     have h1':j < vs.length:=by simp only [Pk] at h1; omega
     have h2':j < ws.length:=by simp only [Pk] at h2; omega
     obtain ⟨u1,g1,k1⟩:=r1.get (Pg h1')
     obtain ⟨u2,g2,k2⟩:=r2.get (Pg h2')
     have e1:its.toArray[j]=u1:=by
      have:its[j]?=some its[j]:=by simp
      rw [this] at g1
      simpa using g1
     have e2:its2.toArray[j]=u2:=by
      have:its2[j]?=some its2[j]:=by simp
      rw [this] at g2
      simpa using g2
     rw [e1,e2]
     have hd:j < ds.length:=by omega
     exact ih (h j _ _ (Pg h1') (Pg hd)) (h' j _ _ (Pg h2') (Pg hd)) k1 k2 (by show A.units + 1 + n < cLine; omega)
    have e:((P3 (min its.toArray.size its2.toArray.size)).all (fun _=>true) && its.toArray.size == its2.toArray.size)=true:=by
     have:its.toArray.size=its2.toArray.size:=by simp only [Pk]; omega
     rw [this]
     simp
    rw [e] at this
    exact Pz.of_refs hab this
  | @lst _ a vs ds q l h =>
   cases hy with
   | @lst _ b ws _ q' l' h' =>
    cases rx
    cases ry
    by_cases hab:a=b
    ·subst hab
     exact Wc _
    obtain ⟨its,r1,p1,_⟩:=I.list q
    obtain ⟨its2,r2,p2,_⟩:=I.list q'
    have l1:=r1.length
    have l2:=r2.length
    have:=SeqAt.RcAt.lists (A:=A) (e:=fun _=>true) p1.isList p2.isList (by simp only [Pk]; omega) (by omega) fun j h1 h2=>by
     have h1':j < vs.length:=by simp only [Pk] at h1; omega
     have h2':j < ws.length:=by simp only [Pk] at h2; omega
     obtain ⟨u1,g1,k1⟩:=r1.get (Pg h1')
     obtain ⟨u2,g2,k2⟩:=r2.get (Pg h2')
     have e1:its.toArray[j]=u1:=by
      have:its[j]?=some its[j]:=by simp
      rw [this] at g1
      simpa using g1
     have e2:its2.toArray[j]=u2:=by
      have:its2[j]?=some its2[j]:=by simp
      rw [this] at g2
      simpa using g2
     rw [e1,e2]
     have hd:j < ds.length:=by omega
     exact ih (h j _ _ (Pg h1') (Pg hd)) (h' j _ _ (Pg h2') (Pg hd)) k1 k2 (by show A.units + 1 + n < cLine; omega)
    have e:(P3 its.toArray.size).all (fun _=>true)=true:=by simp
    rw [e] at this
    exact Pz.of_refs hab this
theorem Na (I:Inv X pins σ H s) {n:Nat} {A:Around} {vs ws:List V} {its its2:List Value} {ds:List Dt} (r1:Vals vs its) (r2:Vals ws its2) (l:vs.length=ds.length) (l':ws.length=ds.length)
  (h:∀ (j:Nat) (v:V) (d:Dt),vs[j]?=some v->ds[j]?=some d->IsD X.K H n v d) (h':∀ (j:Nat) (v:V) (d:Dt),ws[j]?=some v->ds[j]?=some d->IsD X.K H n v d) (hu:A.units + n < cLine) :
  ∀ j (h1:j < its.toArray.size) (h2:j < its2.toArray.size),Pz A s its.toArray[j] its2.toArray[j] ((fun _=>true) j):=fun j h1 h2=>by
 have l1:=r1.length
 have l2:=r2.length
 have h1':j < vs.length:=by simp only [Pk] at h1; omega
 have h2':j < ws.length:=by simp only [Pk] at h2; omega
 obtain ⟨u1,g1,k1⟩:=r1.get (Pg h1')
 obtain ⟨u2,g2,k2⟩:=r2.get (Pg h2')
 have e1:its.toArray[j]=u1:=by
  have:its[j]?=some its[j]:=by simp
  rw [this] at g1
  simpa using g1
 have e2:its2.toArray[j]=u2:=by
  have:its2[j]?=some its2[j]:=by simp
  rw [this] at g2
  simpa using g2
 rw [e1,e2]
 have hd:j < ds.length:=by omega
 exact Zly I (h j _ _ (Pg h1') (Pg hd)) (h' j _ _ (Pg h2') (Pg hd)) k1 k2 hu
end
section
variable {X:Cx}
noncomputable def Lm (K:Pd) (b:Bool):R2:=fun x y H Q=>∃ (a c:Addr) (n:Nat) (d:Dt),x=.ref a/\y=.ref c/\n<=190/\IsD K H n x d/\IsD K H n y d/\Q (.bl b) H
theorem Zn6 (hu:X.A.units + 200 < cLine):OpR X (compareOp .Eq) (Lm X.K true):=by
 intro pins s σ H x y v u Q I rx ry h
 obtain ⟨a,c,n,d,rfl,rfl,hn,hx,hy,q⟩:=h
 cases rx
 cases ry
 cases hx with
 | flat fx=>cases fx
 | @tup n _ vs ds qx l hd =>
  cases hy with
  | @tup _ _ ws _ qy l' hd' =>
   obtain ⟨its,r1,p1,_⟩:=I.tuple qx
   obtain ⟨its2,r2,p2,_⟩:=I.tuple qy
   have l1:=r1.length
   have l2:=r2.length
   refine SeqAt.eq_tupleAt (e:=fun _=>true) (show s.heap.IsTuple a its.toArray from p1) (show s.heap.IsTuple c its2.toArray from p2) (by omega) (Na I r1 r2 l l' hd hd' (by show X.A.units + 1 + n < cLine; omega)) ?_
   have e:((P3 (min its.toArray.size its2.toArray.size)).all (fun _=>true) && its.toArray.size == its2.toArray.size)=true:=by
    have:its.toArray.size=its2.toArray.size:=by simp only [Pk]; omega
    rw [this]
    simp
   rw [e]
   exact ⟨.bl true,H,I,rfl,q⟩
 | @lst n _ vs ds qx l hd =>
  cases hy with
  | @lst _ _ ws _ qy l' hd' =>
   obtain ⟨its,r1,p1,_⟩:=I.list qx
   obtain ⟨its2,r2,p2,_⟩:=I.list qy
   have l1:=r1.length
   have l2:=r2.length
   refine SeqAt.eq_listAt (e:=fun _=>true) p1.isList p2.isList (by simp only [Pk]; omega) (by omega) (Na I r1 r2 l l' hd hd' (by show X.A.units + 1 + n < cLine; omega)) ?_
   have e:(P3 its.toArray.size).all (fun _=>true)=true:=by simp
   rw [e]
   exact ⟨.bl true,H,I,rfl,q⟩
theorem Zg9 (hu:X.A.units + 200 < cLine):OpR X (compareOp .NotEq) (Lm X.K false):=by
 intro pins s σ H x y v u Q I rx ry h
 obtain ⟨a,c,n,d,rfl,rfl,hn,hx,hy,q⟩:=h
 cases rx
 cases ry
 cases hx with
 | flat fx=>cases fx
 | @tup n _ vs ds qx l hd =>
  cases hy with
  | @tup _ _ ws _ qy l' hd' =>
   obtain ⟨its,r1,p1,_⟩:=I.tuple qx
   obtain ⟨its2,r2,p2,_⟩:=I.tuple qy
   have l1:=r1.length
   have l2:=r2.length
   refine Zla (e:=fun _=>true) (show s.heap.IsTuple a its.toArray from p1) (show s.heap.IsTuple c its2.toArray from p2) (by omega) (Na I r1 r2 l l' hd hd' (by show X.A.units + 1 + n < cLine; omega)) ?_
   have e:(!((P3 (min its.toArray.size its2.toArray.size)).all (fun _=>true) && its.toArray.size == its2.toArray.size))=false:=by
    have:its.toArray.size=its2.toArray.size:=by simp only [Pk]; omega
    rw [this]
    simp
   rw [e]
   exact ⟨.bl false,H,I,rfl,q⟩
 | @lst n _ vs ds qx l hd =>
  cases hy with
  | @lst _ _ ws _ qy l' hd' =>
   obtain ⟨its,r1,p1,_⟩:=I.list qx
   obtain ⟨its2,r2,p2,_⟩:=I.list qy
   have l1:=r1.length
   have l2:=r2.length
   refine Zqt (e:=fun _=>true) p1.isList p2.isList (by simp only [Pk]; omega) (by omega) (Na I r1 r2 l l' hd hd' (by show X.A.units + 1 + n < cLine; omega)) ?_
   have e:(!(P3 its.toArray.size).all (fun _=>true))=false:=by simp
   rw [e]
   exact ⟨.bl false,H,I,rfl,q⟩
noncomputable def L0 (K:Pd):R2:=fun x y H Q=>rEq x y H Q\/Lm K true x y H Q
noncomputable def Od (K:Pd):R2:=fun x y H Q=>rNe x y H Q\/Lm K false x y H Q
theorem Ze3 (hu:X.A.units + 200 < cLine):OpR X (compareOp .Eq) (L0 X.K):=op_eq.or (Zn6 hu)
theorem Zl3 (hu:X.A.units + 200 < cLine):OpR X (compareOp .NotEq) (Od X.K):=op_ne.or (Zg9 hu)
theorem s_eq {K:Pd} {x y:V} {H:Hp} {Q:VK} (hs:Kp x y=true) (h:Q (.bl (decide (x=y))) H):L0 K x y H Q:=.inl ⟨hs,h⟩
theorem s_ne {K:Pd} {x y:V} {H:Hp} {Q:VK} (hs:Kp x y=true) (h:Q (.bl (!decide (x=y))) H):Od K x y H Q:=.inl ⟨hs,h⟩
theorem Room.u200 {k:Nat} {A:Around} (r:Room k A):A.units + 200 < cLine:=by have:=r.un; omega
end
end L2
namespace L2
open PySem PySem.Spec PyProof.Rows
section
variable {t u:TS} {c d:TT} {te ta tb tc:TE} {g:TG} {gs:D9} {ts:TA} {D:C7} {σ:St} {H:Hp} {Q:VK} {QB:Bool->Hp->Prop} {QA':List V->Hp->Prop}
theorem s_seq (h:t { D with nx:=u D } σ H):Nd t u D σ H:=h
theorem s_asg (h:te σ H fun x H1=>g x σ H1 D.nx):Fw te g D σ H:=h
theorem s_ret (h:te σ H D.rt):Zah te D σ H:=h
theorem s_drop (h:te σ H fun _ H1=>D.nx σ H1):Oq te D σ H:=h
theorem s_next (h:D.nx σ H):O0 D σ H:=h
theorem s_ifS (h:c σ H fun b H1=>if b=true then t D σ H1 else u D σ H1):F0 c t u D σ H:=h
theorem s_var {i:Nat} {v:V} (e:σ[i]?=some (some v)) (h:Q v H):Zai i σ H Q:=⟨v,e,h⟩
theorem s_c {v:V} (h:Q v H):tC v σ H Q:=h
theorem s_op {r:R2} (h:ta σ H fun x H1=>tb σ H1 fun y H2=>r x y H2 Q):Ev r ta tb σ H Q:=h
theorem s_un {r:V->Hp->VK->Prop} (h:ta σ H fun x H1=>r x H1 Q):tUn r ta σ H Q:=h
theorem s_test (h:te σ H fun x H'=>∃ k,x=.bl k/\QB k H'):Ow te σ H QB:=h
theorem s_tB (h:te σ H fun x H'=>∃ k,x=.bl k/\QB k H'):tB te σ H QB:=h
theorem s_ex {b:Bool} {P:Bool->Prop} (h:P b):∃ k,V.bl b=V.bl k/\P k:=⟨b,rfl,h⟩
theorem s_exi {i:Int} {P:Int->Prop} (h:P i):∃ k,V.int i=V.int k/\P k:=⟨i,rfl,h⟩
theorem s_not (h:c σ H fun b H1=>QB (!b) H1):Zbf c σ H QB:=h
theorem s_and (h:c σ H fun b H1=>if b=true then d σ H1 QB else QB false H1):Oy c d σ H QB:=h
theorem s_or (h:c σ H fun b H1=>if b=true then QB true H1 else d σ H1 QB):tOr c d σ H QB:=h
theorem s_andV (h:ta σ H fun x H1=>∃ k,x=.bl k/\if k=true then tb σ H1 Q else Q (.bl false) H1):Ob ta tb σ H Q:=h
theorem s_orV (h:ta σ H fun x H1=>∃ k,x=.bl k/\if k=true then Q (.bl true) H1 else tb σ H1 Q):Zbn ta tb σ H Q:=h
theorem s_notV (h:ta σ H fun x H1=>∃ k,x=.bl k/\Q (.bl (!k)) H1):Za9 ta σ H Q:=h
theorem s_nil (h:QA' [] H):J8 σ H QA':=h
theorem s_cons (h:te σ H fun x H1=>ts σ H1 fun xs H2=>QA' (x :: xs) H2):Zbc te ts σ H QA':=h
theorem s_vals {xs:List V} (h:QA' xs H):Nv xs σ H QA':=h
theorem s_tup (h:ts σ H fun xs H1=>xs.length<=sizeLine/\∀ p,H1 p=none->Q (.ref p) (upd H1 p (.tup xs))):Np ts σ H Q:=h
theorem s_lst (h:ts σ H fun xs H1=>xs.length<=sizeLine/\∀ p,H1 p=none->Q (.ref p) (upd H1 p (.lst xs))):N6 ts σ H Q:=h
theorem s_call {sp:Sp} {dvs:List V} {E:XK} (h:ts σ H fun vs H1=>sp (vs++dvs) H1 Q E):Kq sp dvs E ts σ H Q:=h
theorem s_cb {r:List V->Hp->VK->Prop} (h:ts σ H fun vs H1=>r vs H1 Q):tCB r ts σ H Q:=h
theorem s_bm {K:Pd} {T:String} {r:V->List V->Hp->VK->Prop} (h:te σ H fun x H1=>Hb K T x H1/\ts σ H1 fun xs H2=>r x xs H2 Q):tBM K T r te ts σ H Q:=h
theorem s_bm0 {K:Pd} {T:String} {r:V->List V->Hp->VK->Prop} (h:te σ H fun x H1=>Hb K T x H1/\r x [] H1 Q):Le K T r te σ H Q:=h
theorem s_sl {r:V->Option Int->Option Int->Hp->VK->Prop} {tl th:TO} (h:te σ H fun x H1=>tl σ H1 fun l H2=>th σ H2 fun u H3=>r x l u H3 Q):tSl r te tl th σ H Q:=h
theorem s_po {QO':Option Int->Hp->Prop} (h:te σ H fun x H1=>∃ i,x=.int i/\QO' (some i) H1):Zaq te σ H QO':=h
theorem s_po0 {QO':Option Int->Hp->Prop} (h:QO' none H):Pb σ H QO':=h
theorem s_gname {i:Nat} {v:V} {QS':St->Hp->Prop} (h:QS' (σ.set i (some v)) H):Ft i v σ H QS':=h
theorem Db {K:Pd} {n:Nat} {a:Addr} {xs:List V} {QS':St->Hp->Prop} (q:SqT K H a xs) (l:xs.length=n) (h:gs xs σ H QS'):Lv K n gs (.ref a) σ H QS':=⟨a,xs,rfl,q,l,h⟩
theorem s_gcons {v:V} {r:List V} {QS':St->Hp->Prop} (h:g v σ H fun σ' H'=>gs r σ' H' QS'):Zbo g gs (v :: r) σ H QS':=⟨v,r,rfl,h⟩
theorem s_gnil {QS':St->Hp->Prop} (h:QS' σ H):Za7 [] σ H QS':=⟨rfl,h⟩
theorem s_isN (h:ta σ H fun x H1=>Q (.bl (decide (x=.non))) H1):Zau ta σ H Q:=h
end
section
variable {wi:TI} {σ0:St->St} {g:TG} {tt:TT} {te:TE} {ta:TA} {tb:TS} {D:C7} {σ:St} {H:Hp} {Q:VK} {R:It->Hp->Prop} {K:Pd}
theorem s_comp (h:wi σ H fun J H1=>∀ L,H1 L=none->Lb J g tt te (σ0 σ) H1 L Q):Jh wi σ0 g tt te σ H Q:=h
theorem s_for (h:wi σ H fun J H1=>∃ W:Nat->Nat->St->Hp->Prop,(∃ m,W 0 m σ H1)/\∀ i m σ H,W i m σ H ->
 (J.stop i H/\D.nx σ H)\/(J.go i H/\∃ N:St->Hp->Prop,(∀ σ' H',N σ' H'->∃ m',m' < m/\W (i + 1) m' σ' H')/\∀ x H',J.yld i H x H'->g x σ H' fun σ2 H2=>tb { D with nx:=N,ct:=N,bk:=D.nx } σ2 H2)):Zag wi g tb D σ H:=h
theorem s_rng1 (h:ta σ H fun vs H1=>∃ j:Int,vs=[.int j]/\-(2 ^ 62)<=j/\j < 2 ^ 62/\R (Gz 0 j.toNat) H1):Za3 ta σ H R:=h
theorem s_exr {i:Int} {P:Int->Prop} (h:P i):∃ j,([V.int i]:List V)=[.int j]/\P j:=⟨i,rfl,h⟩
theorem s_iany (h:te σ H fun x H1=>(∃ a,x=.ref a/\(∃ xs,SqL K H1 a xs)/\R (Gw K a) H1)\/(∃ a,x=.ref a/\(∃ xs,SqT K H1 a xs)/\R (Gc K a) H1)\/∃ z,x=.str z/\R (Its z) H1):Zbq K te σ H R:=h
theorem s_irev (h:ta σ H fun vs H1=>∃ a xs,vs=[.ref a]/\SqL K H1 a xs/\R (Ih K a xs.length) H1):Za6 K ta σ H R:=h
theorem s_listen (h:ta σ H fun vs H1=>∃ a xs,vs=[.ref a]/\SqT K H1 a xs/\∀ (S:Addr) (ys:List V) (H2:Hp),H1 S=none->Same H1 H2->ys.length=xs.length->Pairs H2 xs ys->H2 S=some (.lst ys)->Q (.ref S) H2):Nj K ta σ H Q:=h
theorem s_yes {QB:Bool->Hp->Prop} (h:QB true H):Zas σ H QB:=h
theorem s_turn {L:Addr} {Nx:List V->St->Hp->Prop} {x:V} (h:g x σ H fun σ2 H3=>tt σ2 H3 fun b H4=>if b=true then te σ2 H4 fun y H5=>∃ ys,H5 L=some (.lst ys)/\ys.length < sizeLine/\(∃ zs,upd H5 L (.lst (ys++[y])) L=some (.lst zs)/\Nx zs σ2 (upd H5 L (.lst (ys++[y])))) else ∃ zs,H4 L=some (.lst zs)/\Nx zs σ2 H4):Oh g tt te L Nx x σ H:=h
theorem Bt {l:Addr} {xs:List V} {y:V} (e:H l=some (.lst xs)) (z:xs.length < sizeLine) (h:Q .non (upd H l (.lst (xs++[y])))):Zeu (.ref l) [y] H Q:=⟨l,xs,y,rfl,rfl,e,z,h⟩
theorem Lf {l:Addr} {xs:List V} {y:V} (e:H l=some (.lst (xs++[y]))) (h:Q y (upd H l (.lst xs))):rPop (.ref l) [] H Q:=⟨l,xs++[y],y,rfl,rfl,e,by simp,by simpa using h⟩
end
end L2
namespace L2
open PySem PySem.Spec PyProof.Rows
section
variable {X:Cx} (K:Pd)
theorem Cg (hK:X.K=K:=by rfl):OpR X (binaryOp .Add) (G0 K):=by subst hK; exact op_addA
theorem Ba (hu:X.A.units + 200 < cLine) (hK:X.K=K:=by rfl):OpR X (compareOp .Eq) (L0 K):=by subst hK; exact Ze3 hu
theorem Ei (hu:X.A.units + 200 < cLine) (hK:X.K=K:=by rfl):OpR X (compareOp .NotEq) (Od K):=by subst hK; exact Zl3 hu
theorem E7 (hK:X.K=K:=by rfl):OpR X (compareOp .In) (Nw K false):=by subst hK; exact Zoq
theorem k_ix (hK:X.K=K:=by rfl):IxR X (Ii K):=by subst hK; exact Zms
theorem Gs (hK:X.K=K:=by rfl):SlR X (Nk K):=by subst hK; exact Zpe
theorem C6 (hK:X.K=K:=by rfl):Cv X (.builtin "len") (Mw K):=by subst hK; exact Zma
inductive TyQ (K:Pd) (H:Hp):V->Value->Prop where
 | ty {x:V} {t:Value} (h:Dg K H x t):TyQ K H x t
 | tup {a:Addr} {xs:List V} (q:SqT K H a xs):TyQ K H (.ref a) (.type "tuple")
 | lst {a:Addr} {xs:List V} (q:SqL K H a xs):TyQ K H (.ref a) (.type "list")
noncomputable def J5 (K:Pd) (T:String):List V->Hp->VK->Prop:=fun xs H Q=>∃ x t b,xs=[x,.ty T]/\TyQ K H x t/\Rb K t (.type T)=some b/\Q (.bl b) H
theorem Zmo {T:String}:Cv X (.builtin "isinstance") (J5 X.K T):=by
 intro pins s σ H xs us Q I r h
 obtain ⟨x,t,b,rfl,ty,e,q⟩:=h
 obtain ⟨u,v,rfl,ru,rv⟩:=r.two
 obtain rfl:v=Value.type T:=rv
 cases ty with
 | ty ty=>exact Zqv I ru ty e fun tk=>⟨.bl b,H,I.tok tk,rfl,q⟩
 | tup hq =>
  cases ru
  obtain ⟨its,_,p,_⟩:=I.tuple hq
  obtain ⟨o,h1,h2,_⟩:=p
  exact Qk PySem.W.kitx_tuple I.kIn ⟨o,h1,h2⟩ e (fun z=>nomatch z) fun tk=>⟨.bl b,H,I.tok tk,rfl,q⟩
 | lst hq =>
  cases ru
  obtain ⟨its,_,p,_⟩:=I.list hq
  obtain ⟨o,n,h1,h2,_⟩:=p
  exact Qk V5 I.kIn ⟨o,h1,h2⟩ e (fun z=>nomatch z) fun tk=>⟨.bl b,H,I.tok tk,rfl,q⟩
theorem Cz (T:String) (hK:X.K=K:=by rfl):Cv X (.builtin "isinstance") (J5 K T):=by subst hK; exact Zmo
noncomputable def rAll (K:Pd):List V->Hp->VK->Prop:=fun xs H Q=>∃ (p:Addr) (bs:List Bool),xs=[.ref p]/\SqL K H p (bs.map V.bl)/\Q (.bl (bs.all id)) H
theorem Zh7 (hc:X.calm=true) (hK:X.K=K:=by rfl):Cv X (.builtin "all") (rAll K):=by subst hK; exact Zmy hc
noncomputable def Zgq (K:Pd):List V->Hp->VK->Prop:=fun xs H Q=>∃ p ys,xs=[.ref p]/\(SqL K H p ys\/SqT K H p ys)/\∀ l,H l=none->Q (.ref l) (upd H l (.lst ys))
theorem Gr (hK:X.K=K:=by rfl):Cv X (.type "list") (Zgq K):=by subst hK; exact Ziy
noncomputable def rInt:List V->Hp->VK->Prop:=fun xs H Q=>(∃ i,xs=[.int i]/\Q (.int i) H)\/∃ k,xs=[.bl k]/\Q (.int (if k then 1 else 0)) H
theorem K3:Cv X (.type "int") rInt:=Zq4
theorem s_intb {k:Bool} {H:Hp} {Q:VK} (h:Q (.int (if k=true then 1 else 0)) H):rInt [.bl k] H Q:=.inr ⟨k,rfl,h⟩
theorem Eo {tg l:Expr} {tl:TE} (hl:QE X l tl) (hK:X.K=K:=by rfl):QI X tg l (Zbq K tl):=by subst hK; exact Zpx hl
theorem L8 {tg a:Expr} {ta:TA} {p pos:Pos} (hg:Gl X "reversed") (hm:X.mg "reversed" = none) (ha:QA X [a] ta) (hK:X.K=K:=by rfl) (hs:starEach [a] X.env=[(false,eval a X.env)]:=by rfl):QI X tg (.Call (.Name "reversed" p) [a] [] pos) (Za6 K ta):=by subst hK; exact Zm3 hg hm ha hs
theorem Zp4 {e:Expr} {ta:TA} {p p2 pos pos2:Pos} (hg:Gl X "list") (hm:X.mg "list" = none) (hg2:Gl X "enumerate") (hm2:X.mg "enumerate" = none) (ha:QA X [e] ta) (hK:X.K=K:=by rfl) (hc:X.calm=true:=by rfl)
  (hs:starEach [.Call (.Name "enumerate" p2) [e] [] pos2] X.env=[(false,eval (.Call (.Name "enumerate" p2) [e] [] pos2) X.env)]:=by rfl) (hs2:starEach [e] X.env=[(false,eval e X.env)]:=by rfl) :
  QE X (.Call (.Name "list" p) [.Call (.Name "enumerate" p2) [e] [] pos2] [] pos) (Nj K ta):=by subst hK; exact Zoi hg hm hg2 hm2 ha hc hs hs2
theorem Dc {es:List Expr} {k:Nat} {pos:Pos} {t:D9} {n:Nat} (hc:X.calm=true) (h:QGs X es t) (hK:X.K=K:=by rfl) (hn:(assignEach es X.env).length=n:=by rfl) (hst:(assignEach es X.env).findIdx? (·.1)=none:=by rfl):QG X (.Tuple es k pos) (Lv K n t):=by subst hK; exact Zm4 hc h hn hst
noncomputable def Zcn (K:Pd) (ta:TE):TT:=fun σ H Q=>ta σ H fun x H'=>∃ k,J9 K x H' k/\Q k H'
theorem Zam {a:Expr} {ta:TE} (ha:QE X a ta) (he:∀ whole,isTrue a X.env whole=(do let v <- whole; standAt a.pos; holding [v] (truthy v))) (hK:X.K=K:=by rfl):QT X a (Zcn K ta):=by subst hK; exact ⟨Zml ha.run he⟩
theorem Bw {o e:Expr} {es:List Expr} {to:TE} {t:TA} {name:Str} {apos cpos:Pos} {T id:String} {r:V->List V->Hp->VK->Prop} (pa:PlainAttrs T) (slot:Slot T name id) (hty:typeOf (.builtin id)=pure (.type "method_descriptor")) (hm:G5 X id r) (ho:QE X o to) (ha:QA X (e :: es) t) (hK:X.K=K:=by rfl)
  (hbase:attributeBase o name X.env (eval o X.env)=eval o X.env:=by rfl) (hfew:((backTo cpos (starEach (e :: es) X.env)).all (fun x=>!x.1) && (backToKw cpos (keywordEach [] X.env)).all (fun x=>x.1.isSome)
   && decide ((e :: es).length + ([]:List Keyword).length + (if ([]:List Keyword).isEmpty then 0 else 1) < 30))=true:=by rfl) (hline:(apos.endLine == cpos.line)=true:=by rfl) (hs:starEach (e :: es) X.env=(false,eval e X.env) :: starEach es X.env:=by rfl) (hplain:(backTo cpos (starEach es X.env)).any (·.1)=false:=by rfl):QE X (.Call (.Attribute o name apos) (e :: es) [] cpos) (tBM K T r to t):=by subst hK; exact Zip pa slot hty hm ho ha hbase hfew hline hs hplain
theorem Zba {o:Expr} {to:TE} {name:Str} {apos cpos:Pos} {T id:String} {r:V->List V->Hp->VK->Prop} (pa:PlainAttrs T) (slot:Slot T name id) (hty:typeOf (.builtin id)=pure (.type "method_descriptor")) (hm:G5 X id r) (ho:QE X o to) (hK:X.K=K:=by rfl) (hbase:attributeBase o name X.env (eval o X.env)=eval o X.env:=by rfl) (hline:(apos.endLine == cpos.line)=true:=by rfl):QE X (.Call (.Attribute o name apos) [] [] cpos) (Le K T r to):=by subst hK; exact Zim pa slot hty hm ho hbase hline
end
section
variable {K:Pd} {σ:St} {H:Hp} {Q:VK} {QB:Bool->Hp->Prop} {ta:TE}
theorem s_truth (h:ta σ H fun x H'=>∃ k,J9 K x H' k/\QB k H'):Zcn K ta σ H QB:=h
theorem Zfa {a:Addr} {xs:List V} {P:Bool->Prop} (q:SqL K H a xs) (h:P (!xs.isEmpty)):∃ k,J9 K (.ref a) H k/\P k:=⟨_,.inl ⟨xs,q,rfl⟩,h⟩
theorem B5 {T:String} {x:V} {t:Value} {b:Bool} (ty:Dg K H x t) (e:Rb K t (.type T)=some b) (h:Q (.bl b) H):J5 K T [x,.ty T] H Q:=⟨x,t,b,rfl,.ty ty,e,h⟩
theorem Fz {T:String} {a:Addr} {xs:List V} {b:Bool} (q:SqT K H a xs) (e:Rb K (.type "tuple") (.type T)=some b) (h:Q (.bl b) H):J5 K T [.ref a,.ty T] H Q:=⟨_,_,b,rfl,.tup q,e,h⟩
theorem Hw {T:String} {a:Addr} {xs:List V} {b:Bool} (q:SqL K H a xs) (e:Rb K (.type "list") (.type T)=some b) (h:Q (.bl b) H):J5 K T [.ref a,.ty T] H Q:=⟨_,_,b,rfl,.lst q,e,h⟩
theorem Zqi {K:Pd}:Rb K (.type "int") (.type "bool")=some false:=Zl2 (l:=(fastBuiltinMro "int").get (by decide +kernel)) (by decide +kernel) (by decide) (by simp) (by decide +kernel)
theorem Bj {a:Addr} {xs:List V} {P:Prop} (q:SqL K H a xs) (h:P):Hb K "list" (.ref a) H/\P:=⟨.inl ⟨rfl,_,q⟩,h⟩
end
theorem s_nt {A B:Prop} (h:B):if (!true)=true then A else B:=by simpa using h
theorem s_nf {A B:Prop} (h:A):if (!false)=true then A else B:=by simpa using h
end L2
namespace L2
open PySem
inductive Tr where
 | mk (wd:Str) (note:Dt) (ps:List Tr)
noncomputable def Tr.wd:Tr->Str
 | .mk w _ _=>w
noncomputable def Tr.ps:Tr->List Tr
 | .mk _ _ ps=>ps
mutual
noncomputable def Tr.size:Tr->Nat
 | .mk _ _ ps=>1 + Cp ps
noncomputable def Cp:List Tr->Nat
 | []=>0
 | t :: r=>t.size + Cp r
end
theorem Tr.size_eq (t:Tr):t.size=1 + Cp t.ps:=by
 cases t with
 | mk w n ps=>rw [Tr.size]; rfl
theorem Zl9 {ts:List Tr} {j:Nat} {t:Tr} (h:ts[j]?=some t):t.size<=Cp ts:=by
 induction ts generalizing j with
 | nil=>simp at h
 | cons x r ih =>
  rw [Cp]
  cases j with
  | zero=>simp at h; subst h; omega
  | succ j=>have:=ih (j:=j) (by simpa using h); omega
theorem Zox (ts:List Tr):ts.length<=Cp ts:=by
 induction ts with
 | nil=>simp [Cp]
 | cons t r ih =>
  have:=t.size_eq
  rw [Cp,P9]
  omega
noncomputable def SameT (H H':Hp):Prop:=∀ b,(∀ xs,H b=some (.tup xs)->H' b=some (.tup xs))/\∀ o u,H b=some (.frz o u)->H' b=some (.frz o u)
theorem Same.t {H H':Hp} (e:Same H H'):SameT H H':=fun b=>⟨fun xs h=>e b _ h,fun o u h=>e b _ h⟩
theorem SameT.refl (H:Hp):SameT H H:=fun _=>⟨fun _ h=>h,fun _ _ h=>h⟩
theorem SameT.trans {H H1 H2:Hp} (a:SameT H H1) (b:SameT H1 H2):SameT H H2:=fun c=>⟨fun xs h=>(b c).1 xs ((a c).1 xs h),fun o u h=>(b c).2 o u ((a c).2 o u h)⟩
theorem SameT.set {H:Hp} {S:Addr} {zs:List V} {o:HO} (h:H S=some (.lst zs)):SameT H (upd H S o):=fun b =>
 ⟨fun xs e=>by rw [Af (Df e h (by intro z; cases z))]; exact e,fun o' u e=>by rw [Af (Df e h (by intro z; cases z))]; exact e⟩
theorem SameT.new {H:Hp} {S:Addr} {o:HO} (h:H S=none):SameT H (upd H S o):=(Same.upd h).t
theorem SameT.tup {K:Pd} {H H':Hp} {a:Addr} {xs:List V} (e:SameT H H') (h:SqT K H a xs):SqT K H' a xs:=by
 rcases h with (h | ⟨o,h⟩) | h
 ·exact .inl (.inl ((e a).1 _ h))
 ·exact .inl (.inr ⟨o,(e a).2 _ _ h⟩)
 ·exact .inr h
noncomputable def IsN (K:Pd) (H:Hp) (v:V) (n:Dt):Prop:=(Cb v=true/\n=.flat v)\/∃ (a:Addr) (vs:List V),v=.ref a/\SqT K H a vs/\vs.all Cb=true/\n=.tup (vs.map .flat)
theorem IsN.same {K:Pd} {H H':Hp} {v:V} {n:Dt} (h:IsN K H v n) (e:SameT H H'):IsN K H' v n:=by
 rcases h with h | ⟨a,vs,h1,h2,h3⟩
 ·exact .inl h
 ·exact .inr ⟨a,vs,h1,e.tup h2,h3⟩
inductive TrAt (K:Pd) (H:Hp):V->Tr->Prop where
 | mk {a p:Addr} {wd:Str} {nv:V} {n:Dt} {vs:List V} {ts:List Tr} (q:SqT K H a [.str wd,nv,.ref p]) (hn:IsN K H nv n) (qp:SqT K H p vs) (l:vs.length=ts.length)
   (h:∀ (j:Nat) (v:V) (t:Tr),vs[j]?=some v->ts[j]?=some t->TrAt K H v t):TrAt K H (.ref a) (.mk wd n ts)
theorem TrAt.sameT {K:Pd} {H H':Hp} {v:V} {t:Tr} (h:TrAt K H v t) (e:SameT H H'):TrAt K H' v t:=by
 induction h with
 | mk q hn qp l _ ih=>exact .mk (e.tup q) (hn.same e) (e.tup qp) l ih
theorem TrAt.same {K:Pd} {H H':Hp} {v:V} {t:Tr} (h:TrAt K H v t) (e:Same H H'):TrAt K H' v t:=h.sameT e.t
noncomputable def Al {α:Type} (R:V->α->Prop) (vs:List V) (xs:List α):Prop:=vs.length=xs.length/\∀ (j:Nat) (v:V) (x:α),vs[j]?=some v->xs[j]?=some x->R v x
section
variable {α:Type} {R R':V->α->Prop} {vs:List V} {xs:List α} {v:V} {x:α}
theorem Al.mono (h:Al R vs xs) (f:∀ v x,R v x->R' v x):Al R' vs xs:=⟨h.1,fun j v x a b=>f v x (h.2 j v x a b)⟩
theorem Al.nil:Al R [] []:=⟨rfl,fun j v x a _=>by simp at a⟩
theorem Al.snoc (h:Al R vs xs) (a:R v x):Al R (vs++[v]) (xs++[x]):=by
 refine ⟨by simp [h.1],fun j y z e1 e2=>?_⟩
 by_cases hj:j < vs.length
 ·rw [Qa hj] at e1
  rw [Qa (by have:=h.1; omega)] at e2
  exact h.2 j y z e1 e2
 ·have hl:=(Pq.mp e1).1
  rw [Pi,Pr] at hl
  have hj':j=vs.length:=by omega
  subst hj'
  rw [Q2 (Ph _),R7] at e1
  rw [h.1,Q2 (Ph _),R7] at e2
  have e1:v=y:=by simpa using e1
  have e2:x=z:=by simpa using e2
  rw [<- e1,<- e2]
  exact a
theorem Al.split (h:Al R (vs++[v]) xs):∃ ys x,xs=ys++[x]/\Al R vs ys/\R v x:=by
 have hl:xs.length=vs.length + 1:=by have:=h.1; simp at this; omega
 have hne:xs≠[]:=fun z=>by rw [z] at hl; simp at hl
 refine ⟨xs.dropLast,xs.getLast hne,(Wl hne).symm,⟨by simp [hl],fun j y z e1 e2=>?_⟩,?_⟩
 ·have hj:=(Pq.mp e1).1
  refine h.2 j y z (by rw [Qa hj]; exact e1) ?_
  rw [List.getElem?_dropLast] at e2
  split at e2
  ·exact e2
  ·cases e2
 ·refine h.2 vs.length v _ (by simp) ?_
  rw [List.getLast_eq_getElem,Pg (by omega)]
  congr 1
  simp [hl]
theorem Al.last (h:Al R vs xs) (hn:vs≠[]):∃ vs' v xs' x,vs=vs'++[v]/\xs=xs'++[x]/\Al R vs' xs'/\R v x:=by
 have e:=(Wl hn).symm
 rw [e] at h
 obtain ⟨ys,x,e2,a,r⟩:=h.split
 exact ⟨_,_,ys,x,e,e2,a,r⟩
theorem Al.get {j:Nat} (h:Al R vs xs) (e:vs[j]?=some v):∃ x,xs[j]?=some x/\R v x:=by
 have hj:=(Pq.mp e).1
 have hx:j < xs.length:=by have:=h.1; omega
 exact ⟨xs[j],Pg hx,h.2 j v _ e (Pg hx)⟩
theorem Al.get' {j:Nat} (h:Al R vs xs) (e:xs[j]?=some x):∃ v,vs[j]?=some v/\R v x:=by
 have hj:=(Pq.mp e).1
 have hv:j < vs.length:=by have:=h.1; omega
 exact ⟨vs[j],Pg hv,h.2 j _ x (Pg hv) e⟩
end
mutual
noncomputable def walk:List Nat->Tr->List (List Nat×Tr)
 | pl,.mk w n ps=>(pl,.mk w n ps) :: Cc pl 0 ps
noncomputable def Cc:List Nat->Nat->List Tr->List (List Nat×Tr)
 | _,_,[]=>[]
 | pl,i,t :: r=>walk (pl++[i]) t++Cc pl (i + 1) r
end
theorem Zra (pl:List Nat) (t:Tr):walk pl t=(pl,t) :: Cc pl 0 t.ps:=by
 cases t with
 | mk w n ps=>rw [walk]; rfl
mutual
theorem N4:∀ (pl:List Nat) (t:Tr),(walk pl t).length=t.size
 | pl,.mk w n ps=>by rw [walk,Tr.size,P9,Zbs pl 0 ps]; omega
theorem Zbs:∀ (pl:List Nat) (i:Nat) (ts:List Tr),(Cc pl i ts).length=Cp ts
 | _,_,[]=>by rw [Cc,Cp]; rfl
 | pl,i,t :: r=>by rw [Cc,Cp,Pi,N4,Zbs]
end
mutual
theorem Zbd:∀ (pl:List Nat) (t:Tr) (x:List Nat×Tr),x∈walk pl t->x.1.length + 1<=pl.length + t.size
 | pl,.mk w n ps,x,h=>by
  rw [walk] at h
  rw [Tr.size]
  rcases Pm.mp h with h | h
  ·subst h; show pl.length + 1<=_; omega
  ·have:=Zfk pl 0 ps x h; omega
theorem Zfk:∀ (pl:List Nat) (i:Nat) (ts:List Tr) (x:List Nat×Tr),x∈Cc pl i ts->x.1.length<=pl.length + Cp ts
 | _,_,[],x,h=>by rw [Cc] at h; cases h
 | pl,i,t :: r,x,h=>by
  rw [Cc] at h
  rw [Cp]
  rcases Rl.mp h with h | h
  ·have:=Zbd (pl++[i]) t x h
   rw [Pi,Pr] at this
   omega
  ·have:=Zfk pl (i + 1) r x h; omega
end
noncomputable def A1 (pl:List Nat):List V:=pl.map fun i=>V.int ((i:Nat):Int)
noncomputable def B6:List Nat->Nat->List Tr->List (List Nat×Tr)
 | _,_,[]=>[]
 | pl,i,t :: r=>(pl++[i],t) :: B6 pl (i + 1) r
theorem Zd3 (pl:List Nat):∀ (i:Nat) (ts:List Tr),(B6 pl i ts).length=ts.length
 | _,[]=>rfl
 | i,t :: r=>by rw [B6,P9,P9,Zd3 pl (i + 1) r]
theorem Zfy (pl:List Nat):∀ (i j:Nat) (ts:List Tr),(B6 pl i ts)[j]?=(ts[j]?).map fun t=>(pl++[i + j],t)
 | _,_,[]=>by simp [B6]
 | i,0,t :: r=>by simp [B6]
 | i,j + 1,t :: r=>by
  rw [B6,List.getElem?_cons_succ,List.getElem?_cons_succ,Zfy pl (i + 1) j r]
  congr 1
  funext t
  rw [show i + 1 + j=i + (j + 1) by omega]
theorem Zdw (pl:List Nat):∀ (i:Nat) (ts:List Tr),(B6 pl i ts).flatMap (fun x=>walk x.1 x.2)=Cc pl i ts
 | _,[]=>by simp [B6,Cc]
 | i,t :: r=>by rw [B6,List.flatMap_cons,Cc,Zdw pl (i + 1) r]
noncomputable def Fx (st:List (List Nat×Tr)):List (List Nat×Tr):=st.reverse.flatMap fun x=>walk x.1 x.2
theorem Ziq:Fx []=[]:=rfl
theorem Zap (st:List (List Nat×Tr)) (x:List Nat×Tr):Fx (st++[x])=x :: Fx (st++(B6 x.1 0 x.2.ps).reverse):=by
 unfold Fx
 rw [Sc,Sc,List.reverse_reverse,List.flatMap_append,List.flatMap_append,Zdw]
 rw [Uo,List.flatMap_singleton,Zra]
 rfl
noncomputable def Ej (st:List (List Nat×Tr)):Nat:=(Fx st).length
theorem Zlo (st:List (List Nat×Tr)) (x:List Nat×Tr):Ej (st++(B6 x.1 0 x.2.ps).reverse) < Ej (st++[x]):=by
 unfold Ej
 rw [Zap]
 exact Uy _
theorem Ziw (st:List (List Nat×Tr)):st.length<=Ej st:=by
 unfold Ej Fx
 have:∀ l:List (List Nat×Tr),l.length<=(l.flatMap fun x=>walk x.1 x.2).length:=fun l=>by
  induction l with
  | nil=>simp
  | cons x r ih =>
   rw [List.flatMap_cons,Pi,N4,P9]
   have:=x.2.size_eq
   omega
 have:=this st.reverse
 rw [List.length_reverse] at this
 exact this
theorem Zmu {α:Type} {l:List α} {n i:Nat} {x:α} (hl:l.length=n) (hi:i < n) (hx:l[n - 1 - i]?=some x):(l.drop (n - (i + 1))).reverse=(l.drop (n - i)).reverse++[x]:=by
 have hk:n - 1 - i < l.length:=by omega
 have e:l.drop (n - (i + 1))=x :: l.drop (n - i):=by
  have h1:n - (i + 1)=n - 1 - i:=by omega
  rw [h1,Ry hk,show n - 1 - i + 1=n - i by omega]
  rw [Pg hk] at hx
  rw [Qi hx]
 rw [e,V7]
theorem Al.append {α:Type} {R:V->α->Prop} {vs ws:List V} {xs ys:List α} (h:Al R vs xs) (h':Al R ws ys):Al R (vs++ws) (xs++ys):=by
 refine ⟨by simp [h.1,h'.1],fun j v x e1 e2=>?_⟩
 by_cases hj:j < vs.length
 ·rw [Qa hj] at e1
  rw [Qa (by have:=h.1; omega)] at e2
  exact h.2 j v x e1 e2
 ·rw [Q2 (by omega)] at e1
  rw [Q2 (by have:=h.1; omega),<- h.1] at e2
  exact h'.2 _ v x e1 e2
end L2
namespace L2
open PySem PySem.Spec PyProof.Rows
section
open PySem.AutoSeq1
end
section
variable {X:Cx}
noncomputable def Cu (kvs:List (Str×V)) (k:Str):Option V:=(kvs.find? fun kv=>kv.1=k).map (·.2)
inductive VPs:List (Str×V)->List (Str×Value)->Prop
 | nil:VPs [] []
 | cons {k:Str} {x:V} {v:Value} {r:List (Str×V)} {q:List (Str×Value)}:RelV x v->VPs r q->VPs ((k,x) :: r) ((k,v) :: q)
theorem VPs.look {kvs:List (Str×V)} {vs:List (Str×Value)} (h:VPs kvs vs) (k:Str):(valueAt vs k).isSome=(Cu kvs k).isSome/\∀ x,Cu kvs k=some x->∃ v,valueAt vs k=some v/\RelV x v:=by
 induction h with
 | nil=>exact ⟨rfl,fun x e=>nomatch e⟩
 | @cons k' x v r q rx _ ih =>
  unfold valueAt Cu at ih ⊢
  by_cases z:k'=k
  ·simp only [Qx,z,decide_true,Tx,Option.isSome_some]
   exact ⟨trivial,fun y e=>⟨v,rfl,by cases e; exact rx⟩⟩
  ·simp only [Qx,z,decide_false]
   exact ih
noncomputable def F5 (P:Program) (w:World) (K:Pd) (a:Addr) (kvs:List (Str×V)):Prop :=
 ∃ (o:Obj) (vs:List (Str×Value)),K.lookup a=some o/\o.IsDictOf (strKind P w) vs/\(a == sysModules)=false/\VPs kvs vs
noncomputable def rInD (P:Program) (w:World) (K:Pd):R2:=fun x y H Q=>∃ s a kvs,x=.str s/\y=.ref a/\F5 P w K a kvs/\Q (.bl (Cu kvs s).isSome) H
theorem Znj:OpR X (compareOp .In) (rInD X.prog X.w X.K):=by
 intro pins s σ H x y v u Q I rx ry h
 obtain ⟨z,a,kvs,rfl,rfl,⟨o,vs,hk,hd,lo,vp⟩,q⟩:=h
 obtain ⟨t,rfl⟩:=rx
 cases ry
 have D:s.heap.DictOf (strKind X.prog X.w) a vs:=Wf.mpr ⟨o,I.kIn a o hk,hd⟩
 exact wpAny_in_of (knd:=strKind X.prog X.w) (k:=z) (strKind_is _ _ _ _) lo D.mapOf (Bo (I.tok _) q (vp.look z).1.symm)
noncomputable def rIxD (P:Program) (w:World) (K:Pd):R2:=fun x y H Q=>∃ a kvs s v,x=.ref a/\y=.str s/\F5 P w K a kvs/\Cu kvs s=some v/\Q v H
theorem ix_D:IxR X (rIxD X.prog X.w X.K):=by
 intro value slice pins s σ H x y v u Q I rx ry h hs
 obtain ⟨a,kvs,z,v',rfl,rfl,⟨o,vs,hk,hd,lo,vp⟩,hv,q⟩:=h
 cases rx
 obtain ⟨t,rfl⟩:=ry
 have D:s.heap.DictOf (strKind X.prog X.w) a vs:=Wf.mpr ⟨o,I.kIn a o hk,hd⟩
 obtain ⟨u',e,r⟩:=(vp.look z).2 _ hv
 exact tail_any D.typeIs slot_dict_getitem.lookup (wpAny_getItem_of (knd:=strKind X.prog X.w) (k:=z) (strKind_is _ _ _ _) D.mapOf e ⟨v',H,I.tok _,r,q⟩) hs
end
section
variable {X:Cx} (P:Program) (w:World) (K:Pd)
theorem O4 (hP:X.prog=P:=by rfl) (hw:X.w=w:=by rfl) (hK:X.K=K:=by rfl):OpR X (compareOp .In) (rInD P w K):=by subst hP hw hK; exact Znj
theorem Pc (hP:X.prog=P:=by rfl) (hw:X.w=w:=by rfl) (hK:X.K=K:=by rfl):IxR X (rIxD P w K):=by subst hP hw hK; exact ix_D
end
theorem s_chain {r r':R2} {ta tb tc:TE} {σ:St} {H:Hp} {Q:VK} (h:ta σ H fun x H1=>tb σ H1 fun y H2=>r x y H2 fun z H3=>∃ k,z=.bl k/\(if k=true then tc σ H3 fun w' H4=>r' y w' H4 Q else Q (.bl false) H3)):Oa r r' ta tb tc σ H Q:=h
inductive Ents (p:Params):List DictEntry->List (Str×V)->Prop
 | nil:Ents p [] []
 | cons {k:Str} {t:Tok} {x:V} {v:Value} {r:List DictEntry} {q:List (Str×V)}:RelV x v->Ents p r q->Ents p (⟨PyData.keyHash p k,.str k t,v⟩ :: r) ((k,x) :: q)
theorem Ents.pairs {P:Program} {w:World} {es:List DictEntry} {kvs:List (Str×V)} (h:Ents w.params es kvs):∃ vs,VPs kvs vs/\PySem.Pairs (PySem.strKind P w) es vs/\vs.map (·.1)=kvs.map (·.1)/\∀ e∈es,∃ k,(PySem.strKind P w).is k e.key=true/\e.hash=(PySem.strKind P w).hash k:=by
 induction h with
 | nil=>exact ⟨[],.nil,.nil,rfl,fun e he=>nomatch he⟩
 | @cons k t x v r q rx _ ih =>
  obtain ⟨vs,a,b,c,d⟩:=ih
  refine ⟨(k,v) :: vs,.cons rx a,.cons (strKind_is _ _ _ _) rfl b,by simp [c],fun e he=>?_⟩
  rcases Pm.mp he with rfl | he
  ·exact ⟨k,strKind_is _ _ _ _,rfl⟩
  ·exact d e he
theorem Zil {P:Program} {w:World} {K:Pd} {a:Addr} {es:Array DictEntry} {n:Nat} {kvs:List (Str×V)} (l:K.lookup a=some ⟨.type "dict",none,.dict es n,#[]⟩) (hs:(a == sysModules)=false)
  (e:Ents w.params es.toList kvs) (nd:(kvs.map (·.1)).Nodup):F5 P w K a kvs:=by
 obtain ⟨vs,a1,a2,a3,a4⟩:=e.pairs (P:=P)
 exact ⟨_,vs,l,⟨es,n,⟨rfl,rfl,rfl⟩,rfl,fun e he=>a4 e (by simpa using he),a2,by rw [a3]; exact nd⟩,hs,a1⟩
end L2
namespace L2
open PySem PySem.Spec PyProof.Rows
end L2
namespace L2
open PySem PySem.Spec PyProof.Rows
section
variable {X:Cx} {pins:List (Addr×Obj)} {σ:St} {it:Addr} {n:Nat} {H0:Hp} {J:Nat->List V->Hp->Heap->Prop}
end
section
variable {X:Cx}
theorem Zaw:∀ {ns:List Int} {us:List Value},Vals (ns.map V.int) us->∃ xs:List (Int×Tok),us=xs.map (fun p=>Value.int p.1 p.2)/\xs.map (·.1)=ns
 | [],_,.nil=>⟨[],rfl,rfl⟩
 | n :: ns,_,.cons r t=>by
  obtain ⟨u,rfl⟩:=r
  obtain ⟨xs,e1,e2⟩:=Zaw t
  exact ⟨(n,u) :: xs,by rw [e1]; rfl,by simp [e2]⟩
end
end L2
namespace L2
open PySem PySem.Spec PyProof.Rows
structure ZA (z TI TO i1 i2:Addr) (fp1 fp2:List Addr):Prop where
 TIz:TI≠z
 TOz:TO≠z
 TITO:TI≠TO
 z1:z ∉ fp1
 z2:z ∉ fp2
 TI1:TI≠i1
 TI2:TI≠i2
 TO1:TO ∉ fp1
 TO2:TO ∉ fp2
 m1:i1∈fp1
 m2:i2∈fp2
 n1:i1 ∉ fp2
 n2:i2 ∉ fp1
theorem ZA.i1z {z TI TO i1 i2:Addr} {fp1 fp2:List Addr} (D:ZA z TI TO i1 i2 fp1 fp2):i1≠z:=fun e=>D.z1 (e ▸ D.m1)
theorem ZA.i2z {z TI TO i1 i2:Addr} {fp1 fp2:List Addr} (D:ZA z TI TO i1 i2 fp1 fp2):i2≠z:=fun e=>D.z2 (e ▸ D.m2)
theorem ZA.TOi1 {z TI TO i1 i2:Addr} {fp1 fp2:List Addr} (D:ZA z TI TO i1 i2 fp1 fp2):TO≠i1:=fun e=>D.TO1 (e ▸ D.m1)
theorem ZA.TOi2 {z TI TO i1 i2:Addr} {fp1 fp2:List Addr} (D:ZA z TI TO i1 i2 fp1 fp2):TO≠i2:=fun e=>D.TO2 (e ▸ D.m2)
theorem Cd {prog:Program} {w:World} {A:Around} {it c:Addr} {fp:List Addr} {n i:Nat} {P:Nat->Value->Prop} {St:Nat->Heap->Prop} (D:Draws prog w A it fp n P St) {h h':Heap} (st:St i h) (e:Px c h h') (hc:c ∉ fp):St i h' :=
 D.frame i h h' st fun b hb o eo=>e.extBut b o (fun z=>hc (z ▸ hb)) eo
section
variable {prog:Program} {w:World} {A:Around} {E:Value->Shared->Prop} {s:Shared} {z TI TO i1 i2:Addr} {fp1 fp2:List Addr} {n1 n2 i:Nat} {P1 P2:Nat->Value->Prop} {St1 St2:Nat->Heap->Prop} {a b:Value}
theorem Zrm {Q:Value->Shared->Prop} (D1:Draws prog w A i1 fp1 n1 P1 St1) (D2:Draws prog w A i2 fp2 n2 P2 St2) (D:ZA z TI TO i1 i2 fp1 fp2) (hz:IsZip s.heap z TI TO .none) (hTI:IsPair s.heap TI (.ref i1) (.ref i2)) (hTO:IsPair s.heap TO a b)
  (st1:St1 i s.heap) (st2:St2 i s.heap) (l1:i < n1) (l2:i < n2)
  (hQ:∀ x y h' tk,P1 i x->P2 i y->IsZip h' z TI TO (rawInt s.heap.objs.size)->IsPair h' TO x y->St1 (i + 1) h'->St2 (i + 1) h'->IsPair h' s.heap.objs.size x y->h'.objs.size=s.heap.objs.size + 1 ->
   (∀ c o,c≠z->c≠TO->c≠i1->c≠i2->s.heap.get? c=some o->h'.get? c=some o)->Q (.ref s.heap.objs.size) { s with heap:=h',toks:=tk }) :
  wpAny (model prog w) A (Builtin.«zip.__next__» ⟨[.ref z],[]⟩) (fun fin s'=>∃ v,fin=.done (.ret v)/\Q v s') E s:=by
 show wpAny _ _ (field (.ref z) 2 >>= _) _ _ s
 refine Pe (Pu hz rfl (x:=Value.bool false) rfl ?_)
 show wpAny _ _ (field (.ref z) 3 >>= _) _ _ s
 refine Pe (Pu hz rfl (x:=Value.ref TI) rfl (Pe (Qz hTI rfl ?_)))
 show wpAny _ _ (Q1 (.ref z) >>= _) _ _ s
 refine Pe ?_
 unfold Q1
 refine Pe (Pu hz rfl (x:=Value.none) rfl (Pf ?_))
 simp only [if_true]
 refine Pe (Tb (Pe (Pu hz rfl (x:=Value.ref TO) rfl ?_)))
 refine Pe (Q6 hz (by simp) fun h₁ hz₁ e1=>?_)
 replace hz₁:IsZip h₁ z TI TO Value.ellipsis:=hz₁
 refine Pe ?_
 simp only [List.zipIdx_cons,List.zipIdx_nil,Tv,U8]
 refine Pe (Pe (Vb ?_))
 show wpAny _ _ (Qn (.ref i1) >>= _) _ _ _
 refine Pe (D1.item i _ _ _ l1 (Cd D1 st1 e1 D.z1) fun x h₂ tk₂ px s12 e2=>Pf ?_)
 replace e2:Px i1 h₁ h₂:=e2
 have p2:IsPair h₂ TO a b:=e2.extBut _ _ D.TOi1 (e1.extBut _ _ D.TOz hTO)
 refine Pe (Qz p2 rfl (Pe (V0 p2 fun h₃ p3 e3=>?_)))
 replace p3:IsPair h₃ TO x b:=p3
 replace e3:Px TO h₂ h₃:=e3
 refine Pe (Vn (Pf (Pe (Pe (Vb ?_)))))
 show wpAny _ _ (Qn (.ref i2) >>= _) _ _ _
 have s22:St2 i h₃:=Cd D2 (Cd D2 (Cd D2 st2 e1 D.z2) e2 D.n1) e3 D.TO2
 refine Pe (D2.item i _ _ _ l2 s22 fun y h₄ tk₄ py s24 e4=>Pf ?_)
 replace e4:Px i2 h₃ h₄:=e4
 have p4:IsPair h₄ TO x b:=e4.extBut _ _ D.TOi2 p3
 refine Pe (Qz p4 rfl (Pe (V0 p4 fun h₅ p5 e5=>?_)))
 replace p5:IsPair h₅ TO x y:=p5
 replace e5:Px TO h₄ h₅:=e5
 refine Pe (Vn (Pf (Pf (Pe (Qz p5 rfl (Pe (wpAny_newTuple ?_)))))))
 have sz:h₅.objs.size=s.heap.objs.size:=by rw [e5.1,e4.1,e3.1,e2.1,e1.1]
 have z5:IsZip h₅ z TI TO Value.ellipsis:=e5.extBut _ _ D.TOz.symm (e4.extBut _ _ D.i2z.symm (e3.extBut _ _ D.TOz.symm (e2.extBut _ _ D.i1z.symm hz₁)))
 have k5:∀ c o,c≠z->c≠TO->c≠i1->c≠i2->s.heap.get? c=some o->h₅.get? c=some o:=fun c o c1 c2 c3 c4 e=>e5.extBut _ _ c2 (e4.extBut _ _ c4 (e3.extBut _ _ c2 (e2.extBut _ _ c3 (e1.extBut _ _ c1 e))))
 have t1:St1 (i + 1) h₅:=Cd D1 (Cd D1 (Cd D1 s12 e3 D.TO1) e4 D.n2) e5 D.TO1
 have t2:St2 (i + 1) h₅:=Cd D2 s24 e5 D.TO2
 have zlt:z < h₅.objs.size:=Pl z5
 show wpAny _ _ (Wg (.ref z) (.ref h₅.objs.size) >>= _) _ _ _
 refine Pe ?_
 unfold Wg
 have z6:IsZip (h₅.push { cls:=.type "tuple",data:=.seq #[x,y] }) z TI TO Value.ellipsis:=Pj _ z5
 refine Pe (Q6 z6 (by simp) fun h₇ z7 e7=>?_)
 replace z7:IsZip h₇ z TI TO (rawInt h₅.objs.size):=z7
 refine Q6 z7 (by simp) fun h₈ z8 e8=>?_
 replace z8:IsZip h₈ z TI TO (rawInt h₅.objs.size):=z8
 have up:∀ c o,c≠z->h₅.get? c=some o->h₈.get? c=some o:=fun c o c1 e=>e8.extBut _ _ c1 (e7.extBut _ _ c1 (Pj _ e))
 have t8:IsPair h₈ h₅.objs.size x y:=e8.extBut _ _ (Ql zlt) (e7.extBut _ _ (Ql zlt) (Py _ rfl))
 have sz8:h₈.objs.size=h₅.objs.size + 1:=by rw [e8.1,e7.1,Qf]
 rw [sz] at z8 t8 sz8
 refine Pf ⟨_,rfl,?_⟩
 show Q (.ref h₅.objs.size) _
 rw [sz]
 exact hQ x y h₈ tk₄ px py z8 (up _ _ D.TOz p5) (D1.frame _ _ _ t1 fun c hc o e=>up c o (fun q=>D.z1 (q ▸ hc)) e) (D2.frame _ _ _ t2 fun c hc o e=>up c o (fun q=>D.z2 (q ▸ hc)) e) t8 sz8 fun c o c1 c2 c3 c4 e=>up c o c1 (k5 c o c1 c2 c3 c4 e)
theorem Zkt {Q:Fin->Shared->Prop} (D1:Draws prog w A i1 fp1 n1 P1 St1) (D2:Draws prog w A i2 fp2 n2 P2 St2) (D:ZA z TI TO i1 i2 fp1 fp2) (hz:IsZip s.heap z TI TO .none) (hTI:IsPair s.heap TI (.ref i1) (.ref i2)) (hTO:IsPair s.heap TO a b)
  (st1:St1 i s.heap) (st2:St2 i s.heap) (hend:i=n1\/(i < n1/\i=n2))
  (hE:∀ h' e tk,(∀ c o,c≠z->c≠TO->c≠i1->c≠i2->s.heap.get? c=some o->h'.get? c=some o)->(∃ o,h'.get? e=some o/\o.cls=.type "StopIteration")->E (.ref e) { s with heap:=h',toks:=tk }) :
  wpAny (model prog w) A (Builtin.«zip.__next__» ⟨[.ref z],[]⟩) Q E s:=by
 show wpAny _ _ (field (.ref z) 2 >>= _) _ _ s
 refine Pe (Pu hz rfl (x:=Value.bool false) rfl ?_)
 show wpAny _ _ (field (.ref z) 3 >>= _) _ _ s
 refine Pe (Pu hz rfl (x:=Value.ref TI) rfl (Pe (Qz hTI rfl ?_)))
 show wpAny _ _ (Q1 (.ref z) >>= _) _ _ s
 refine Pe ?_
 unfold Q1
 refine Pe (Pu hz rfl (x:=Value.none) rfl (Pf ?_))
 simp only [if_true]
 refine Pe (Tb (Pe (Pu hz rfl (x:=Value.ref TO) rfl ?_)))
 refine Pe (Q6 hz (by simp) fun h₁ hz₁ e1=>?_)
 replace hz₁:IsZip h₁ z TI TO Value.ellipsis:=hz₁
 refine Pe ?_
 simp only [List.zipIdx_cons,List.zipIdx_nil,Tv,U8]
 refine Pe (Pe (Vb ?_))
 show wpAny _ _ (Qn (.ref i1) >>= _) _ _ _
 rcases hend with rfl | ⟨l1,rfl⟩
 ·refine Pe (D1.done _ _ _ (Cd D1 st1 e1 D.z1) fun h₂ e e2 he=>?_)
  obtain ⟨oe,hoe,hce⟩:=he
  replace e2:S9 i1 h₁ h₂:=e2
  have z2:IsZip h₂ z TI TO Value.ellipsis:=e2 _ _ D.i1z.symm hz₁
  have hez:e≠z:=fun x=>by subst x; rw [z2] at hoe; cases hoe; simp at hce
  refine Q6 z2 (by simp) fun h₃ _ e3=>hE h₃ e s.toks (fun c o c1 _ c3 _ x=>e3.extBut _ _ c1 (e2 _ _ c3 (e1.extBut _ _ c1 x))) ⟨oe,e3.extBut _ _ hez hoe,hce⟩
 ·refine Pe (D1.item i _ _ _ l1 (Cd D1 st1 e1 D.z1) fun x h₂ tk₂ px s12 e2=>Pf ?_)
  replace e2:Px i1 h₁ h₂:=e2
  have p2:IsPair h₂ TO a b:=e2.extBut _ _ D.TOi1 (e1.extBut _ _ D.TOz hTO)
  refine Pe (Qz p2 rfl (Pe (V0 p2 fun h₃ p3 e3=>?_)))
  replace e3:Px TO h₂ h₃:=e3
  refine Pe (Vn (Pf (Pe (Pe (Vb ?_)))))
  show wpAny _ _ (Qn (.ref i2) >>= _) _ _ _
  have s22:St2 i h₃:=Cd D2 (Cd D2 (Cd D2 st2 e1 D.z2) e2 D.n1) e3 D.TO2
  refine Pe (D2.done _ _ _ s22 fun h₄ e e4 he=>?_)
  obtain ⟨oe,hoe,hce⟩:=he
  replace e4:S9 i2 h₃ h₄:=e4
  have z4:IsZip h₄ z TI TO Value.ellipsis:=e4 _ _ D.i2z.symm (e3.extBut _ _ D.TOz.symm (e2.extBut _ _ D.i1z.symm hz₁))
  have hez:e≠z:=fun x=>by subst x; rw [z4] at hoe; cases hoe; simp at hce
  refine Q6 z4 (by simp) fun h₅ _ e5=>hE h₅ e tk₂ (fun c o c1 c2 c3 c4 x=>e5.extBut _ _ c1 (e4 _ _ c4 (e3.extBut _ _ c2 (e2.extBut _ _ c3 (e1.extBut _ _ c1 x))))) ⟨oe,e5.extBut _ _ hez hoe,hce⟩
theorem Zl6 {Q:Option Value->Shared->Prop} (D1:Draws prog w A.in1 i1 fp1 n1 P1 St1) (D2:Draws prog w A.in1 i2 fp2 n2 P2 St2) (D:ZA z TI TO i1 i2 fp1 fp2) (hz:IsZip s.heap z TI TO .none) (hTI:IsPair s.heap TI (.ref i1) (.ref i2)) (hTO:IsPair s.heap TO a b)
  (st1:St1 i s.heap) (st2:St2 i s.heap) (l1:i < n1) (l2:i < n2)
  (hQ:∀ x y h' tk,P1 i x->P2 i y->IsZip h' z TI TO (rawInt s.heap.objs.size)->IsPair h' TO x y->St1 (i + 1) h'->St2 (i + 1) h'->IsPair h' s.heap.objs.size x y->h'.objs.size=s.heap.objs.size + 1 ->
   (∀ c o,c≠z->c≠TO->c≠i1->c≠i2->s.heap.get? c=some o->h'.get? c=some o)->Q (some (.ref s.heap.objs.size)) { s with heap:=h',toks:=tk }) :
  wpAny (model prog w) A (pyNext (.ref z)) Q E s:=by
 have hT:s.TypeIs (.ref z) "zip" := ⟨_,hz,rfl⟩
 unfold pyNext
 exact Pe (Sr (Q3 (name:=Qs "__next__") hT Rp
  (Q8 Rp hT Up (Zrm D1 D2 D hz hTI hTO st1 st2 l1 l2 fun x y h' tk a1 a2 a3 a4 a5 a6 a7 a8 a9=>Pf (hQ x y h' tk a1 a2 a3 a4 a5 a6 a7 a8 a9)) (Ul _))))
theorem Zk5 {Q:Option Value->Shared->Prop} (D1:Draws prog w A.in1 i1 fp1 n1 P1 St1) (D2:Draws prog w A.in1 i2 fp2 n2 P2 St2) (D:ZA z TI TO i1 i2 fp1 fp2) (hz:IsZip s.heap z TI TO .none) (hTI:IsPair s.heap TI (.ref i1) (.ref i2)) (hTO:IsPair s.heap TO a b)
  (st1:St1 i s.heap) (st2:St2 i s.heap) (hend:i=n1\/(i < n1/\i=n2))
  (hQ:∀ h' tk,(∀ c o,c≠z->c≠TO->c≠i1->c≠i2->s.heap.get? c=some o->h'.get? c=some o)->Q none { s with heap:=h',toks:=tk }):wpAny (model prog w) A (pyNext (.ref z)) Q E s:=by
 have hT:s.TypeIs (.ref z) "zip" := ⟨_,hz,rfl⟩
 unfold pyNext
 refine Pe (Sr (Q3 (name:=Qs "__next__") hT Rp
  (Q8 Rp hT Up (Zkt D1 D2 D hz hTI hTO st1 st2 hend fun h' e tk hk he=>?_) (Ul _))))
 obtain ⟨o,ho,hc⟩:=he
 exact Pe (V9 (T := "StopIteration") (b:=true) ⟨o,ho,hc⟩ isSubtype_stop (Pf (hQ _ _ hk)))
end
section
variable {prog:Program} {w:World} {A:Around} {E:Value->Shared->Prop} {s:Shared}
end
section
variable {X:Cx} {pins:List (Addr×Obj)} {σ:St} {H:Hp} {s:Shared} {h':Heap}
theorem Inv.turnedL {t':Nat} {fp:List Addr} (I:Inv X pins σ H s) (k:∀ b o,b ∉ fp->s.heap.get? b=some o->h'.get? b=some o) (f:∀ b∈fp,FpOk X pins H b):Inv X pins σ H { s with heap:=h',toks:=t' }:=by
 have nit:∀ b u,H b=some u->b ∉ fp:=fun b u e hb=>by rw [(f b hb).1] at e; exact nomatch e
 refine I.step (g':=s.gens) (d':=s.drawn) (ch:=fp) (fun b hb=>?_) (fun b o _ _ hc e _=>k b o hc e) (fun b o _ _ hc e _=>⟨o.slots,k b o hc e⟩) (fun _ _ _ _ n=>n)
  (fun b o hc e=>⟨o,k b o hc e⟩) (fun _ _ e=>e) (fun _ _ _ e=>e) (fun b ps e=>⟨#[],by rw [e]; simp⟩) (fun m hm=>?_) (fun b u e=>?_) I.bare
 ·obtain ⟨n1,l1,_,e1,c1,p1⟩:=f b hb
  exact ⟨e1,l1,c1,p1⟩
 ·obtain ⟨o,es,ep,ho,r⟩:=hm
  exact ⟨o,es,ep,k _ o (fun hb=>(f _ hb).2.1 rfl) ho,r⟩
 ·refine (I.hok b u e).stay (fun c v hc q=>k c v ?_ q) (fun _ q=>q) fun _ _ q=>q
  rcases hc with z | z
  ·rw [z]; exact nit b u e
  ·exact nit c _ z
theorem Inv.pairL {tk:Nat} {fp:List Addr} {T:Addr} {xs:List V} {its:List Value} (I:Inv X pins σ H s) (f:∀ b∈fp,FpOk X pins H b)
  (kk:∀ b o,b ∉ fp->s.heap.get? b=some o->h'.get? b=some o) (hT:s.heap.objs.size<=T) (rv:Vals xs its) (hz:xs.length<=sizeLine) (ht:h'.IsTuple T its.toArray):Inv X pins σ (upd H T (.tup xs)) { s with heap:=h',toks:=tk }:=by
 have hf:H T=none:=I.hok.fresh hT
 have I1:Inv X pins σ H { s with heap:=h',toks:=tk }:=I.turnedL kk f
 have hokN:HOk X.prog X.w (upd H T (.tup xs)) h':=fun b o e=>by
  by_cases hb:b=T
  ·subst hb
   rw [Ad] at e
   cases e
   exact ⟨hz,its,rv,ht⟩
  ·rw [Af hb] at e
   refine (I1.hok b o e).stay (fun c v _ q=>q) (fun c q=>?_) fun c zs q=>?_
   ·rw [Af (Ca q hf)]; exact q
   ·rw [Af (Ca q hf)]; exact q
 have u:Un (Bl X.stack) fp H (upd H T (.tup xs)) s.heap h':={
  keep:=fun b o e n _ hx=>kk b o hx e
  slot:=fun b o e n _ hx=>⟨o.slots,kk b o hx e⟩
  free:=fun b o e n _=>by rw [Af (Pw (P6 (Pl e) hT))]; exact n
  there:=fun b o e hx=>⟨o,kk b o hx e⟩
  tups:=fun b zs e=>by rw [Af (Ca e hf)]; exact e
  frzs:=fun b o u e=>by rw [Af (Ca e hf)]; exact e
  tbls:=fun b ps e=>⟨#[],by rw [Af (Ca e hf),e]; simp⟩ }
 refine I.call (g':=s.gens) (d':=s.drawn) (t':=tk) u hokN I.bare fun b hb=>?_
 obtain ⟨n1,l1,_,e1,c1,p1⟩:=f b hb
 exact ⟨e1,l1,c1,p1⟩
end
structure ZB (z TI TO i1 i2 a b:Addr):Prop where
 TIz:TI≠z
 TOz:TO≠z
 TITO:TI≠TO
 i1z:i1≠z
 i2z:i2≠z
 TI1:TI≠i1
 TI2:TI≠i2
 TO1:TO≠i1
 TO2:TO≠i2
 i12:i1≠i2
 az:a≠z
 aTO:a≠TO
 a1:a≠i1
 a2:a≠i2
 bz:b≠z
 bTO:b≠TO
 b1:b≠i1
 b2:b≠i2
theorem ZB.za {z TI TO i1 i2 a b:Addr} (D:ZB z TI TO i1 i2 a b):ZA z TI TO i1 i2 [i1,a] [i2,b] where
 TIz:=D.TIz
 TOz:=D.TOz
 TITO:=D.TITO
 z1:=by simp [D.i1z.symm,D.az.symm]
 z2:=by simp [D.i2z.symm,D.bz.symm]
 TI1:=D.TI1
 TI2:=D.TI2
 TO1:=by simp [D.TO1,D.aTO.symm]
 TO2:=by simp [D.TO2,D.bTO.symm]
 m1:=by simp
 m2:=by simp
 n1:=by simp [D.i12,D.b1.symm]
 n2:=by simp [D.i12.symm,D.a2.symm]
theorem Zg0 {n a b:Nat} (h1:a < n) (h2:b < n):ZB (n + 4) (n + 2) (n + 3) n (n + 1) a b:=by
 have f:∀ i j:Nat,i≠j->n + i≠n + j:=fun i j h e=>h (Nat.add_left_cancel e)
 have g:∀ i:Nat,a≠n + i:=fun i e=>absurd h1 (by rw [e]; exact Nat.not_lt.mpr (Tq _ _))
 have g':∀ i:Nat,b≠n + i:=fun i e=>absurd h2 (by rw [e]; exact Nat.not_lt.mpr (Tq _ _))
 exact ⟨f 2 4 (by decide),f 3 4 (by decide),f 2 3 (by decide),f 0 4 (by decide),f 1 4 (by decide),f 2 0 (by decide),f 2 1 (by decide),f 3 0 (by decide),f 3 1 (by decide),f 0 1 (by decide),g 4,g 3,g 0,g 1,g' 4,g' 3,g' 0,g' 1⟩
section
variable {X:Cx}
end
end L2
namespace L2
open PySem PySem.Spec PyProof.Rows
theorem Zp1 {prog:Program} {w:World} {A:Around} {E:Value->Shared->Prop} {s:Shared} {t sl:Addr} {items:Array Value} {vl vu:Value} {lo hi:Option Int} {Q:Value->Shared->Prop} (ht:IsTup s.heap t items) (hs:s.heap.IsSliceOf sl vl vu .none) (pl:IsPart vl lo) (pu:IsPart vu hi)
  (hw:HT.sIx items.size 0 lo=0/\HT.sIx items.size items.size hi=items.size) (h:Q (.ref t) s):wpAny (model prog w) A (getItem (.ref t) (.ref sl)) Q E s:=by
 obtain ⟨os,hos,hcs,hds⟩:=id hs
 have hTs:s.TypeIs (.ref sl) "slice" := ⟨os,hos,hcs⟩
 unfold getItem
 try with_reducible refine Rm ?_
 first | refine Pe (Pf ?_) | skip
 refine Pe (wpAny_sequenceKey ht.typeIs (by decide) ?_)
 refine Pe (Q3 (name:=Qs "__getitem__") ht.typeIs Sa
  (Q8 Sa ht.typeIs PyProof.Rows.entry_tuple_getitem ?_ (PyProof.Rows.args_tuple_getitem _ _)))
 show wpAny _ _ (Builtin.Tuple.tupleItemsOf (.ref t) >>= _) _ _ s
 refine Pe (PyProof.Rows.tupleItemsOf_ ht ?_)
 refine Pe (Sy hTs ?_)
 rw [if_pos (by decide)]
 refine Pe (HT.sliceApplied_gen hs pl pu ?_)
 have hyes:(((HT.sIx items.size 0 lo:Nat):Int) == 0 && (1:Int) == 1 && (HT.sIx items.size items.size hi - HT.sIx items.size 0 lo) == items.size)=true:=by
  rw [hw.1,hw.2]
  simp
 show wpAny _ _ (if (((HT.sIx items.size 0 lo:Nat):Int) == 0 && (1:Int) == 1 && (HT.sIx items.size items.size hi - HT.sIx items.size 0 lo) == items.size)=true then _ else _) _ _ s
 rw [if_pos hyes]
 refine Pe (m:=Builtin.Tuple.tupleIsExact (.ref t)) ?_
 unfold Builtin.Tuple.tupleIsExact
 refine Pe (Sy ht.typeIs (Pf ?_))
 rw [if_pos (by decide)]
 refine Pe (Tb ?_)
 exact Pf ⟨_,rfl,Pf h⟩
noncomputable def rSlU (K:Pd):V->Option Int->Option Int->Hp->VK->Prop:=fun x lo hi H Q=>∃ a xs,x=.ref a/\SqT K H a xs/\∀ r H',Same H H'->SqT K H' r (B0 xs lo hi)->Q (.ref r) H'
theorem Zpo {X:Cx}:SlR X (rSlU X.K):=by
 intro pins s σ H x v vl vu lo hi sl Q I rx hs pl pu h
 obtain ⟨a,xs,rfl,hx,q⟩:=h
 by_cases hw:HT.sIx xs.length 0 lo=0/\HT.sIx xs.length xs.length hi=xs.length
 ·cases rx
  obtain ⟨its,r,ht,hz⟩:=I.tuple hx
  have hlen:its.toArray.size=xs.length:=by rw [Pk]; exact r.length.symm
  refine ⟨"tuple",_,Sa.lookup,ht.typeIs,?_⟩
  refine Zp1 ht hs pl pu (by rw [hlen]; exact hw) ⟨.ref a,H,I,rfl,q a H (Same.refl H) ?_⟩
  have e:B0 xs lo hi=xs:=by unfold B0; rw [hw.1,hw.2]; simp
  rw [e]
  exact hx
 ·exact Zck pins s σ H _ v vl vu lo hi sl Q I rx hs pl pu ⟨a,xs,rfl,hx,hw,fun p hp=>q p _ (Same.upd hp) (.of Ad)⟩
noncomputable def rSlB (K:Pd):V->Option Int->Option Int->Hp->VK->Prop:=fun x lo hi H Q=>N2 K x lo hi H Q\/Ou x lo hi H Q\/rSlU K x lo hi H Q
theorem Zc4 {X:Cx} (K:Pd) (hK:X.K=K:=by rfl):SlR X (rSlB K):=by subst hK; exact sl_list.or (sl_str.or Zpo)
theorem Zfn {K:Pd} {a:Addr} {xs:List V} {lo hi:Option Int} {H:Hp} {Q:VK} (ha:SqT K H a xs) (h:∀ r H',Same H H'->SqT K H' r (B0 xs lo hi)->Q (.ref r) H'):rSlB K (.ref a) lo hi H Q:=.inr (.inr ⟨a,xs,rfl,ha,h⟩)
theorem Zj9 (xs:List V) (k:Nat):B0 xs none (some (k:Int))=xs.take k:=by
 unfold B0
 rw [HT.sIx_none,HT.sIx_nat,T6,List.drop_zero]
 by_cases h:k<=xs.length
 ·rw [U5 h]
 ·rw [U0 (by omega),Qu (Ph _),Qu (by omega)]
theorem Zes (xs:List V) (k:Nat):B0 xs (some (k:Int)) none=xs.drop k:=by
 unfold B0
 rw [HT.sIx_none,HT.sIx_nat]
 by_cases h:k<=xs.length
 ·rw [U5 h,Qu (by simp)]
 ·rw [U0 (by omega),Rg (Ph _),Rg (by omega)]
  simp
theorem Zod (xs:List V) (j k:Nat):B0 xs (some (j:Int)) (some (k:Int))=(xs.drop j).take (k - j):=by
 unfold B0
 rw [HT.sIx_nat,HT.sIx_nat]
 by_cases hj:j<=xs.length
 ·rw [U5 hj]
  by_cases hk:k<=xs.length
  ·rw [U5 hk]
  ·rw [U0 (by omega),Qu (by simp),Qu (by simp; omega)]
 ·rw [U0 (T4 (Nat.lt_of_not_le hj)),Rg (Ph _),Rg (by omega)]
  simp
end L2
namespace L2
open PySem PySem.Spec PyProof.Rows
structure Mvd (fs xs:List Addr) (h h':Heap):Prop where
 keep:∀ b o,b ∉ xs->b ∉ fs->h.get? b=some o->h'.get? b=some o
 slot:∀ b o,b ∉ xs->h.get? b=some o->∃ sl,h'.get? b=some { o with slots:=sl }
theorem Mvd.trans {fs xs:List Addr} {h h1 h2:Heap} (a:Mvd fs xs h h1) (b:Mvd fs xs h1 h2):Mvd fs xs h h2 :=
 ⟨fun c o n1 n2 e=>b.keep c o n1 n2 (a.keep c o n1 n2 e),fun c o n e=>by
  obtain ⟨sl,e1⟩:=a.slot c o n e
  obtain ⟨sl',e2⟩:=b.slot c _ n e1
  exact ⟨sl',e2⟩⟩
theorem Mvd.mono {fs xs ys:List Addr} {h h1:Heap} (a:Mvd fs xs h h1) (s:∀ b∈xs,b∈ys):Mvd fs ys h h1 :=
 ⟨fun c o n1 n2 e=>a.keep c o (fun z=>n1 (s c z)) n2 e,fun c o n e=>a.slot c o (fun z=>n (s c z)) e⟩
theorem Mvd.upd {fs:List Addr} {h:Heap} {a:Addr} (f:Obj->Obj):Mvd fs [a] h (h.update a f) :=
 ⟨fun c o n _ e=>by rw [Q4 _ _ (fun z=>n (by simp [z]))]; exact e,fun c o n e=>⟨o.slots,by rw [Q4 _ _ (fun z=>n (by simp [z]))]; exact e⟩⟩
theorem Mvd.push {fs xs:List Addr} {h:Heap} (o:Obj):Mvd fs xs h (h.push o):=⟨fun _ _ _ _ e=>Pj _ e,fun _ o _ e=>⟨o.slots,Pj _ e⟩⟩
theorem Mvd.fun {fs xs:List Addr} {h h1 base:Heap} {l:List Env} (a:Mvd fs xs h h1) (hl:h.FunFrames base l) (nx:∀ b∈xs,∃ o vs,h.get? b=some o/\o.data=.fields vs):h1.FunFrames base l :=
 hl.of_keeps fun b o e hd=>by
  obtain ⟨sl,e1⟩:=a.slot b o (fun z=>by
   obtain ⟨o',vs,e',d'⟩:=nx b z
   rw [e] at e'
   cases e'
   exact hd vs d') e
  exact ⟨_,e1,rfl⟩
noncomputable def Jd (h:Heap) (e T:Addr) (cls:Value) (od:Option Addr) (fl:Value):Prop :=
 ∃ oe vs oT ts,h.get? e=some oe/\oe.cls=cls/\oe.dict=od/\oe.data=.fields vs/\vs[1]?=some (.ref T)/\T≠e/\h.get? T=some oT/\oT.data=.fields ts/\ts[3]?=some fl
noncomputable abbrev Fy (h:Heap) (e T:Addr) (cls:Value) (od:Option Addr):Prop:=Jd h e T cls od .none
noncomputable def Lx (h:Heap) (e:Addr) (cls:Value) (od:Option Addr):Prop:=∃ oe vs,h.get? e=some oe/\oe.cls=cls/\oe.dict=od/\oe.data=.fields vs/\vs[1]?=some .none
section
variable {M:Model} {A:Around} {E:Value->Shared->Prop} {s:Shared}
theorem Zc0 {base:Heap} {env:Env} {outer:List Env} {L e:Addr} {oe:Obj} {vs:Array Value} {head:Value} {hadNext:Bool} {Q:Unit->Shared->Prop}
  (hfr:A.frames=some (env :: outer)) (hl:s.heap.FunFrames base (env :: outer)) (hf:env.frame=some L) (he:s.heap.get? e=some oe) (hd:oe.data=.fields vs) (hsz:1 < vs.size)
  (h:∀ h' T,s.heap.objs.size<=T->Jd h' e T oe.cls oe.dict (rawInt L)->Mvd (Bl (env :: outer)) [e] s.heap h'->Q () { s with heap:=h' }) :
  wpAny M A (do let a <- frameOf env; let pl <- entryPlaceOf L hadNext; let b <- EntryCells.newEntry head a .none (rawInt L) .none pl; setField (.ref e) 1 b) Q E s:=by
 have hene:e ∉ Bl (env :: outer):=fun hm=>by
  obtain ⟨_,o,ho,hnf⟩:=hl.mem hm
  rw [he] at ho
  cases ho
  exact hnf vs hd
 refine Pe (wpAny_frameOf_fun hfr hl hf fun h₁ s1=>?_)
 refine Pe (wpAny_entryPlaceOf fun pl hpl=>?_)
 unfold EntryCells.newEntry newFields
 refine Pe (Rr ?_ (hpl.sizeOk5 _ _ _ _ _))
 have e1:h₁.get? e=some oe:=(s1.2.1 e hene).trans he
 generalize hoT:({ cls:=.type "traceback",dict:=none,data:=.fields ([head,.ref L,.none,rawInt L,.none]++(if pl.isEmpty then Qg 6 Value.none else pl)).toArray }:Obj)=oT
 have e2:(h₁.push oT).get? e=some oe:=Pj _ e1
 refine Tz e2 hd hsz (h _ h₁.objs.size (by rw [s1.1]; exact Ph _) ?_ ?_)
 ·have nT:h₁.objs.size≠e:=Ql (Pl e1)
  have d3:=Uv hd (·.setIfInBounds 1 (Value.ref h₁.objs.size))
  have e3:=R0 (Su (·.setIfInBounds 1 (Value.ref h₁.objs.size))) e2 (Vv d3)
  have fT:oT.isFreed=false:=by rw [<- hoT]; rfl
  have e4:=(Q4 (h₁.push oT) (Su (·.setIfInBounds 1 (Value.ref h₁.objs.size))) (Ps nT)).trans (Py h₁ fT)
  refine ⟨_,_,_,_,e3,Obj.cls_mapFields _ _,?_,d3,by simp [hsz],nT,e4,by rw [<- hoT],?_⟩
  ·obtain ⟨c0,d0,t0,s0⟩:=oe
   cases t0 <;> rfl
  ·first | (simp; done) | (rcases hpl with rfl | ⟨_,_,_,_,_,_,_,rfl⟩ <;> simp)
 ·have m1:Mvd (Bl (env :: outer)) [e] s.heap h₁:=⟨fun b o _ n e=>(s1.2.1 b n).trans e,fun b o _ e=>s1.2.2 b o e⟩
  exact (m1.trans (Mvd.push oT)).trans (Mvd.upd _)
theorem Mz {e T:Addr} {cls fl:Value} {od:Option Addr} {fs:List Addr} {Q:Unit->Shared->Prop} (x:Jd s.heap e T cls od fl) (h:∀ h',Fy h' e T cls od->Mvd fs [T] s.heap h'->Q () { s with heap:=h' }):wpAny M A (setFlight (.ref e) none) Q E s:=by
 obtain ⟨oe,vs,oT,ts,a1,a2,a3,a4,a5,a6,a7,a8,a9⟩:=x
 have hz:3 < ts.size:=(Uc.mp a9).1
 unfold setFlight
 refine Pe (Pu a1 a4 a5 ?_)
 rw [if_pos (show (Value.ref T != Value.none)=true from by simp)]
 refine Tz a7 a8 hz (h _ ?_ (Mvd.upd _))
 have d:=Uv a8 (·.setIfInBounds 3 ((none:Option Addr).elim Value.none fun f=>rawInt f))
 exact ⟨oe,vs,_,_,by rw [Q4 _ _ a6]; exact a1,a2,a3,a4,a5,a6,R0 _ a7 (Vv d),d,by simp [hz]⟩
theorem Zh3 {base:Heap} {env:Env} {outer:List Env} {L e:Addr} {cls:Value} {od:Option Addr} {Q:Unit->Shared->Prop}
  (hfr:A.frames=some (env :: outer)) (hl:s.heap.FunFrames base (env :: outer)) (hf:env.frame=some L) (x:Lx s.heap e cls od)
  (h:∀ h' T,s.heap.objs.size<=T->Jd h' e T cls od (rawInt L)->Mvd (Bl (env :: outer)) [e] s.heap h'->Q () { s with heap:=h' }):wpAny M A (noteFrame (.ref e) env) Q E s:=by
 obtain ⟨oe,vs,he,rfl,rfl,hd,h1⟩:=x
 unfold noteFrame
 simp only [hf]
 refine Pe (Pu he hd h1 ?_)
 rw [if_neg (by decide)]
 exact Zc0 hfr hl hf he hd (Uc.mp h1).1 h
theorem Zfh {base:Heap} {env:Env} {outer:List Env} {L e T:Addr} {cls:Value} {od:Option Addr} {Q:Unit->Shared->Prop}
  (hfr:A.frames=some (env :: outer)) (hl:s.heap.FunFrames base (env :: outer)) (hf:env.frame=some L) (x:Fy s.heap e T cls od)
  (h:∀ h' T',s.heap.objs.size<=T'->Jd h' e T' cls od (rawInt L)->Mvd (Bl (env :: outer)) [e,T] s.heap h'->Q () { s with heap:=h' }):wpAny M A (noteFrame (.ref e) env) Q E s:=by
 obtain ⟨oe,vs,oT,ts,he,rfl,rfl,hd,h1,nT,hT,dT,h3⟩:=x
 unfold noteFrame
 simp only [hf]
 refine Pe (Pu he hd h1 ?_)
 rw [if_pos (show (Value.ref T != Value.none)=true from by simp)]
 refine Pe (Pu hT dT h3 ?_)
 rw [if_neg (show ¬ ((Value.none == rawInt L)=true) from by simp [rawInt])]
 refine Pe (Tz hT dT (Uc.mp h3).1 ?_)
 have m1:Mvd (Bl (env :: outer)) [T] s.heap (s.heap.update T (Su (·.setIfInBounds 3 Value.none))):=Mvd.upd _
 have he':(s.heap.update T (Su (·.setIfInBounds 3 Value.none))).get? e=some oe:=(Q4 _ _ nT).trans he
 refine Zc0 hfr (m1.fun hl fun b hb=>by rw [P8.mp hb]; exact ⟨oT,ts,hT,dT⟩) hf he' hd (Uc.mp h1).1 fun h' T' hz x m=>?_
 refine h h' T' ?_ x ((m1.mono (by simp)).trans (m.mono (by simp)))
 have:(s.heap.update T (Su (·.setIfInBounds 3 Value.none))).objs.size=s.heap.objs.size:=Heap.size_after_update ..
 have hz:(s.heap.update T (Su (·.setIfInBounds 3 Value.none))).objs.size<=T':=hz
 omega
theorem Zqu {base:Heap} {env:Env} {outer:List Env} {L e:Addr} {cls:Value} {od:Option Addr} {Q:Unit->Shared->Prop}
  (hfr:A.frames=some (env :: outer)) (hl:s.heap.FunFrames base (env :: outer)) (hf:env.frame=some L) (x:Lx s.heap e cls od)
  (h:∀ h' T,s.heap.objs.size<=T->Fy h' e T cls od->Mvd (Bl (env :: outer)) [e,T] s.heap h'->Q () { s with heap:=h' }):wpAny M A (leaving env (.ref e)) Q E s:=by
 unfold leaving
 refine Pe (Zh3 hfr hl hf x fun h1 T hz y m=>?_)
 refine Mz (fs:=Bl (env :: outer)) y fun h2 y2 m2=>h h2 T hz y2 ((m.mono (by simp)).trans (m2.mono (by simp)))
theorem Zk4 {base:Heap} {env:Env} {outer:List Env} {L e T:Addr} {cls:Value} {od:Option Addr} {Q:Unit->Shared->Prop}
  (hfr:A.frames=some (env :: outer)) (hl:s.heap.FunFrames base (env :: outer)) (hf:env.frame=some L) (x:Fy s.heap e T cls od)
  (h:∀ h' T',s.heap.objs.size<=T'->Fy h' e T' cls od->Mvd (Bl (env :: outer)) [e,T,T'] s.heap h'->Q () { s with heap:=h' }):wpAny M A (leaving env (.ref e)) Q E s:=by
 unfold leaving
 refine Pe (Zfh hfr hl hf x fun h1 T' hz y m=>?_)
 refine Mz (fs:=Bl (env :: outer)) y fun h2 y2 m2=>h h2 T' hz y2 ((m.mono (by simp)).trans (m2.mono (by simp)))
end
end L2
namespace L2
open PySem PySem.Spec PyProof.Rows
theorem Ng {X:Cx} {st:Stmt}:QS X st (fun _ _ _=>False):=⟨fun _ _ _ _ _ _ h=>h.elim⟩
noncomputable def Hv (h:Heap) (z TI TO i1 i2:Addr):Prop:=∃ (a:Addr) (oa:Obj) (f1:Value),h.get? z=some { cls:=.type "zip",dict:=none,data:=.fields #[rawInt a,f1,.bool false,.ref TI,.ref TO],slots:=#[] }/\h.get? a=some oa/\a≠z/\a≠i1/\a≠i2
section
variable {prog:Program} {w:World} {A:Around} {E:Value->Shared->Prop} {s:Shared} {z TI TO i1 i2:Addr} {fp1 fp2:List Addr} {n1 n2 i:Nat} {P1 P2:Nat->Value->Prop} {St1 St2:Nat->Heap->Prop} {a b:Value}
theorem Zcy {Q:Bool->Shared->Prop} (hz:Hv s.heap z TI TO i1 i2) (h:∀ h',Hv h' z TI TO i1 i2->Px z s.heap h'->Q false { s with heap:=h' }):wpAny (model prog w) A (Q1 (.ref z)) Q E s:=by
 obtain ⟨a,oa,f1,e,ea,n0,n1,n2⟩:=hz
 unfold Q1
 refine Pe (Pu e rfl (x:=rawInt a) rfl ?_)
 show wpAny _ _ (loadIfAlive ((a:Int).toNat) >>= _) _ _ s
 refine Pe (Zec ?_)
 rw [Q7,ea]
 rw [if_neg (by simp)]
 refine Pe (Pu e rfl (x:=f1) rfl ?_)
 by_cases hf:(f1 != Value.bool true)=true
 ·simp only [hf,if_true]
  refine Pe (Q6 e (by simp) fun h₅ e5 s5=>?_)
  replace s5:Px z s.heap h₅:=s5
  exact Pf (h h₅ ⟨a,oa,.bool true,e5,s5.extBut a oa n0 ea,n0,n1,n2⟩ s5)
 ·simp only [hf]
  exact Pf (h s.heap ⟨a,oa,f1,e,ea,n0,n1,n2⟩ (Px.refl ..))
theorem Zpi {Q:Value->Shared->Prop} (D1:Draws prog w A i1 fp1 n1 P1 St1) (D2:Draws prog w A i2 fp2 n2 P2 St2) (D:ZA z TI TO i1 i2 fp1 fp2) (hz:Hv s.heap z TI TO i1 i2) (hTI:IsPair s.heap TI (.ref i1) (.ref i2))
  (st1:St1 i s.heap) (st2:St2 i s.heap) (l1:i < n1) (l2:i < n2)
  (hQ:∀ x y h' tk,P1 i x->P2 i y->Hv h' z TI TO i1 i2->St1 (i + 1) h'->St2 (i + 1) h'->IsPair h' s.heap.objs.size x y->h'.objs.size=s.heap.objs.size + 1 ->
   (∀ c o,c≠z->c≠i1->c≠i2->s.heap.get? c=some o->h'.get? c=some o)->Q (.ref s.heap.objs.size) { s with heap:=h',toks:=tk }) :
  wpAny (model prog w) A (Builtin.«zip.__next__» ⟨[.ref z],[]⟩) (fun fin s'=>∃ v,fin=.done (.ret v)/\Q v s') E s:=by
 obtain ⟨a0,oa0,f10,e0,_⟩:=id hz
 show wpAny _ _ (field (.ref z) 2 >>= _) _ _ s
 refine Pe (Pu e0 rfl (x:=Value.bool false) rfl ?_)
 show wpAny _ _ (field (.ref z) 3 >>= _) _ _ s
 refine Pe (Pu e0 rfl (x:=Value.ref TI) rfl (Pe (Qz hTI rfl ?_)))
 show wpAny _ _ (Q1 (.ref z) >>= _) _ _ s
 refine Pe (Zcy hz fun h₁ hz₁ e1=>?_)
 simp only [Ti,if_false]
 refine Pe ?_
 simp only [List.forIn_toArray,Tv,U8]
 refine Pe (Pe (Rm ?_))
 show wpAny _ _ (Qn (.ref i1) >>= _) _ _ _
 refine Pe (D1.item i _ _ _ l1 (Cd D1 st1 e1 D.z1) fun x h₂ tk₂ px s12 e2=>Pf (Pf ?_))
 replace e2:Px i1 h₁ h₂:=e2
 refine Pe (Pe (Rm ?_))
 show wpAny _ _ (Qn (.ref i2) >>= _) _ _ _
 have s22:St2 i h₂:=Cd D2 (Cd D2 st2 e1 D.z2) e2 D.n1
 refine Pe (D2.item i _ _ _ l2 s22 fun y h₄ tk₄ py s24 e4=>Pf (Pf (Pf ?_)))
 replace e4:Px i2 h₂ h₄:=e4
 show wpAny _ _ (newTuple [x,y] >>= _) _ _ _
 refine Pe (wpAny_newTuple (Pf ⟨_,rfl,?_⟩))
 have sz:h₄.objs.size=s.heap.objs.size:=by rw [e4.1,e2.1,e1.1]
 show Q (.ref h₄.objs.size) { s with heap:=h₄.push { cls:=.type "tuple",data:=.seq #[x,y] },toks:=tk₄ }
 have up:∀ c o,h₄.get? c=some o->(h₄.push { cls:=.type "tuple",data:=.seq #[x,y] }).get? c=some o:=fun c o e=>Pj _ e
 have k4:∀ c o,c≠z->c≠i1->c≠i2->s.heap.get? c=some o->h₄.get? c=some o:=fun c o c1 c3 c4 e=>e4.extBut _ _ c4 (e2.extBut _ _ c3 (e1.extBut _ _ c1 e))
 have t8:IsPair (h₄.push { cls:=.type "tuple",data:=.seq #[x,y] }) h₄.objs.size x y:=Py _ rfl
 rw [sz] at t8
 rw [sz]
 obtain ⟨a1,oa1,f1,g1,g2,g3,g4,g5⟩:=hz₁
 refine hQ x y _ tk₄ px py ⟨a1,oa1,f1,up _ _ (e4.extBut _ _ D.i2z.symm (e2.extBut _ _ D.i1z.symm g1)),up _ _ (e4.extBut _ _ g5 (e2.extBut _ _ g4 g2)),g3,g4,g5⟩ ?_ ?_ t8 (by rw [Qf,sz]) fun c o c1 c3 c4 e=>up c o (k4 c o c1 c3 c4 e)
 ·exact D1.frame _ _ _ (Cd D1 s12 e4 D.n2) fun c _ o e=>up c o e
 ·exact D2.frame _ _ _ s24 fun c _ o e=>up c o e
theorem Zqy {Q:Fin->Shared->Prop} (D1:Draws prog w A i1 fp1 n1 P1 St1) (D2:Draws prog w A i2 fp2 n2 P2 St2) (D:ZA z TI TO i1 i2 fp1 fp2) (hz:Hv s.heap z TI TO i1 i2) (hTI:IsPair s.heap TI (.ref i1) (.ref i2))
  (st1:St1 i s.heap) (st2:St2 i s.heap) (hend:i=n1\/(i < n1/\i=n2))
  (hE:∀ h' e tk,(∀ c o,c≠z->c≠i1->c≠i2->s.heap.get? c=some o->h'.get? c=some o)->(∃ o,h'.get? e=some o/\o.cls=.type "StopIteration")->E (.ref e) { s with heap:=h',toks:=tk }) :
  wpAny (model prog w) A (Builtin.«zip.__next__» ⟨[.ref z],[]⟩) Q E s:=by
 obtain ⟨a0,oa0,f10,e0,_⟩:=id hz
 show wpAny _ _ (field (.ref z) 2 >>= _) _ _ s
 refine Pe (Pu e0 rfl (x:=Value.bool false) rfl ?_)
 show wpAny _ _ (field (.ref z) 3 >>= _) _ _ s
 refine Pe (Pu e0 rfl (x:=Value.ref TI) rfl (Pe (Qz hTI rfl ?_)))
 show wpAny _ _ (Q1 (.ref z) >>= _) _ _ s
 refine Pe (Zcy hz fun h₁ hz₁ e1=>?_)
 simp only [Ti,if_false]
 refine Pe ?_
 simp only [List.forIn_toArray,Tv,U8]
 refine Pe (Pe (Rm ?_))
 show wpAny _ _ (Qn (.ref i1) >>= _) _ _ _
 rcases hend with rfl | ⟨l1,rfl⟩
 ·refine Pe (D1.done _ _ _ (Cd D1 st1 e1 D.z1) fun h₂ e e2 he=>?_)
  replace e2:S9 i1 h₁ h₂:=e2
  exact hE h₂ e s.toks (fun c o c1 c3 _ x=>e2 _ _ c3 (e1.extBut _ _ c1 x)) he
 ·refine Pe (D1.item i _ _ _ l1 (Cd D1 st1 e1 D.z1) fun x h₂ tk₂ px s12 e2=>Pf (Pf ?_))
  replace e2:Px i1 h₁ h₂:=e2
  refine Pe (Pe (Rm ?_))
  show wpAny _ _ (Qn (.ref i2) >>= _) _ _ _
  have s22:St2 i h₂:=Cd D2 (Cd D2 st2 e1 D.z2) e2 D.n1
  refine Pe (D2.done _ _ _ s22 fun h₄ e e4 he=>?_)
  replace e4:S9 i2 h₂ h₄:=e4
  exact hE h₄ e tk₂ (fun c o c1 c3 c4 x=>e4 _ _ c4 (e2.extBut _ _ c3 (e1.extBut _ _ c1 x))) he
noncomputable def ZpSt (h:Heap) (z TI TO i1 i2:Addr) (i:Nat):Prop:=(i=0/\IsZip h z TI TO .none/\∃ u v,IsPair h TO u v)\/(0 < i/\Hv h z TI TO i1 i2)
theorem ZpSt.obj {h:Heap} {z TI TO i1 i2:Addr} {i:Nat} (x:ZpSt h z TI TO i1 i2 i):∃ vs,h.get? z=some { cls:=.type "zip",dict:=none,data:=.fields vs,slots:=#[] }:=by
 rcases x with ⟨_,x,_⟩ | ⟨_,_,_,_,x,_⟩
 ·exact ⟨_,x⟩
 ·exact ⟨_,x⟩
theorem Zqk {Q:Option Value->Shared->Prop} (D1:Draws prog w A.in1 i1 fp1 n1 P1 St1) (D2:Draws prog w A.in1 i2 fp2 n2 P2 St2) (D:ZA z TI TO i1 i2 fp1 fp2) (hz:ZpSt s.heap z TI TO i1 i2 i) (hTI:IsPair s.heap TI (.ref i1) (.ref i2)) (eTO:∃ o,s.heap.get? TO=some o)
  (st1:St1 i s.heap) (st2:St2 i s.heap) (l1:i < n1) (l2:i < n2)
  (hQ:∀ x y h' tk,P1 i x->P2 i y->ZpSt h' z TI TO i1 i2 (i + 1)->(∃ o,h'.get? TO=some o)->St1 (i + 1) h'->St2 (i + 1) h'->IsPair h' s.heap.objs.size x y->h'.objs.size=s.heap.objs.size + 1 ->
   (∀ c o,c≠z->c≠TO->c≠i1->c≠i2->s.heap.get? c=some o->h'.get? c=some o)->Q (some (.ref s.heap.objs.size)) { s with heap:=h',toks:=tk }) :
  wpAny (model prog w) A (pyNext (.ref z)) Q E s:=by
 obtain ⟨vs,ho⟩:=hz.obj
 have hT:s.TypeIs (.ref z) "zip" := ⟨_,ho,rfl⟩
 have zl:z < s.heap.objs.size:=Pl ho
 have l1':i1 < s.heap.objs.size:=by obtain ⟨_,y⟩:=D1.live _ _ st1; exact Pl y
 have l2':i2 < s.heap.objs.size:=by obtain ⟨_,y⟩:=D2.live _ _ st2; exact Pl y
 rcases hz with ⟨rfl,hz,u,v,hTO⟩ | ⟨hi,hz⟩
 ·exact Zl6 D1 D2 D hz hTI hTO st1 st2 l1 l2 fun x y h' tk a1 a2 a3 a4 a5 a6 a7 a8 a9=>hQ x y h' tk a1 a2 (.inr ⟨Vi _,_,_,_,a3,a7,Ql zl,Ql l1',Ql l2'⟩) ⟨_,a4⟩ a5 a6 a7 a8 a9
 ·unfold pyNext
  exact Pe (Sr (Q3 (name:=Qs "__next__") hT Rp
   (Q8 Rp hT Up (Zpi D1 D2 D hz hTI st1 st2 l1 l2 fun x y h' tk a1 a2 a3 a4 a5 a6 a7 a8=>Pf (hQ x y h' tk a1 a2 (.inr ⟨Vi _,a3⟩) (let ⟨o,e⟩:=eTO; ⟨o,a8 _ o D.TOz D.TOi1 D.TOi2 e⟩) a4 a5 a6 a7 fun c o c1 _ c3 c4 e=>a8 c o c1 c3 c4 e)) (Ul _))))
theorem Zqc {Q:Option Value->Shared->Prop} (D1:Draws prog w A.in1 i1 fp1 n1 P1 St1) (D2:Draws prog w A.in1 i2 fp2 n2 P2 St2) (D:ZA z TI TO i1 i2 fp1 fp2) (hz:ZpSt s.heap z TI TO i1 i2 i) (hTI:IsPair s.heap TI (.ref i1) (.ref i2))
  (st1:St1 i s.heap) (st2:St2 i s.heap) (hend:i=n1\/(i < n1/\i=n2))
  (hQ:∀ h' tk,(∀ c o,c≠z->c≠TO->c≠i1->c≠i2->s.heap.get? c=some o->h'.get? c=some o)->Q none { s with heap:=h',toks:=tk }):wpAny (model prog w) A (pyNext (.ref z)) Q E s:=by
 obtain ⟨vs,ho⟩:=hz.obj
 have hT:s.TypeIs (.ref z) "zip" := ⟨_,ho,rfl⟩
 rcases hz with ⟨rfl,hz,u,v,hTO⟩ | ⟨hi,hz⟩
 ·exact Zk5 D1 D2 D hz hTI hTO st1 st2 hend hQ
 ·unfold pyNext
  refine Pe (Sr (Q3 (name:=Qs "__next__") hT Rp
   (Q8 Rp hT Up (Zqy D1 D2 D hz hTI st1 st2 hend fun h' e tk hk he=>?_) (Ul _))))
  obtain ⟨o,ho,hc⟩:=he
  exact Pe (V9 (T := "StopIteration") (b:=true) ⟨o,ho,hc⟩ isSubtype_stop (Pf (hQ _ _ fun c o c1 _ c3 c4 e=>hk c o c1 c3 c4 e)))
end
noncomputable abbrev lit (l:Addr):Obj:={ cls:=.type "list_iterator",data:=.fields #[.ref l,.int 0 0] }
noncomputable abbrev itZ (b:Bool) (l:Addr):Obj:={ cls:=.type (cond b "tuple_iterator" "list_iterator"),data:=.fields #[.ref l,.int 0 0] }
noncomputable def ZIt (b:Bool) (h:Heap) (a l:Addr) (i:Nat):Prop:=∃ o,h.get? a=some o/\o.cls=.type (cond b "tuple_iterator" "list_iterator")/\o.data=.fields #[.ref l,.int i 0]
theorem ZIt.at {b:Bool} {h h':Heap} {a l:Addr} {i:Nat} (x:ZIt b h a l i) (k:∀ o,h.get? a=some o->h'.get? a=some o):ZIt b h' a l i:=let ⟨o,e,r⟩:=x; ⟨o,k o e,r⟩
noncomputable def ZIn (b:Bool) (h:Heap) (a:Addr) (xs:Array Value):Prop:=cond b (h.IsTuple a xs) (h.IsList a xs)
noncomputable def SqZ (b:Bool) (K:Pd) (H:Hp) (a:Addr) (xs:List V):Prop:=cond b (SqT K H a xs) (SqL K H a xs)
theorem ZIn.lt {b:Bool} {h:Heap} {a:Addr} {xs:Array Value} (x:ZIn b h a xs):a < h.objs.size:=by
 cases b <;> exact let ⟨_,e,_⟩:=id x; Pl e
theorem Same.sqZ {b:Bool} {K:Pd} {H H':Hp} {a:Addr} {xs:List V} (m:Same H H') (x:SqZ b K H a xs):SqZ b K H' a xs:=by
 cases b
 ·exact m.seq x
 ·exact m.tup x
theorem Inv.zin {X:Cx} {pins:List (Addr×Obj)} {σ:St} {H:Hp} {s:Shared} {b:Bool} {a:Addr} {xs:List V} (I:Inv X pins σ H s) (x:SqZ b X.K H a xs):∃ its,Vals xs its/\ZIn b s.heap a its.toArray:=by
 cases b
 ·obtain ⟨its,rv,pl,hz⟩:=I.list x
  exact ⟨its,rv,pl.isList⟩
 ·obtain ⟨its,rv,pl,hz⟩:=I.tuple x
  exact ⟨its,rv,pl⟩
theorem Zd5 {prog:Program} {w:World} {A:Around} (b:Bool) (hh:A.handled=none) (it l:Addr) (hne:l≠it) (items:Array Value) :
  Draws prog w A it [it,l] items.size (fun i v=>items[i]?=some v) (fun i h=>ZIt b h it l i/\ZIn b h l items):=by
 cases b
 ·exact Draws.list hh it l hne items
 ·exact Za0 hh it l hne items
theorem Zjz {prog:Program} {w:World} {A:Around} {E:Value->Shared->Prop} {s:Shared} {b:Bool} {a:Addr} {xs:Array Value} {Q:Value->Shared->Prop} (q:ZIn b s.heap a xs)
  (h:Q (.ref s.heap.objs.size) { s with heap:=s.heap.push (itZ b a) }):wpAny (model prog w) A (pyIter (.ref a)) Q E s:=by
 cases b
 ·exact Tl q h
 ·exact Th q h
noncomputable abbrev zl1 (b:Bool) (h:Heap) (l1:Addr):Heap:=h.push (itZ b l1)
noncomputable abbrev zl2 (b:Bool) (h:Heap) (l1 l2:Addr):Heap:=(zl1 b h l1).push (lit l2)
noncomputable abbrev zl3 (b:Bool) (h:Heap) (l1 l2:Addr):Heap:=(zl2 b h l1 l2).push { cls:=.type "tuple",data:=.seq #[.ref h.objs.size,.ref (zl1 b h l1).objs.size] }
noncomputable abbrev zl4 (b:Bool) (h:Heap) (l1 l2:Addr):Heap:=(zl3 b h l1 l2).push { cls:=.type "tuple",data:=.seq #[.none,.none] }
noncomputable abbrev G3 (b:Bool) (h:Heap) (l1 l2:Addr):Heap:=(zl4 b h l1 l2).push { cls:=.type "zip",data:=.fields #[.none,.bool false,.bool false,.ref (zl2 b h l1 l2).objs.size,.ref (zl3 b h l1 l2).objs.size] }
theorem Zrn (b:Bool) (l1 l2:Addr) (xs ys:Array Value) :
  Meets (Builtin.«zip.__new__» ⟨[.type "zip",.ref l1,.ref l2],[]⟩) (fun _ R s=>ZIn b s.heap l1 xs/\s.heap.IsList l2 ys/\R (.ok (.ret (.ref (zl4 b s.heap l1 l2).objs.size))) { s with heap:=G3 b s.heap l1 l2 }) :=
 .of_wp fun prog w A R s h=>by
  obtain ⟨hp,g,d,tk,os⟩:=s; obtain ⟨hl1,hl2,h⟩:=h
  have hsub:=sub_zip
  have q1:ZIn b (Shared.heap ⟨hp,g,d,tk,os⟩) l1 xs:=hl1
  have q2:Heap.IsList (Shared.heap ⟨hp.push (itZ b l1),g,d,tk,os⟩) l2 ys:=Heap.IsList.push hl2 _
  wp_walk using Zjz q1,Tl q2
  exact ⟨_,rfl,h⟩
theorem Zj7 {b:Bool} {prog:Program} {w:World} {A:Around} {E:Value->Shared->Prop} {s:Shared} {l1 l2:Addr} {xs ys:Array Value} {Q:Value->Shared->Prop} (hl1:ZIn b s.heap l1 xs) (hl2:s.heap.IsList l2 ys)
  (h:∀ h',IsZip h' (s.heap.objs.size + 4) (s.heap.objs.size + 2) (s.heap.objs.size + 3) .none->IsPair h' (s.heap.objs.size + 2) (.ref s.heap.objs.size) (.ref (s.heap.objs.size + 1)) ->
   IsPair h' (s.heap.objs.size + 3) .none .none->ZIt b h' s.heap.objs.size l1 0->h'.IsListIter (s.heap.objs.size + 1) l2 0->h'.objs.size=s.heap.objs.size + 5 ->
   (∀ c o,s.heap.get? c=some o->h'.get? c=some o)->Q (.ref (s.heap.objs.size + 4)) { s with heap:=h' }) :
  wpAny (model prog w) A (call (.type "zip") [.ref l1,.ref l2]) Q E s:=by
 refine callType_new PySem.F.called_zip (by decide) (PySem.F.typeCall_zip_2 _ _) (PySem.F.newCall_zip_2 _ _) (fun obj=>PySem.F.args_object_init_3 obj _ _) PySem.F.entry_zip_new (Zrn b l1 l2 xs ys) ⟨hl1,hl2,?_⟩
 have y1:(zl1 b s.heap l1).objs.size=s.heap.objs.size + 1:=Qf ..
 have y2:(zl2 b s.heap l1 l2).objs.size=s.heap.objs.size + 2:=by rw [Qf,y1]
 have y3:(zl3 b s.heap l1 l2).objs.size=s.heap.objs.size + 3:=by rw [Qf,y2]
 have y4:(zl4 b s.heap l1 l2).objs.size=s.heap.objs.size + 4:=by rw [Qf,y3]
 have y5:(G3 b s.heap l1 l2).objs.size=s.heap.objs.size + 5:=by rw [Qf,y4]
 have u5:(G3 b s.heap l1 l2).get? (zl4 b s.heap l1 l2).objs.size=some _:=Py _ rfl
 have u4:(G3 b s.heap l1 l2).get? (zl3 b s.heap l1 l2).objs.size=some _:=Pj _ (Py _ rfl)
 have u3:(G3 b s.heap l1 l2).get? (zl2 b s.heap l1 l2).objs.size=some _:=Pj _ (Pj _ (Py _ rfl))
 have u2:(G3 b s.heap l1 l2).get? (zl1 b s.heap l1).objs.size=some _:=Pj _ (Pj _ (Pj _ (Py _ rfl)))
 have u1:(G3 b s.heap l1 l2).get? s.heap.objs.size=some _:=Pj _ (Pj _ (Pj _ (Pj _ (Py _ rfl))))
 show _/\_
 rw [y2,y3,y4] at u5
 rw [y1,y2] at u3
 rw [y3] at u4
 rw [y1] at u2
 rw [y4]
 exact ⟨⟨_,u5,rfl⟩,h _ u5 u3 u4 ⟨_,u1,rfl,rfl⟩ ⟨_,u2,rfl,rfl⟩ y5 fun c o x=>Pj _ (Pj _ (Pj _ (Pj _ (Pj _ x))))⟩
noncomputable def Ms (H:Hp) (xs ys zs:List V):Prop:=∀ (j:Nat) (z:V),zs[j]?=some z->∃ (t:Addr) (x y:V),z=V.ref t/\xs[j]?=some x/\ys[j]?=some y/\H t=some (.tup [x,y])
noncomputable def JZp (f:Bool) (K:Pd) (H0:Hp) (z TI TO i1 i2 a b:Addr) (xs ys:List V):Nat->List V->Hp->Heap->Prop:=fun i zs H h =>
 ZpSt h z TI TO i1 i2 i/\(IsPair h TI (.ref i1) (.ref i2)/\∃ o,h.get? TO=some o)/\ZIt f h i1 a i/\h.IsListIter i2 b i/\(∀ c∈[z,TI,TO,i1,i2],H c=none)/\zs.length=i/\Ms H xs ys zs/\Same H0 H
theorem Zl8:typeLookup (.type "zip") "__len__" = pure none:=by rw [Tw,Td]; kernel_rfl
theorem Zon:typeLookup (.type "zip") "__length_hint__" = pure none:=by rw [Tw,Td]; kernel_rfl
theorem Zkr {f:Bool} {X:Cx} {pins:List (Addr×Obj)} {σ:St} {H0:Hp} {z TI TO i1 i2 a b:Addr} {xs ys:List V} (fp:∀ c∈[z,TI,TO,i1,i2],FpOk X pins H0 c) (D:ZB z TI TO i1 i2 a b) (ha:SqZ f X.K H0 a xs) (hb:SqL X.K H0 b ys) :
  Src X pins σ z "zip" (min xs.length ys.length) H0 (JZp f X.K H0 z TI TO i1 i2 a b xs ys) where
 ty:=fun i zs H h j=>by
  obtain ⟨vs,e⟩:=j.1.obj
  exact ⟨_,e,rfl⟩
 nl:=by decide
 nolen:=Zl8
 nohint:=Zon
 self:=fun A s zs H Q E j q=>by
  rcases j.1 with ⟨_,e,_⟩ | ⟨z,_⟩
  ·exact wpAny_pyIter_zip e q
  ·exact absurd z (Qr _)
 keep:=fun i zs H h h' S us us' h0 hS j k al=>by
  obtain ⟨j1,⟨j2,jT⟩,j3,j4,j5,j6,j7,j8⟩:=j
  have ne:∀ c∈[z,TI,TO,i1,i2],c≠S:=fun c hc e=>by
   have:=j5 c hc
   rw [e,hS] at this
   cases this
  refine ⟨?_,⟨k _ _ (ne TI (by simp)) j2,let ⟨o,e⟩:=jT; ⟨o,k _ _ (ne TO (by simp)) e⟩⟩,j3.at fun o e=>k _ _ (ne i1 (by simp)) e,j4.at fun o e=>k _ _ (ne i2 (by simp)) e,fun c hc=>by rw [Af (ne c hc)]; exact j5 c hc,j6,fun m y hy=>?_,j8.over h0⟩
  ·rcases j1 with ⟨z0,e,u,v,e2⟩ | ⟨z0,a0,oa,f1,e,ea,x1,x2,x3⟩
   ·exact .inl ⟨z0,k _ _ (ne z (by simp)) e,u,v,k _ _ (ne TO (by simp)) e2⟩
   ·by_cases hs:a0=S
    ·subst hs
     obtain ⟨o,eo⟩:=al
     exact .inr ⟨z0,a0,o,f1,k _ _ (ne z (by simp)) e,eo,x1,x2,x3⟩
    ·exact .inr ⟨z0,a0,oa,f1,k _ _ (ne z (by simp)) e,k _ _ hs ea,x1,x2,x3⟩
  ·obtain ⟨t,x,y',e1,e2,e3,e4⟩:=j7 m y hy
   exact ⟨t,x,y',e1,e2,e3,by rw [Af (Df e4 hS (by intro z; cases z))]; exact e4⟩
 fresh:=fun i zs H h j=>j.2.2.2.2.1 z (by simp)
 item:=fun A i s H zs E hh hi I j=>by
  obtain ⟨j1,⟨j2,jT⟩,j3,j4,j5,j6,j7,j8⟩:=j
  obtain ⟨its,rv,p⟩:=I.zin (j8.sqZ ha)
  obtain ⟨its2,rv2,p2,hz2⟩:=I.list (j8.seq hb)
  have g1:=rv.length
  have g2:=rv2.length
  have l1:i < xs.length:=by omega
  have l2:i < ys.length:=by omega
  have D1:=Zd5 (prog:=X.prog) (w:=X.w) (A:=A.in1) f hh i1 a D.a1 its.toArray
  have D2:=Draws.list (prog:=X.prog) (w:=X.w) (A:=A.in1) hh i2 b D.b2 its2.toArray
  refine Zqk D1 D2 D.za j1 j2 jT ⟨j3,p⟩ ⟨j4,p2.isList⟩ (by rw [Pk]; omega) (by rw [Pk]; omega) fun x y h' tk px py a1 aT a2 a3 a4 a5 a6=>?_
  have hx':its[i]?=some x:=by simpa using px
  have hy':its2[i]?=some y:=by simpa using py
  obtain ⟨u1,hu1,ru1⟩:=rv.get (Pg l1)
  obtain ⟨u2,hu2,ru2⟩:=rv2.get (Pg l2)
  rw [hx'] at hu1
  cases hu1
  rw [hy'] at hu2
  cases hu2
  have hf:H s.heap.objs.size=none:=I.hok.fresh (Ph _)
  have fpH:∀ c∈[z,TI,TO,i1,i2],FpOk X pins H c:=fun c hc=>(fp c hc).of (j5 c hc)
  have kk:∀ c o,c ∉ [z,TI,TO,i1,i2]->s.heap.get? c=some o->h'.get? c=some o:=fun c o hc e=>by
   simp only [Pm,P0,or_false,not_or] at hc
   exact a6 c o hc.1 hc.2.2.1 hc.2.2.2.1 hc.2.2.2.2 e
  have I2:=I.pairL (tk:=tk) (T:=s.heap.objs.size) (xs:=[xs[i],ys[i]]) (its:=[x,y]) fpH kk (Ph _) (.cons ru1 (.cons ru2 .nil)) (by show 2<=sizeLine; decide) ⟨_,a4,rfl,_,rfl⟩
  have sm:Same H (upd H s.heap.objs.size (.tup [xs[i],ys[i]])):=Same.upd hf
  have lt:∀ {c o},s.heap.get? c=some o->c≠s.heap.objs.size:=fun e=>Pw (Pl e)
  have nw:∀ c∈[z,TI,TO,i1,i2],c≠s.heap.objs.size:=fun c hc=>by
   simp only [Pm,P0,or_false] at hc
   rcases hc with rfl | rfl | rfl | rfl | rfl
   ·obtain ⟨_,e⟩:=j1.obj; exact lt e
   ·exact lt j2
   ·obtain ⟨_,e⟩:=jT; exact lt e
   ·obtain ⟨_,e,_⟩:=j3; exact lt e
   ·obtain ⟨_,e,_⟩:=j4; exact lt e
  refine ⟨_,.ref s.heap.objs.size,_,rfl,rfl,I2,⟨a1,⟨a6 _ _ D.TIz D.TITO D.TI1 D.TI2 j2,aT⟩,a2.1,a3.1,fun c hc=>by rw [Af (nw c hc)]; exact j5 c hc,by simp [j6],fun m y hy=>?_,j8.trans sm⟩,fun S us e=>sm S _ e⟩
  by_cases hm:m < i
  ·rw [Qa (by omega)] at hy
   obtain ⟨t,x,y',e1,e2,e3,e4⟩:=j7 m y hy
   exact ⟨t,x,y',e1,e2,e3,sm _ _ e4⟩
  ·have hlen:=(Pq.mp hy).1
   rw [Pi,Pr] at hlen
   have:m=i:=by omega
   subst this
   rw [Q2 (by omega),j6,R7] at hy
   have hy:V.ref s.heap.objs.size=y:=by simpa using hy
   exact ⟨_,xs[m],ys[m],hy.symm,Pg l1,Pg l2,Ad⟩
 done:=fun A s H zs E hh I j=>by
  obtain ⟨j1,⟨j2,jT⟩,j3,j4,j5,j6,j7,j8⟩:=j
  obtain ⟨its,rv,p⟩:=I.zin (j8.sqZ ha)
  obtain ⟨its2,rv2,p2,hz2⟩:=I.list (j8.seq hb)
  have g1:=rv.length
  have g2:=rv2.length
  have D1:=Zd5 (prog:=X.prog) (w:=X.w) (A:=A.in1) f hh i1 a D.a1 its.toArray
  have D2:=Draws.list (prog:=X.prog) (w:=X.w) (A:=A.in1) hh i2 b D.b2 its2.toArray
  have fpH:∀ c∈[z,TI,TO,i1,i2],FpOk X pins H c:=fun c hc=>(fp c hc).of (j5 c hc)
  refine Zqc D1 D2 D.za j1 j2 ⟨j3,p⟩ ⟨j4,p2.isList⟩ (by simp only [Pk]; omega) fun h' tk kk=>⟨rfl,I.turnedL (fun c o hc e=>?_) fpH⟩
  simp only [Pm,P0,or_false,not_or] at hc
  exact kk c o hc.1 hc.2.2.1 hc.2.2.2.1 hc.2.2.2.2 e
section
variable {X:Cx}
noncomputable def Ny (f:Bool) (K:Pd) (ta:TA):TE:=fun σ H Q=>ta σ H fun vs H1=>∃ a b xs ys,vs=[.ref a,.ref b]/\SqZ f K H1 a xs/\SqL K H1 b ys /\
 ∀ (S:Addr) (zs:List V) (H2:Hp),H1 S=none->Same H1 H2->zs.length=min xs.length ys.length->Ms H2 xs ys zs->H2 S=some (.lst zs)->Q (.ref S) H2
theorem Zdb (f:Bool) (K:Pd) {e e2:Expr} {ta:TA} {p p2 pos pos2:Pos} (hg:Gl X "list") (hm:X.mg "list" = none) (hg2:Gl X "zip") (hm2:X.mg "zip" = none) (ha:QA X [e,e2] ta) (hK:X.K=K:=by rfl) (hc:X.calm=true:=by rfl)
  (hs:starEach [.Call (.Name "zip" p2) [e,e2] [] pos2] X.env=[(false,eval (.Call (.Name "zip" p2) [e,e2] [] pos2) X.env)]:=by rfl) (hs2:starEach [e,e2] X.env=[(false,eval e X.env),(false,eval e2 X.env)]:=by rfl) (hs3:starEach [e2] X.env=[(false,eval e2 X.env)]:=by rfl) :
  QE X (.Call (.Name "list" p) [.Call (.Name "zip" p2) [e,e2] [] pos2] [] pos) (Ny f K ta):=by
 subst hK
 refine ⟨fun pins s σ H Q I h=>?_⟩
 refine Call_ (Fc I hg hm Zbw (Rw ?_ hs rfl))
 rw [hs]
 show wpAny _ _ (spliced ((false,eval (.Call (.Name "zip" p2) [e,e2] [] pos2) X.env) :: [])) _ _ s
 refine V2 ?_
 refine Call_ (Fc I hg2 hm2 PyProof.Rows.boot_zip (Rw (Am (ha.run pos2 pins s σ H _ I h) fun us s1 ⟨vs,H1,I1,r1,q1⟩=>?_) (by rw [hs2,hs3]) (by rw [hs3]; rfl)))
 obtain ⟨a,b,xs,ys,e1,hq,hq2,q⟩:=q1
 subst e1
 obtain ⟨u,v,rfl,ru,rv⟩:=r1.two
 cases ru
 cases rv
 obtain ⟨its,rv,pl⟩:=I1.zin hq
 obtain ⟨its2,rv2,pl2,hz2⟩:=I1.list hq2
 have lt1:a < s1.heap.objs.size:=pl.lt
 have lt2:b < s1.heap.objs.size:=by obtain ⟨o,e,_⟩:=pl2.isList; exact Pl e
 refine Zj7 pl pl2.isList fun h' a1 a2 a3 a4 a5 a6 hk=>?_
 refine V6 ?_
 have fr:∀ k,FpOk X pins H1 (s1.heap.objs.size + k):=fun k=>I1.fpOk (Tq _ _) (I1.hok.fresh (Tq _ _))
 have fp:∀ c∈[s1.heap.objs.size + 4,s1.heap.objs.size + 2,s1.heap.objs.size + 3,s1.heap.objs.size,s1.heap.objs.size + 1],FpOk X pins H1 c:=fun c hc=>by
  simp only [Pm,P0,or_false] at hc
  rcases hc with rfl | rfl | rfl | rfl | rfl
  ·exact fr 4
  ·exact fr 2
  ·exact fr 3
  ·exact fr 0
  ·exact fr 1
 have C:=Zkr (X:=X) (pins:=pins) (σ:=σ) (H0:=H1) fp (Zg0 lt1 lt2) hq hq2
 have I2:Inv X pins σ H1 { s1 with heap:=h' }:=I1.kept (t':=s1.toks) hk
 refine Zfp C (by omega) (I1.ok.hd hc) I2 ⟨.inl ⟨rfl,a1,_,_,a3⟩,⟨a2,_,a3⟩,a4,a5,fun c hc=>(fp c hc).1,rfl,fun j y hy=>by simp at hy,Same.refl _⟩ (fun S hge hS h2 k2=>?_) fun S H' zs hS hS' hl' hj=>?_
 ·have sm:Same H1 (upd H1 S (.lst [])):=Same.upd hS
  refine ⟨.inl ⟨rfl,k2 _ _ a1,_,_,k2 _ _ a3⟩,⟨k2 _ _ a2,_,k2 _ _ a3⟩,a4.at fun o e=>k2 _ _ e,a5.at fun o e=>k2 _ _ e,fun c hc=>?_,rfl,fun j y hy=>by simp at hy,sm⟩
  have hge:h'.objs.size<=S:=hge
  rw [Af (show c≠S from fun z=>?_)]
  ·exact (fp c hc).1
  ·simp only [Pm,P0,or_false] at hc
   rcases hc with rfl | rfl | rfl | rfl | rfl <;> exact absurd z (Pw (P6 (by omega) hge))
 ·obtain ⟨h,j⟩:=hj
  exact q S zs H' hS j.2.2.2.2.2.2.2 hl' j.2.2.2.2.2.2.1 hS'
noncomputable abbrev Zcl:=Ny true
theorem Zjx (K:Pd) {e e2:Expr} {ta:TA} {p p2 pos pos2:Pos} (hg:Gl X "list") (hm:X.mg "list" = none) (hg2:Gl X "zip") (hm2:X.mg "zip" = none) (ha:QA X [e,e2] ta) (hK:X.K=K:=by rfl) (hc:X.calm=true:=by rfl)
  (hs:starEach [.Call (.Name "zip" p2) [e,e2] [] pos2] X.env=[(false,eval (.Call (.Name "zip" p2) [e,e2] [] pos2) X.env)]:=by rfl) (hs2:starEach [e,e2] X.env=[(false,eval e X.env),(false,eval e2 X.env)]:=by rfl) (hs3:starEach [e2] X.env=[(false,eval e2 X.env)]:=by rfl) :
  QE X (.Call (.Name "list" p) [.Call (.Name "zip" p2) [e,e2] [] pos2] [] pos) (Zcl K ta):=Zdb true K hg hm hg2 hm2 ha hK hc hs hs2 hs3
theorem s_listzp {K:Pd} {ta:TA} {σ:St} {H:Hp} {Q:VK} (h:ta σ H fun vs H1=>∃ a b xs ys,vs=[.ref a,.ref b]/\SqT K H1 a xs/\SqL K H1 b ys /\
 ∀ (S:Addr) (zs:List V) (H2:Hp),H1 S=none->Same H1 H2->zs.length=min xs.length ys.length->Ms H2 xs ys zs->H2 S=some (.lst zs)->Q (.ref S) H2):Zcl K ta σ H Q:=h
end
end L2
namespace L2
open PySem PySem.Spec PyProof.Rows
theorem Zgx:∀ (xs ys:List Int),((P3 (min xs.length ys.length)).all (fun j=>xs.getD j 0 == ys.getD j 0) && xs.length == ys.length)=decide (xs=ys):=by
 intro xs ys
 rw [Tt,Rk,Sh,beq_iff_eq,decide_eq_true_iff]
 constructor
 ·rintro ⟨h1,h2⟩
  apply List.ext_getElem h2
  intro i g1 g2
  have:=h1 i (List.mem_range.mpr (by omega))
  rw [beq_iff_eq,Ud,Ud,Pg g1,Pg g2] at this
  exact this
 ·rintro rfl
  exact ⟨fun j _=>by simp,rfl⟩
section
variable {X:Cx}
end
end L2
namespace L2
open PySem PySem.Spec PyProof.Rows
section
variable {X:Cx}
end
section
variable {X:Cx}
end
end L2
namespace L2
open PySem PySem.Spec PyProof.Rows
noncomputable def Bk (P:Program) (w:World):B3:=fun outer H s E ev s'=>∃ (e T:Addr) (cls:Value) (od:Option Addr) (H':Hp),ev=.ref e/\s'.os=s.os/\AllBare s'.gens/\Un (Bl outer) [] H H' s.heap s'.heap/\HOk P w H' s'.heap /\
 s.heap.get? e=none/\s.heap.get? T=none/\H' e=none/\H' T=none/\Fy s'.heap e T cls od/\E cls od H'
section
variable {X:Cx} {pins:List (Addr×Obj)} {σ:St} {H:Hp} {s:Shared}
theorem Inv.old (I:Inv X pins σ H s) (hex:X.ex=[]) {b:Addr} (h:s.heap.get? b=none):X.s₀.heap.get? b=none:=by
 cases q:X.s₀.heap.get? b with
 | none=>rfl
 | some o =>
  obtain ⟨o',e⟩:=I.base.there b o q (by rw [hex]; simp)
  rw [h] at e
  cases e
theorem Inv.mvd (I:Inv X pins σ H s) {h':Heap} {xs:List Addr} (m:Mvd (Bl X.stack) xs s.heap h') (hx:∀ b∈xs,X.s₀.heap.get? b=none/\H b=none) (hex:X.ex=[]):Un X.fs [] X.H₀ H X.s₀.heap h'/\HOk X.prog X.w H h':=by
 have low:∀ b o,X.s₀.heap.get? b=some o->b ∉ xs:=fun b o e hb=>by rw [(hx b hb).1] at e; cases e
 have neL:∀ b o,X.s₀.heap.get? b=some o->b≠X.env.locals:=fun b o e=>Pw (P6 (Pl e) I.ok.above)
 have nst:∀ b o,X.s₀.heap.get? b=some o->b ∉ X.fs->b ∉ Bl X.stack:=fun b o e hf hs=>by
  rcases I.ok.stk with z | ⟨z,z2⟩
  ·rw [z] at hs; exact hf hs
  ·rw [z] at hs
   unfold Bl at hs
   rw [Uq,z2] at hs
   rcases Pm.mp hs with q | q
   ·exact neL b o e q
   ·exact hf q
 have B:=I.base
 rw [hex] at B
 refine ⟨⟨fun b o e n hf _=>?_,fun b o e n hf _=>?_,fun b o e n _=>B.free b o e n (by simp),fun b o e _=>?_,B.tups,B.frzs,B.tbls⟩,fun b u e=>?_⟩
 ·exact m.keep b o (low b o e) (nst b o e hf) (B.keep b o e n hf (by simp))
 ·obtain ⟨sl,e1⟩:=B.slot b o e n hf (by simp)
  obtain ⟨sl',e2⟩:=m.slot b _ (low b o e) e1
  exact ⟨sl',e2⟩
 ·obtain ⟨o',e1⟩:=B.there b o e (by simp)
  obtain ⟨sl,e2⟩:=m.slot b o' (low b o e) e1
  exact ⟨_,e2⟩
 ·have tr:∀ c v,H c=some v->c ∉ xs/\c ∉ Bl X.stack:=fun c v q=>⟨(fun z=>by rw [(hx c z).2] at q; cases q),(fun z=>by rw [I.stkFree c z] at q; cases q)⟩
  refine (I.hok b u e).stay (fun c v hc q=>m.keep c v ?_ ?_ q) (fun _ q=>q) fun _ _ q=>q
  ·rcases hc with z | z
   ·rw [z]; exact (tr b u e).1
   ·exact (tr c _ z).1
  ·rcases hc with z | z
   ·rw [z]; exact (tr b u e).2
   ·exact (tr c _ z).2
end
section
variable {P:Program} {w:World} {K:Pd} {mg:Str->Option Value} {base:Heap} {N:List Str} {qual:Str} {scope:Scope} {f:Addr} {cd:Value} {A:Around} {outer:List Env} {s0:Shared} {H0:Hp} {E:XK}
theorem Gy {E':XK} (h:∀ cls od H',E' cls od H'->E cls od H'):E2 (Bk P w) (Dx (Bk P w) P w K mg base N qual scope f cd A outer s0 H0 E) E':=by
 intro pins σ H s ev s' I c
 obtain ⟨e,T,cls,od,H',rfl,h1,h2,h3,h4,h5,h6,h7,h8,h9,h10⟩:=c
 have J:Inv (Dx (Bk P w) P w K mg base N qual scope f cd A outer s0 H0 E) pins σ H' s':=I.call' (ch:=[]) h1 h3 h4 h2 (fun b z=>absurd z (by simp))
 refine Zk4 (base:=base) (outer:=outer) (L:=s0.heap.objs.size) J.ok.frames J.stack rfl h9 fun h' T' hT' y m=>?_
 obtain ⟨u,ok⟩:=J.mvd (h':=h') m (fun b hb=>by
  simp only [Pm,P0,or_false] at hb
  rcases hb with rfl | rfl | rfl
  ·exact ⟨I.old rfl h5,h7⟩
  ·exact ⟨I.old rfl h6,h8⟩
  ·exact ⟨J.old rfl (Te hT'),J.hok.fresh hT'⟩) rfl
 exact ⟨e,T',cls,od,H',rfl,J.os,J.bare,u,ok,I.old rfl h5,J.old rfl (Te hT'),h7,J.hok.fresh hT',y,h _ _ _ h10⟩
theorem Zlu {pins:List (Addr×Obj)} {σ:St} {H:Hp} {s:Shared} {e:Addr} {cls:Value} {od:Option Addr} (I:Inv (Dx (Bk P w) P w K mg base N qual scope f cd A outer s0 H0 E) pins σ H s) (x:Lx s.heap e cls od) (he:s0.heap.get? e=none) (hn:H e=none) (h:E cls od H) :
  (Dx (Bk P w) P w K mg base N qual scope f cd A outer s0 H0 E).xe (.ref e) s:=by
 refine Zqu (base:=base) (outer:=outer) (L:=s0.heap.objs.size) I.ok.frames I.stack rfl x fun h' T hT y m=>?_
 obtain ⟨u,ok⟩:=I.mvd (h':=h') m (fun b hb=>by
  simp only [Pm,P0,or_false] at hb
  rcases hb with rfl | rfl
  ·exact ⟨he,hn⟩
  ·exact ⟨I.old rfl (Te hT),I.hok.fresh hT⟩) rfl
 exact ⟨e,T,cls,od,H,rfl,I.os,I.bare,u,ok,he,I.old rfl (Te hT),hn,I.hok.fresh hT,y,h⟩
end
end L2
namespace L2
open PySem PySem.Spec PyProof.Rows
section
variable {P:Program} {w:World} {K:Pd} {mg:Str->Option Value} {base:Heap}
theorem Fun.okx {x qual:Str} {st:Stmt} {f:Addr} {fd:FuncData} {N ps:List Str} {k:Nat} {sp:Sp} (F:Fun K x qual st f fd) (S:A2 N ps (Az st)) (len:∀ vs H Q E,sp vs H Q E->vs.length=ps.length)
  (hbody:∀ (cdv:Value) (A:Around) (outer:List Env) (s:Shared) (H:Hp) (vs:List V) (Q:VK) (E:XK),Room k (A.deeper (envOfC qual (Az st) s.heap.objs.size f cdv))->sp vs H Q E ->
   ∃ t,Ed (Dx (Bk P w) P w K mg base N qual (Az st) f cdv A outer s H E) (Er st) t/\t { nx:=fun _ H'=>Q .non H',rt:=Q } (E1 N vs) H):FnOk P w K mg base (Bk P w) (k + 1) f fd ps sp:=by
 obtain ⟨oc,od,kV,doc,pm,an,cdv,ct,osl,rfl,lk,hcd⟩:=F.ex
 refine Zdt lk hcd S len fun A outer s H vs Q E hr hsp=>?_
 obtain ⟨t,h,q⟩:=hbody cdv A outer s H vs Q E hr hsp
 exact ⟨t,h.run,q⟩
structure Hd (P:Program) (w:World) (K:Pd) (mg:Str->Option Value) (base:Heap) (k:Nat) (x:Str) (ps:List Str) (sp:Sp):Prop where
 ex:∃ (f:Addr) (fd:FuncData),FnOk P w K mg base (Bk P w) k f fd ps sp/\mg x=some (.ref f)/\Ra K (.ref f)=true/\Binds K fd ps []
theorem Zm9 {k:Nat} {x:Str} {ps:List Str} {sp:Sp} {f:Addr} {fd:FuncData} (F:FnOk P w K mg base (Bk P w) k f fd ps sp) (m:mg x=some (.ref f)) (kp:Ra K (.ref f)=true) (b:Binds K fd ps []):Hd P w K mg base k x ps sp:=⟨f,fd,F,m,kp,b⟩
end
section
variable {X:Cx} {k:Nat} {x:Str} {ps:List Str} {sp:Sp} {p pos np cpos:Pos} {e:Expr} {es:List Expr} {t:TA} {E:XK}
theorem Zlf (C:Hd X.prog X.w X.K X.mg X.base k x ps sp) (hr:Room k X.A) (hx:E2 (Bk X.prog X.w) X E) (ha:QA X (e :: es) t) (hg:Gl X x:=by rfl) (hdb:(x == ("__debug__" : Str))=false:=by decide)
  (he:starEach (e :: es) X.env=(false,eval e X.env) :: starEach es X.env:=by rfl) (hpl:(backTo pos (starEach es X.env)).any (·.1)=false:=by rfl):QE X (.Call (.Name x p) (e :: es) [] pos) (Kq sp [] E t):=by
 obtain ⟨f,fd,F,hm,hk,hb⟩:=C.ex
 exact ⟨Zer F hr hg hm hk hb .nil hx ha.run hdb he hpl⟩
noncomputable abbrev VE:List Value:=[.type "ValueError",.type "Exception",.type "BaseException",.type "object"]
noncomputable def Zln (X:Cx) (E:XK):Prop:=∀ (pins:List (Addr×Obj)) (σ:St) (H:Hp) (s:Shared) (a:Addr) (cls:Value) (od:Option Addr),Inv X pins σ H s->Lx s.heap a cls od->X.s₀.heap.get? a=none->H a=none->E cls od H->X.xe (.ref a) s
theorem Zi8 {K:Pd} {h0:Heap} {C:Addr} (kin0:K.In h0) (q:Sv K C VE "ValueError.__new__" = true) :
  ∃ bm N nm q bs hdct sn sub ab col dd k0 k1 k2 k3 k5 mN,mN "__init__" = none/\∀ h:Heap,K.In h->h.get? C=some (excClassObj nm q C N bs bm hdct sn sub ab col dd k0 k1 k2 k3 k5 "ValueError.__new__")/\h.Ns N mN/\OwnTail h VE bm:=by
 unfold Sv at q
 split at q
 ·rename_i dd cd sl ho
  split at q
  ·rename_i C' bm k0 k1 k2 k3 n k5 hm hs
   simp only [Rk,beq_iff_eq,Bool.not_eq_true'] at q
   obtain ⟨⟨⟨⟨⟨rfl,rfl⟩,hdel⟩,ht⟩,hok⟩,hni⟩:=q
   obtain ⟨nm,bs,mro,ns,qn,hd,sn,sub,ab,col,del⟩:=cd
   dsimp only at hm hdel hok hni
   subst hm hdel
   have hsl:sl=#[k0,k1,k2,k3,some (.builtin "ValueError.__new__"),k5]:=by
    obtain ⟨l⟩:=sl
    simp only at hs
    rw [hs]
   subst hsl
   have n0:h0.Ns ns (h0.nsMap ns):=.of_isNs (PySem.W.isNs_of_in kin0 hok)
   refine ⟨bm,ns,nm,qn,bs,hd,sn,sub,ab,col,dd,k0,k1,k2,k3,k5,h0.nsMap ns,PySem.W.nsMap_none_of_in kin0 hok hni,fun h kin=>⟨kin _ _ ho,?_,PySem.W.tail_of_in kin ht⟩⟩
   obtain ⟨o,es,ep,e,r⟩:=n0
   refine ⟨o,es,ep,?_,r⟩
   unfold T0 at hok
   split at hok
   ·rename_i hl
    have:=kin0 _ _ hl
    rw [e] at this
    cases this
    exact kin _ _ hl
   ·cases hok
  ·cases q
 ·cases q
theorem ObjOk.there {P:Program} {w:World} {H:Hp} {h:Heap} {a:Addr} {o:HO} (x:ObjOk P w H h a o):∃ u,h.get? a=some u:=by
 induction o with
 | lst xs=>obtain ⟨_,_,_,_,e⟩:=x; exact ⟨_,e⟩
 | tup xs=>obtain ⟨_,_,_,o,e,_⟩:=x; exact ⟨_,e⟩
 | dK kvs=>obtain ⟨_,_,vs,_,d⟩:=x; obtain ⟨o,e,_⟩:=Wf.mp d; exact ⟨_,e⟩
 | dT kvs=>obtain ⟨_,_,_,_,o,_,_,e,_⟩:=x; exact ⟨_,e⟩
 | set S n=>obtain ⟨o,_,_,_,e,_⟩:=x; exact ⟨_,e⟩
 | ins C dx fs=>obtain ⟨_,_,_,e,_⟩:=x; exact ⟨_,e⟩
 | own y=>exact x
 | xd fs=>obtain ⟨_,⟨o,_,_,e,_⟩,_⟩:=x; exact ⟨_,e⟩
 | met f y=>exact ⟨_,x⟩
 | rng lo hi=>obtain ⟨_,_,_,e⟩:=x; exact ⟨_,e⟩
 | frz o u _=>exact ⟨_,x.1⟩
 | tbl ps=>exact ⟨_,x⟩
 | ext φ=>exact x.2.1
theorem HOk.no {P:Program} {w:World} {H:Hp} {h:Heap} (x:HOk P w H h) {a:Addr} (e:h.get? a=none):H a=none:=by
 cases q:H a with
 | none=>rfl
 | some u =>
  have z:=(x a u q).there
  rw [e] at z
  obtain ⟨o,z⟩:=z
  cases z
theorem Zjq {C:Addr} {a:Expr} (hc:X.calm=true) (hC:Sv X.K C VE "ValueError.__new__" = true) (G:X.mg x=some (.ref C)) (ha:QA X [a] t) (hx:Zln X E) (hex:X.ex=[]) (hg:Gl X x:=by rfl) (hdb:(x == ("__debug__" : Str))=false:=by decide)
  (he:starEach [a] X.env=[(false,eval a X.env)]:=by rfl):QS X (.Raise (some (.Call (.Name x np) [a] [] cpos)) none pos) (fun D σ H=>t σ H fun vs H1=>vs.length<=sizeLine/\E (.ref C) none H1):=by
 refine ⟨fun pins s σ H D I h=>?_⟩
 obtain ⟨bm,N,nm,q,bs,hdct,sn,sub,ab,col,dd,k0,k1,k2,k3,k5,mN,cni,cl⟩:=Zi8 I.kIn hC
 obtain ⟨cC,cN,cT⟩:=cl _ I.kIn
 refine wpAny_Raise_call_subU (C:=C) (nm:=nm) (q:=q) (N:=N) (bs:=bs) (bm:=bm) (hdct:=hdct) (sn:=sn) (sub:=sub) (ab:=ab) (col:=col) (dd:=dd) (k0:=k0) (k1:=k1) (k2:=k2) (k3:=k3) (k5:=k5)
  Vp (by decide) Vp (mN:=mN) (cT.hasType Vp.hasBase) (I.ok.hd hc) (by rw [he]; rfl) cni (Ho I hg G ⟨rfl,?_⟩ hdb)
 rw [he]
 have ar:=ha.run cpos pins s σ H _ I h
 rw [he] at ar
 refine Calls.evalArgs_plain (Rf ar (fun us s2 h2=>?_) fun _ _ y=>y)
 obtain ⟨vs,H1,I1,r1,z,q1⟩:=h2
 obtain ⟨cC',cN',cT'⟩:=cl _ I1.kIn
 refine ⟨rfl,by rw [<- r1.length]; exact z,cC',cN',cT',fun h' a' hm=>?_⟩
 obtain ⟨t',e1,_,_⟩:=hm.there
 have I2:Inv X pins σ H1 { s2 with heap:=h' }:=I1.kept (t':=s2.toks) hm.keeps
 exact hx pins σ H1 _ a' (.ref C) none I2 ⟨_,_,e1,rfl,rfl,rfl,rfl⟩ (I1.old hex hm.new) (I1.hok.no hm.new) q1
end
end L2
namespace L2
open PySem PySem.Spec PyProof.Rows
noncomputable def exk (a:Addr) (cls:Value) (od:Option Addr):HO:=.ext fun h=>∃ o vs,h.get? a=some o/\o.cls=cls/\o.dict=od/\o.data=.fields vs
theorem Zoj {P:Program} {w:World} {H:Hp} {h:Heap} {a T:Addr} {cls:Value} {od:Option Addr} (x:Fy h a T cls od):ObjOk P w H h a (exk a cls od):=by
 obtain ⟨oe,vs,oT,ts,a1,a2,a3,a4,a5,a6,a7,a8,a9⟩:=x
 refine ⟨⟨oe,vs,a1,a2,a3,a4⟩,⟨oe,a1⟩,fun h1 h2 q k=>?_⟩
 obtain ⟨o,vs,q1,q2⟩:=q
 exact ⟨o,vs,k o q1,q2⟩
theorem Un.land {fs xs:List Addr} {H H':Hp} {h h1 h2:Heap} {e:Addr} {o:HO} (u:Un fs [] H H' h h1) (m:Mvd fs xs h1 h2) (hx:∀ b∈xs,h.get? b=none) (he:h.get? e=none) (hn:H' e=none):Un fs [] H (upd H' e o) h h2:=by
 have low:∀ b ob,h.get? b=some ob->b ∉ xs:=fun b ob q z=>by rw [hx b z] at q; cases q
 have ne:∀ b ob,h.get? b=some ob->b≠e:=fun b ob q z=>by rw [z,he] at q; cases q
 have ne':∀ b ob,H' b=some ob->b≠e:=fun b ob q z=>by rw [z,hn] at q; cases q
 refine ⟨fun b ob q n hf _=>m.keep b ob (low b ob q) hf (u.keep b ob q n hf (by simp)),fun b ob q n hf _=>?_,fun b ob q n _=>?_,fun b ob q _=>?_,fun b ys q=>?_,fun b ob v q=>?_,fun b ps q=>?_⟩
 ·obtain ⟨sl,e1⟩:=u.slot b ob q n hf (by simp)
  obtain ⟨sl',e2⟩:=m.slot b _ (low b ob q) e1
  exact ⟨sl',e2⟩
 ·rw [Af (ne b ob q)]; exact u.free b ob q n (by simp)
 ·obtain ⟨o',e1⟩:=u.there b ob q (by simp)
  obtain ⟨sl,e2⟩:=m.slot b o' (low b ob q) e1
  exact ⟨_,e2⟩
 ·have z:=u.tups b ys q
  rw [Af (ne' b _ z)]; exact z
 ·have z:=u.frzs b ob v q
  rw [Af (ne' b _ z)]; exact z
 ·obtain ⟨more,z⟩:=u.tbls b ps q
  exact ⟨more,by rw [Af (ne' b _ z)]; exact z⟩
theorem HOk.land {P:Program} {w:World} {fs xs:List Addr} {H:Hp} {h1 h2:Heap} {e:Addr} {o:HO} (x:HOk P w H h1) (m:Mvd fs xs h1 h2) (hx:∀ b∈xs,H b=none) (hf:∀ b∈fs,H b=none) (hn:H e=none) (new:ObjOk P w (upd H e o) h2 e o):HOk P w (upd H e o) h2:=by
 intro b u q
 by_cases hb:b=e
 ·subst hb
  rw [Ad] at q
  cases q
  exact new
 ·rw [Af hb] at q
  have tr:∀ c v,H c=some v->c ∉ xs/\c ∉ fs:=fun c v q=>⟨(fun z=>by rw [hx c z] at q; cases q),(fun z=>by rw [hf c z] at q; cases q)⟩
  have ne':∀ b ob,H b=some ob->b≠e:=fun b ob q z=>by rw [z,hn] at q; cases q
  refine (x b u q).stay (fun c v hc z=>?_) (fun c z=>by rw [Af (ne' c _ z)]; exact z) fun c ys z=>by rw [Af (ne' c _ z)]; exact z
  rcases hc with r | r
  ·rw [r] at z ⊢
   exact m.keep b v (tr b u q).1 (tr b u q).2 z
  ·exact m.keep c v (tr c _ r).1 (tr c _ r).2 z
noncomputable abbrev TX:=St->Hp->VK->XK->Prop
noncomputable abbrev TXS:=C7->(St->XK)->St->Hp->Prop
noncomputable def XP (X:Cx) (pins:List (Addr×Obj)) (σ:St) (E:XK) (ev:Value) (s':Shared):Prop:=∃ H0 s0,Inv X pins σ H0 s0/\Bk X.prog X.w X.stack H0 s0 E ev s'
structure QX (X:Cx) (e:Expr) (t:TX):Prop where
 run:∀ (pins:List (Addr×Obj)) (s:Shared) (σ:St) (H:Hp) (Q:VK) (E:XK),Inv X pins σ H s->t σ H Q E->wpAny (model X.prog X.w) X.A (eval e X.env) (EP X pins σ Q) (XP X pins σ E) s
structure QXS (X:Cx) (sts:List Stmt) (t:TXS):Prop where
 run:∀ (pins:List (Addr×Obj)) (s:Shared) (σ:St) (H:Hp) (D:C7) (E:St->XK),Inv X pins σ H s->t D E σ H->wpAny (model X.prog X.w) X.A (execs sts X.env) (SP X pins D) (fun ev s'=>∃ σ',XP X pins σ' (E σ') ev s') s
noncomputable abbrev Cx.to (X:Cx) (A:Around) (c:Bool) (XE:Value->Shared->Prop):Cx:={ X with A:=A,calm:=c,xe:=XE }
section
variable {X:Cx} {pins:List (Addr×Obj)} {σ:St} {H:Hp} {s:Shared}
theorem Inv.to (I:Inv X pins σ H s) {A:Around} {c:Bool} {XE:Value->Shared->Prop} (hA:A.frames=X.A.frames) (hc:c=true->A.handled=none):Inv (X.to A c XE) pins σ H s :=
 ⟨⟨I.ok.mod,I.ok.kind,I.ok.glob,I.ok.blt,I.ok.above,I.ok.inj,I.ok.has,I.ok.cab,hc,hA.trans I.ok.frames,I.ok.stk,I.ok.exf,I.ok.bs,I.ok.bsz,I.ok.noex,I.ok.exfs,I.ok.funs,I.ok.frf⟩,I.os,I.bare,I.base,I.loc,I.cell,I.free,I.freeC,I.pin,I.hok,I.len⟩
theorem Inv.back {A:Around} {c:Bool} {XE:Value->Shared->Prop} (I:Inv (X.to A c XE) pins σ H s) (ok:X.Ok):Inv X pins σ H s :=
 ⟨ok,I.os,I.bare,I.base,I.loc,I.cell,I.free,I.freeC,I.pin,I.hok,I.len⟩
end
section
variable {X:Cx} {k:Nat} {x:Str} {ps:List Str} {sp:Sp} {p pos np cpos:Pos} {e:Expr} {es:List Expr} {t:TA}
theorem Zlj (C:Hd X.prog X.w X.K X.mg X.base k x ps sp) (hr:Room k X.A) (ha:∀ XE,QA (X.to X.A X.calm XE) (e :: es) t) (hg:Gl X x:=by rfl) (hdb:(x == ("__debug__" : Str))=false:=by decide)
  (he:starEach (e :: es) X.env=(false,eval e X.env) :: starEach es X.env:=by rfl) (hpl:(backTo pos (starEach es X.env)).any (·.1)=false:=by rfl):QX X (.Call (.Name x p) (e :: es) [] pos) (fun σ H Q E=>t σ H fun vs H1=>sp vs H1 Q E):=by
 obtain ⟨f,fd,F,hm,hk,hb⟩:=C.ex
 refine ⟨fun pins s σ H Q E I h=>?_⟩
 refine Tg (Ho I hg hm ?_ hdb)
 refine Uu (h₀:=X.base) I.ok.mod.kin hk (Am ((ha (XP X pins σ E)).run pos pins s σ H _ (I.to rfl I.ok.hd) h) fun us s1 zq=>?_) he hpl
 obtain ⟨vs,H1,I1,r,q⟩:=zq
 refine ⟨(I1.back I.ok).kIn,?_⟩
 have I1:=I1.back I.ok
 have hl:us.length=ps.length:=by rw [<- r.length]; exact F.len _ _ _ _ q
 have hb':=hb s1 us I1.kIn (by simpa using hl)
 rw [Qo] at hb'
 refine wpAny_call (Sx (F.run X.A X.stack s1 H1 ⟨us,[]⟩ us vs Q E hr I1.env0 hb' r q) fun r s' hq=>?_)
 cases r with
 | error e=>exact ⟨H1,s1,I1,hq⟩
 | ok fl =>
  cases fl with
  | ret u=>exact I1.after hq
  | next=>exact Qc hq
  | brk=>exact Qc hq
  | cont=>exact Qc hq
theorem Zlg {i:Nat} {t:TX} {pos':Pos} (hN:X.N.Nodup) (hi:X.N[i]?=some x) (hx:Ez X.env.scope x) (he:QX X e t) (hs:swapsWith e (some (.Name x pos')) pos.line X.env=pure false:=by rfl) (hf:X.fn x=true\/X.env.scope.names.lookup x=some .local:=by first | exact .inl rfl | exact .inr rfl | assumption) :
  QXS X [.Assign [.Name x pos'] e pos] (fun D E σ H=>t σ H (fun v H1=>D.nx (σ.set i (some v)) H1) (E σ)):=by
 refine ⟨fun pins s σ H D E I h=>?_⟩
 refine V8 (Rf (wpAny_Assign_Name (Q:=SP X pins D) (Am (he.run pins s σ H _ (E σ) I h) fun v s1 ⟨y,H1,I1,r1,q1⟩=>Zbi I1 hN hi hx r1 (fun s2 I2=>⟨_,H1,I2,q1⟩) hf) hs) (fun f s1 q=>?_) fun ev s1 q=>⟨σ,q⟩)
 cases f with
 | next=>exact So q
 | ret v=>exact q
 | brk=>exact q
 | cont=>exact q
end
end L2
namespace L2
open PySem PySem.Spec PyProof.Rows
structure Lc (K:Pd) (C:Addr):Prop where
 ty:PySem.W.typeIn K (.ref C)=some (.type "type")
 cl:(Sw K C).isSome=true
 bs:R6 K (.ref C) (.type "BaseException")=some true
theorem Zhc {K:Pd} {M:Model} {h:Heap} {C:Addr} (X:K.In h) (e:(Sw K C).isSome=true):T2 M h (isType (.ref C)) true:=by
 unfold Sw at e
 split at e
 ·rename_i c' d' cd' sl' ho
  intro A' Q' E' s' k q
  unfold isType loadHead
  exact Pe (wpAny_loadPart (k _ _ (X _ _ ho)) (Pf q))
 ·cases e
theorem Zje {K:Pd} {M:Model} {A:Around} {E:Value->Shared->Prop} {s:Shared} {Q:Bool->Shared->Prop} {e C C':Addr} {oe:Obj} (X:K.In s.heap) (c:Lc K C) (he:s.heap.get? e=some oe) (hcls:oe.cls=.ref C') (hs:R6 K (.ref C') (.ref C)=some true) (h:Q true s) :
  wpAny M A (excMatches (.ref e) (.ref C)) Q E s:=by
 have L1:T2 M s.heap (typeOf (.ref C)) (.type "type"):=PySem.W.looks_typeIn X c.ty
 have L2:T2 M s.heap (isType (.ref C)) true:=Zhc X c.cl
 have L3:=PySem.W.looks_subIn (M:=M) X c.bs
 have L4:T2 M s.heap (typeOf (.ref e)) (.ref C'):=by
  intro A' Q' E' s' k q
  unfold typeOf
  exact Pe (wpAny_loadPart (k _ _ he) (Pf (by rw [hcls]; exact q)))
 have L5:=PySem.W.looks_subIn (M:=M) X hs
 have f:=tc_notTuple
 unfold excMatches
 unfold isInstance isExcClass
 repeat (first | with_reducible refine L1.here ?_ | with_reducible refine L2.here ?_ | with_reducible refine L3.here ?_ | with_reducible refine L4.here ?_ | with_reducible refine L5.here ?_ | wp_step)
 exact h
section
variable {X:Cx} {pins:List (Addr×Obj)} {σ:St} {H:Hp} {s:Shared}
end
section
variable {X:Cx} {c n:Str} {np hpos pos:Pos} {body hbody:List Stmt} {b₀:Stmt} {tb:TXS} {th:TS} {i:Nat} {C:Addr}
end
end L2
namespace L2
open PySem PySem.Spec PyProof.Rows
section
open PySem.W PySem.Builtin PySem.Builtin.ObjectAttr
variable {prog:Program} {w:World} {A:Around} {E:Value->Shared->Prop} {s:Shared} {K:Frag} {x C:Addr} {ox:Obj} {od:Option Obj} {name:Str} {R:Result->Shared->Prop}
end
end L2
namespace L2
open PySem PySem.Spec PyProof.Rows
section
variable {X:Cx} {pins:List (Addr×Obj)} {σ:St} {H:Hp} {s:Shared}
end
section
variable {X:Cx} {pins:List (Addr×Obj)} {σ:St} {H:Hp} {s:Shared} {a C:Addr} {f:Str} {A:Around} {E:Value->Shared->Prop}
open PySem.W PySem.Builtin PySem.Builtin.ObjectAttr
end
section
variable {X:Cx} {o e value:Expr} {f:Str} {pos pos':Pos} {ta tv:TE}
end
section
open PySem.W
end
end L2
namespace L2
open PySem PySem.Spec PyProof.Rows
section
variable {prog:Program} {w:World} {A:Around} {E:Value->Shared->Prop} {h:Heap} {g:Array GenState} {d:Drawn} {t:Nat} {os:OsState}
variable {nm q:Str} {C N:Addr} {bs bm bmB:List Value} {hdct:Bool} {sn:List Str} {sub:List Value} {ab:Bool} {col:Option Bool} {dd:Option Addr} {k0 k1 k2 k3 k5:Option Value} {B Bn newId nid initId inN:String} {bmN:List Value}
end
section
variable {X:Cx} {k:Nat} {x:Str} {sp:Sp} {ps:List Str} {C f:Addr} {fd:FuncData} {np cpos pos:Pos} {a:Expr} {t:TA} {E:XK}
end
end L2
namespace L2
open PySem PySem.Spec PyProof.Rows
end L2
namespace L2
open PySem PySem.Spec PyProof.Rows
section
variable {P:Program} {w:World} {K:Pd} {mg:Str->Option Value} {base:Heap}
end
section
variable {X:Cx} {k:Nat} {x:Str} {ps:List Str} {sp:Sp} {p pos:Pos} {e:Expr} {es:List Expr} {t:TA}
end
end L2
namespace L2
open PySem PySem.Spec PyProof.Rows
section
open PySem.W PySem.Builtin PySem.Builtin.ObjectAttr
variable {prog:Program} {w:World} {A:Around} {E:Value->Shared->Prop} {s:Shared} {K:Frag} {x D:Addr} {ox:Obj} {od:Option Obj}
end
section
variable {X:Cx} {pins:List (Addr×Obj)} {σ:St} {H:Hp} {s:Shared} {a C':Addr} {od:Option Addr}
end
end L2
namespace L2
open PySem PySem.Spec PyProof.Rows
section
variable {X:Cx}
noncomputable def rEqI (K:Pd):R2:=fun x y H Q=>∃ (a c:Addr) (xs ys:List Int),x=.ref a/\y=.ref c/\SqT K H a (xs.map V.int)/\SqT K H c (ys.map V.int)/\Q (.bl (decide (xs=ys))) H
theorem Zn9 (hu:X.A.units + 200 < cLine):OpR X (compareOp .Eq) (rEqI X.K):=by
 intro pins s σ H x y v u Q I rx ry h
 obtain ⟨a,c,xs,ys,rfl,rfl,hx,hy,q⟩:=h
 cases rx
 cases ry
 obtain ⟨its,r1,p1,_⟩:=I.tuple hx
 obtain ⟨its2,r2,p2,_⟩:=I.tuple hy
 obtain ⟨us,e1,f1⟩:=Zaw r1
 obtain ⟨vs,e2,f2⟩:=Zaw r2
 have l1:us.length=xs.length:=by rw [<- f1,Pp]
 have l2:vs.length=ys.length:=by rw [<- f2,Pp]
 refine SeqAt.eq_tupleAt (e:=fun j=>xs.getD j 0 == ys.getD j 0) (show s.heap.IsTuple a its.toArray from p1) (show s.heap.IsTuple c its2.toArray from p2) (by omega) (fun j h1 h2=>?_) ?_
 ·subst e1 e2
  simp only [Pk,Pp] at h1 h2
  have g1:xs.getD j 0=us[j].1:=by rw [<- f1,Ud,Qh,Pg h1]; rfl
  have g2:ys.getD j 0=vs[j].1:=by rw [<- f2,Ud,Qh,Pg h2]; rfl
  rw [g1,g2]
  simp only [List.getElem_toArray,List.getElem_map]
  exact Pz.int_int _ _ _ _
 ·have e:((P3 (min its.toArray.size its2.toArray.size)).all (fun j=>xs.getD j 0 == ys.getD j 0) && its.toArray.size == its2.toArray.size)=decide (xs=ys):=by
   have z1:its.toArray.size=xs.length:=by rw [Pk,e1,Pp,l1]
   have z2:its2.toArray.size=ys.length:=by rw [Pk,e2,Pp,l2]
   rw [z1,z2,Zgx]
  rw [e]
  exact ⟨.bl _,H,I,rfl,q⟩
noncomputable def Os (K:Pd):R2:=fun x y H Q=>L0 K x y H Q\/rEqI K x y H Q
theorem N8 (K:Pd) (hu:X.A.units + 200 < cLine) (hK:X.K=K:=by rfl):OpR X (compareOp .Eq) (Os K):=by subst hK; exact (Ze3 hu).or (Zn9 hu)
theorem Zjn {K:Pd} {x y:V} {H:Hp} {Q:VK} (hs:Kp x y=true) (h:Q (.bl (decide (x=y))) H):Os K x y H Q:=.inl (.inl ⟨hs,h⟩)
theorem Zc5 {K:Pd} {a c:Addr} {xs ys:List Int} {H:Hp} {Q:VK} (hx:SqT K H a (xs.map V.int)) (hy:SqT K H c (ys.map V.int)) (h:Q (.bl (decide (xs=ys))) H):Os K (.ref a) (.ref c) H Q:=.inr ⟨a,c,xs,ys,rfl,rfl,hx,hy,h⟩
end
end L2
namespace L2
open PySem
inductive Dy:Dt->Prop where
 | flat (v:V):Dy (.flat v)
 | tup {ds:List Dt} (l:ds.length<=5000) (h:∀ d∈ds,Dy d):Dy (.tup ds)
 | lst {ds:List Dt} (l:ds.length<=5000) (h:∀ d∈ds,Dy d):Dy (.lst ds)
noncomputable def SameA (A:Addr->Prop) (H H':Hp):Prop:=SameT H H'/\∀ b xs,¬ A b->H b=some (.lst xs)->H' b=some (.lst xs)
theorem Same.a {A:Addr->Prop} {H H':Hp} (e:Same H H'):SameA A H H':=⟨e.t,fun b xs _ h=>e b _ h⟩
theorem SameA.trans {A:Addr->Prop} {H H1 H2:Hp} (a:SameA A H H1) (b:SameA A H1 H2):SameA A H H2:=⟨a.1.trans b.1,fun c xs n h=>b.2 c xs n (a.2 c xs n h)⟩
theorem SameA.set {A:Addr->Prop} {H:Hp} {S:Addr} {zs:List V} {o:HO} (h:H S=some (.lst zs)) (hA:A S):SameA A H (upd H S o):=⟨SameT.set h,fun b xs n e=>by rw [Af (fun z=>n (by rw [z]; exact hA))]; exact e⟩
theorem SameA.mono {A B:Addr->Prop} {H H':Hp} (e:SameA A H H') (h:∀ b,A b->B b):SameA B H H':=⟨e.1,fun b xs n=>e.2 b xs fun a=>n (h b a)⟩
noncomputable def ThAt (K:Pd) (H:Hp) (v:V) (x:Str×V):Prop:=Cb x.2=true/\∃ a,v=.ref a/\SqT K H a [.str x.1,x.2]
theorem ThAt.same {K:Pd} {H H':Hp} (e:SameT H H') (v:V) (x:Str×V) (h:ThAt K H v x):ThAt K H' v x:=by
 obtain ⟨f,a,r,q⟩:=h
 exact ⟨f,a,r,e.tup q⟩
noncomputable def PrAt (K:Pd) (H:Hp) (v:V) (x:Str×Str×V):Prop:=∃ (a:Addr) (u:V),v=.ref a/\SqT K H a [.str x.1,u]/\ThAt K H u x.2
theorem PrAt.same {K:Pd} {H H':Hp} (e:SameT H H') (v:V) (x:Str×Str×V) (h:PrAt K H v x):PrAt K H' v x:=by
 obtain ⟨a,u,r,q,t⟩:=h
 exact ⟨a,u,r,e.tup q,t.same e⟩
structure Rx where
 wd:Str
 pl:List Int
 ops:List (Str×V)
 ar:List (Str×Str×V)
noncomputable def RwAt (K:Pd) (A:Addr->Prop) (H:Hp) (v:V) (x:Rx):Prop:=∃ (a p o e:Addr) (ov ev:List V),v=.ref a/\SqT K H a [.str x.wd,.ref p,.ref o,.ref e]/\SqT K H p (x.pl.map V.int)/\H o=some (.lst ov)/\Al (ThAt K H) ov x.ops/\H e=some (.lst ev)/\Al (PrAt K H) ev x.ar/\¬ A o/\¬ A e
theorem RwAt.same {K:Pd} {A:Addr->Prop} {H H':Hp} (s:SameA A H H') (v:V) (x:Rx) (h:RwAt K A H v x):RwAt K A H' v x:=by
 obtain ⟨a,p,o,e,ov,ev,h1,h2,h3,h4,h5,h6,h7,h8,h9⟩:=h
 exact ⟨a,p,o,e,ov,ev,h1,s.1.tup h2,s.1.tup h3,s.2 _ _ h8 h4,h5.mono (ThAt.same s.1),s.2 _ _ h9 h6,h7.mono (PrAt.same s.1),h8,h9⟩
theorem RwAt.mono {K:Pd} {A B:Addr->Prop} {H:Hp} (s:∀ b,B b->H b≠none->A b) (v:V) (x:Rx) (h:RwAt K A H v x):RwAt K B H v x:=by
 obtain ⟨a,p,o,e,ov,ev,h1,h2,h3,h4,h5,h6,h7,h8,h9⟩:=h
 exact ⟨a,p,o,e,ov,ev,h1,h2,h3,h4,h5,h6,h7,fun b=>h8 (s o b (by rw [h4]; simp)),fun b=>h9 (s e b (by rw [h6]; simp))⟩
noncomputable def Hq (x:Str×V):Dt:=.tup [.flat (.str x.1),.flat x.2]
noncomputable def prD (x:Str×Str×V):Dt:=.tup [.flat (.str x.1),Hq x.2]
noncomputable def rzD (x:Rx):Dt:=.tup [.flat (.str x.wd),.tup (x.pl.map fun i=>.flat (.int i)),.lst (x.ops.map Hq),.lst (x.ar.map prD)]
theorem ThAt.d {K:Pd} {H:Hp} {v:V} {x:Str×V} (h:ThAt K H v x):IsD K H 1 v (Hq x):=by
 obtain ⟨f,a,rfl,q⟩:=h
 refine .tup q rfl fun j v d h1 h2=>?_
 match j,h1,h2 with
 | 0,h1,h2=>cases h1; cases h2; exact .flat rfl
 | 1,h1,h2=>cases h1; cases h2; exact .flat f
theorem PrAt.d {K:Pd} {H:Hp} {v:V} {x:Str×Str×V} (h:PrAt K H v x):IsD K H 2 v (prD x):=by
 obtain ⟨a,u,rfl,q,t⟩:=h
 refine .tup q rfl fun j v d h1 h2=>?_
 match j,h1,h2 with
 | 0,h1,h2=>cases h1; cases h2; exact .flat rfl
 | 1,h1,h2=>cases h1; cases h2; exact t.d
theorem Al.lstD {K:Pd} {H:Hp} {α:Type} {R:V->α->Prop} {g:α->Dt} {n:Nat} {a:Addr} {vs:List V} {xs:List α} (al:Al R vs xs) (e:SqL K H a vs) (h:∀ v x,R v x->IsD K H n v (g x)):IsD K H (n + 1) (.ref a) (.lst (xs.map g)):=by
 refine .lst e (by rw [Pp]; exact al.1) fun j v d h1 h2=>?_
 rw [Qh] at h2
 obtain ⟨r,hr,rfl⟩:=Rz.mp h2
 exact h v r (al.2 j v r h1 hr)
theorem Zg1 {K:Pd} {H:Hp} {n:Nat} {p:Addr} {pl:List Int} (q:SqT K H p (pl.map V.int)):IsD K H (n + 1) (.ref p) (.tup (pl.map fun i=>.flat (.int i))):=by
 refine .tup q (by simp) fun j v d h1 h2=>?_
 rw [Qh] at h1 h2
 obtain ⟨k,hk,rfl⟩:=Rz.mp h1
 rw [hk] at h2
 cases h2
 exact .flat rfl
theorem RwAt.d {K:Pd} {A:Addr->Prop} {H:Hp} {v:V} {x:Rx} (h:RwAt K A H v x):IsD K H 4 v (rzD x):=by
 obtain ⟨a,p,o,e,ov,ev,rfl,h2,h3,h4,h5,h6,h7,_,_⟩:=h
 refine .tup h2 rfl fun j v d f1 f2=>?_
 match j,f1,f2 with
 | 0,h1,h2=>cases h1; cases h2; exact .flat rfl
 | 1,h1,h2=>cases h1; cases h2; exact Zg1 h3
 | 2,h1,h2=>cases h1; cases h2; exact (h5.lstD (g:=Hq) (SqL.of h4) fun _ _ t=>t.d).up (by omega)
 | 3,h1,h2=>cases h1; cases h2; exact h7.lstD (g:=prD) (SqL.of h6) fun _ _ t=>t.d
theorem Zar (x:Str×V):Dy (Hq x):=.tup (by show 2<=5000; omega) fun d h=>by
 simp only [Pm,P0,or_false] at h
 rcases h with rfl | rfl
 ·exact .flat _
 ·exact .flat _
theorem Zir (x:Str×Str×V):Dy (prD x):=.tup (by show 2<=5000; omega) fun d h=>by
 simp only [Pm,P0,or_false] at h
 rcases h with rfl | rfl
 ·exact .flat _
 ·exact Zar _
theorem Zbm {α:Type} {g:α->Dt} {xs:List α} (l:xs.length<=5000) (h:∀ x∈xs,Dy (g x)):Dy (.lst (xs.map g)):=.lst (by rw [Pp]; exact l) fun d hd=>by
 obtain ⟨x,hx,rfl⟩:=List.mem_map.mp hd
 exact h x hx
structure Rx.Ok (x:Rx):Prop where
 pl:x.pl.length<=5000
 ops:x.ops.length<=5000
 ar:x.ar.length<=5000
theorem Zhh {x:Rx} (h:x.Ok):Dy (rzD x):=.tup (by show 4<=5000; omega) fun d hd=>by
 simp only [Pm,P0,or_false] at hd
 rcases hd with rfl | rfl | rfl | rfl
 ·exact .flat _
 ·refine .tup (by rw [Pp]; exact h.pl) fun d hd=>?_
  obtain ⟨x,hx,rfl⟩:=List.mem_map.mp hd
  exact .flat _
 ·exact Zbm h.ops fun x _=>Zar x
 ·exact Zbm h.ar fun x _=>Zir x
section
variable {g:TG} {tt:TT} {te:TE} {σ0:St} {H1:Hp} {D:Addr} {Q:VK}
end
end L2
namespace L2
open PySem PySem.Spec PyProof.Rows
section
variable {X:Cx}
end
end L2
namespace L2
open PySem PySem.Spec PyProof.Rows
section
variable {prog:Program} {w:World} {A:Around} {E:Value->Shared->Prop} {s:Shared}
end
section
variable {X:Cx}
end
section
variable {g:TG} {tt:TT} {te:TE} {σ0:St} {H1:Hp} {D:Addr} {Q:VK}
end
end L2
namespace L2
open PySem PySem.Spec PyProof.Rows
theorem via {t:TS} {X:St->Hp->Prop} {rt:VK} {bk ct:St->Hp->Prop} {σ:St} {H:Hp} (R:Hp->Prop) (h2:∀ H',R H'->X σ H') (h1:∀ Y:St->Hp->Prop,(∀ H',R H'->Y σ H')->t ⟨Y,rt,bk,ct⟩ σ H):t ⟨X,rt,bk,ct⟩ σ H:=h1 X h2
section
variable {X:Cx}
end
end L2
namespace L2
open PySem PySem.Spec PyProof.Rows
section
variable {X:Cx}
end
end L2
namespace L2
open PySem PySem.Spec PyProof.Rows
section
variable {X:Cx}
open PySem.Builtin PySem.Builtin.Str in
end
end L2
namespace L2
open PySem PySem.Spec PyProof.Rows
section
variable {prog:Program} {w:World} {A:Around} {E:Value->Shared->Prop} {s:Shared}
end
section
variable {X:Cx}
end
section
variable {X:Cx} {k:Nat} {x:Str} {ps:List Str} {sp:Sp} {p pos:Pos}
end
end L2
namespace L2
open PySem PySem.Spec PyProof.Rows
structure Ce (CX:B3) (P:Program) (w:World) (K:Pd) (mg:Str->Option Value) (base:Heap) (k:Nat) (C:Addr) (m:Str) (ps:List Str) (sp:Sp):Prop where
 ex:∃ (g:Addr) (fd:FuncData),FnOk P w K mg base CX k g fd ps sp/\Cls K C/\Meth K C m g/\Binds K fd ps []
structure Og (CX:B3) (P:Program) (w:World) (K:Pd) (mg:Str->Option Value) (base:Heap) (k:Nat) (x:Str) (C:Addr) (ps:List Str) (sp:Sp):Prop where
 ex:∃ (f:Addr) (fd:FuncData),FnOk P w K mg base CX k f fd ps sp/\Mk K C f/\mg x=some (.ref C)/\Binds K fd ps []
noncomputable def Zbz (CX:B3) (P:Program) (w:World) (K:Pd) (mg:Str->Option Value) (base:Heap) (k:Nat) (m:Str) (ps:List Str) (E:XK) (ta:TE) (t:TA):TE:=fun σ H Q=>ta σ H fun x H1=>∃ a C dx fs sp,x=.ref a/\H1 a=some (.ins C dx fs)/\fs.lookup m=none/\Ce CX P w K mg base k C m ps sp /\
 t σ H1 fun vs H2=>sp (.ref a :: vs) H2 Q E
noncomputable def tNew (C:Addr) (sp:Sp) (E:XK) (t:TA):TE:=fun σ H Q=>t σ H fun vs H1=>∀ x dx,H1 x=none->H1 dx=none->dx≠x->sp (.ref x :: vs) (upd (upd H1 dx (.own x)) x (.ins C dx [])) (fun v H2=>v=.non/\Q (.ref x) H2) E
section
variable {X:Cx} {k:Nat} {x m:Str} {ps:List Str} {sp:Sp} {E:XK} {C:Addr} {p pos apos:Pos} {e o:Expr} {es:List Expr} {ta:TE} {t:TA} {CX:B3} {P:Program} {w:World} {mg:Str->Option Value} {base:Heap}
theorem Cs (K:Pd) (CX:B3) (ps:List Str) {pl:Sem Bool} (he:QE X o ta) (hr:Room k X.A) (hx:E2 CX X E) (ha:QA X (e :: es) t) (hP:X.prog=P:=by rfl) (hw:X.w=w:=by rfl) (hK:X.K=K:=by rfl) (hmg:X.mg=mg:=by rfl) (hbs:X.base=base:=by rfl)
  (hst:starEach (e :: es) X.env=(false,eval e X.env) :: starEach es X.env:=by rfl) (hpl:(backTo pos (starEach es X.env)).any (·.1)=false:=by rfl)
  (ht:eval (.Call (.Attribute o m apos) (e :: es) [] pos) X.env=(do
   let ov <- eval o X.env
   standAt apos.atName
   let (f,first) <- holding [ov] (getMethod ov m pl)
   callWith pos f first (backTo pos (starEach (e :: es) X.env)) (backToKw pos (keywordEach [] X.env))):=by rfl) :
  QE X (.Call (.Attribute o m apos) (e :: es) [] pos) (Zbz CX P w K mg base k m ps E ta t):=by
 subst hP hw hK hmg hbs
 refine ⟨fun pins s σ H Q I h=>?_⟩
 refine PySem.W.methodCall_KW (pl:=pl) (Am (he.run pins s σ H _ I h) fun u s1 zq=>?_) ht
 obtain ⟨x,H1,I1,rx,a,C,dx,fs,sp,ex,ea,l,M,q⟩:=zq
 obtain ⟨g,fd,F,c,hm,hb⟩:=M.ex
 subst ex
 obtain rfl:u=Value.ref a:=rx
 refine Zdd I1 ea c hm l ?_
 refine Uu (first:=[.ref a]) (h₀:=X.base) I.ok.mod.kin hm.kp (Am (ha.run pos pins s1 σ H1 _ I1 q) fun us s2 zq=>?_) hst hpl
 obtain ⟨vs,H2,I2,r,q2⟩:=zq
 refine ⟨I2.kIn,?_⟩
 exact Zbl (us:=.ref a :: us) (vs:=.ref a :: vs) (dvs:=[]) F hr hb .nil hx I2 (.cons rfl r) (by rw [Qo]; exact q2)
theorem Znf (M:Og CX X.prog X.w X.K X.mg X.base k x C ps sp) (hr:Room (k + 1) X.A) (hx:E2 CX X E) (ha:QA X (e :: es) t) (hg:Gl X x:=by rfl) (hdb:(x == ("__debug__" : Str))=false:=by decide)
  (he:starEach (e :: es) X.env=(false,eval e X.env) :: starEach es X.env:=by rfl) (hpl:(backTo pos (starEach es X.env)).any (·.1)=false:=by rfl):QE X (.Call (.Name x p) (e :: es) [] pos) (tNew C sp E t):=by
 obtain ⟨f,fd,F,mk,hm,hb⟩:=M.ex
 refine ⟨fun pins s σ H Q I h=>?_⟩
 refine Tg (Ho I hg hm ?_ hdb)
 refine Uu (h₀:=X.base) I.ok.mod.kin mk.kp (Am (ha.run pos pins s σ H _ I h) fun us s1 zq=>?_) he hpl
 obtain ⟨vs,H1,I1,r,q⟩:=zq
 refine ⟨I1.kIn,?_⟩
 exact Zoe (dvs:=[]) mk F hr hb .nil hx I1 r (fun x dx h1 h2 h3=>by rw [Qo]; exact q x dx h1 h2 h3)
end
end L2
namespace L2
open PySem PySem.Spec PyProof.Rows
section
variable {X:Cx} {e o value:Expr} {f:Str} {pos pos':Pos} {ta tv:TE} {pins:List (Addr×Obj)} {σ:St} {H:Hp} {s:Shared}
theorem Bs (K:Pd) (he:QE X e ta) (hb:attributeBase e f X.env (eval e X.env)=eval e X.env:=by rfl) (hK:X.K=K:=by rfl):QE X (.Attribute e f pos) (Om K ta f):=by subst hK; exact Zm1 he hb
theorem G6 (K:Pd) (ha:QE X o ta) (hv:QE X value tv) (hs:swapsWith value (some (.Attribute o f pos')) pos.line X.env=pure false:=by rfl) (hK:X.K=K:=by rfl):QS X (.Assign [.Attribute o f pos'] value pos) (Ld K ta tv f):=by subst hK; exact Zgp ha hv hs
end
end L2
namespace L2
open PySem PySem.Spec PyProof.Rows
section
variable {X:Cx} {pins:List (Addr×Obj)} {σ:St} {H:Hp} {s:Shared}
end
end L2
namespace L2
open PySem PySem.Spec PyProof.Rows
section
variable {P:Program} {w:World} {K:Pd} {mg:Str->Option Value} {base:Heap}
end
section
variable {X:Cx} {k:Nat} {x:Str} {ps ks:List Str} {gV:List V->List V->List V} {sp:Sp} {E:XK} {C:Addr} {p pos kpos:Pos} {e:Expr} {es:List Expr} {kws:List Keyword} {te:TE} {t tk:TA} {CX:B3} {nm:Option Str} {f:Addr} {fd:FuncData} {g:List Value->List Value->List Value}
end
end L2
namespace L2
open PySem PySem.Spec PyProof.Rows
section
variable {X:Cx} {pins:List (Addr×Obj)} {σ:St} {H:Hp} {s:Shared}
end
end L2
namespace L2
open PySem PySem.Spec PyProof.Rows
section
variable {κ:Type} [DecidableEq κ]
noncomputable def Bu (kvs:List (κ×V)) (k:κ):Option V:=(kvs.find? fun kv=>decide (kv.1=k)).map (·.2)
noncomputable def Co (kvs:List (κ×V)) (k:κ) (v:V):List (κ×V) :=
 if (kvs.any fun kv=>decide (kv.1=k))=true then kvs.map (fun kv=>if kv.1=k then (kv.1,v) else kv) else kvs++[(k,v)]
theorem Em {p:κ×V} {r:List (κ×V)} {k:κ} (e:p.1=k):Bu (p :: r) k=some p.2:=by simp [Bu,Qx,e]
theorem El {p:κ×V} {r:List (κ×V)} {k:κ} (e:¬ p.1=k):Bu (p :: r) k=Bu r k:=by simp [Bu,Qx,e]
theorem Mq (k:κ):∀ kvs:List (κ×V),(kvs.any fun kv=>decide (kv.1=k))=(Bu kvs k).isSome
 | []=>rfl
 | p :: r=>by
  rw [T3]
  by_cases e:p.1=k
  ·simp only [Em e,decide_eq_true e,Bool.true_or,Option.isSome_some]
  ·rw [El e,decide_eq_false e,Bool.false_or]; exact Mq k r
theorem Zdp (k j:κ) (y:V):∀ kvs:List (κ×V),Bu (kvs.map fun kv=>if kv.1=k then (kv.1,y) else kv) j=(Bu kvs j).map fun x=>if j=k then y else x
 | []=>rfl
 | p :: r=>by
  have ih:=Zdp k j y r
  rw [Qj]
  by_cases h:p.1=k
  ·rw [if_pos h]
   by_cases e:p.1=j
   ·rw [Em (p:=(p.1,y)) e,Em e,Tx,if_pos (e.symm.trans h)]
   ·rw [El (p:=(p.1,y)) e,El e,ih]
  ·rw [if_neg h]
   by_cases e:p.1=j
   ·rw [Em (p:=p) e,Em e,Tx,if_neg (fun z=>h (e.trans z))]
   ·rw [El (p:=p) e,El e,ih]
theorem Zc8 (k j:κ) (y:V):∀ kvs:List (κ×V),Bu kvs k=none->Bu (kvs++[(k,y)]) j=if j=k then some y else Bu kvs j
 | [],_=>by
  by_cases e:k=j
  ·rw [if_pos e.symm]; exact Em (p:=(k,y)) e
  ·rw [if_neg (fun z=>e z.symm)]; exact El (p:=(k,y)) e
 | p :: r,hn=>by
  rw [List.cons_append]
  have hk:¬ p.1=k:=fun z=>by rw [Em z] at hn; cases hn
  rw [El hk] at hn
  have ih:=Zc8 k j y r hn
  by_cases e:p.1=j
  ·rw [Em e,Em e,if_neg (fun z=>hk (e.trans z))]
  ·rw [El e,El e,ih]
theorem Zqz (kvs:List (κ×V)) (k j:κ) (y:V):Bu (Co kvs k y) j=if j=k then some y else Bu kvs j:=by
 unfold Co
 by_cases a:(kvs.any fun kv=>decide (kv.1=k))=true
 ·rw [if_pos a,Zdp]
  rw [Mq] at a
  by_cases e:j=k
  ·obtain ⟨x,hx⟩:=Tc.mp a
   rw [if_pos e,e,hx,Tx,if_pos rfl]
  ·rw [if_neg e]
   cases Bu kvs j with
   | none=>rfl
   | some x=>rw [Tx,if_neg e]
 ·rw [if_neg a]
  refine Zc8 k j y kvs ?_
  rw [Mq] at a
  cases q:Bu kvs k with
  | none=>rfl
  | some x=>rw [q] at a; exact (a rfl).elim
theorem Oi (kvs:List (κ×V)) (k:κ) (v:V):(Co kvs k v).length<=kvs.length + 1:=by
 unfold Co
 split
 ·rw [Pp]; omega
 ·rw [Pi,P9,Q9]; omega
theorem RelO.isSome_eq {o:Option V} {u:Option Value} (r:RelO o u):o.isSome=u.isSome:=by
 cases o with
 | none=>cases u with
  | none=>rfl
  | some _=>exact (show False from r).elim
 | some _=>cases u with
  | none=>exact (show False from r).elim
  | some _=>rfl
theorem KV.val {kvs:List (κ×V)} {vs:List (κ×Value)} (r:KV kvs vs) (k:κ):RelO (Bu kvs k) (valueAt vs k):=by
 unfold KV at r
 induction r with
 | nil=>exact True.intro
 | @cons p q ps qs h t ih =>
  obtain ⟨h1,h2⟩:=h
  by_cases e:p.1=k
  ·have e':q.1=k:=h1.symm.trans e
   have b:valueAt (q :: qs) k=some q.2:=by simp [valueAt,Qx,e']
   rw [Em e,b]; exact h2
  ·have e':¬ q.1=k:=fun z=>e (h1.trans z)
   have b:valueAt (q :: qs) k=valueAt qs k:=by simp [valueAt,Qx,e']
   rw [El e,b]; exact ih
theorem KV.any {kvs:List (κ×V)} {vs:List (κ×Value)} (r:KV kvs vs) (k:κ):(kvs.any fun kv=>decide (kv.1=k))=vs.any fun kv=>decide (kv.1=k):=by
 unfold KV at r
 induction r with
 | nil=>rfl
 | cons h t ih=>rw [T3,T3,ih,h.1]
theorem KV.repl {kvs:List (κ×V)} {vs:List (κ×Value)} (r:KV kvs vs) (k:κ) {y:V} {u:Value} (ry:RelV y u) :
  KV (kvs.map fun kv=>if kv.1=k then (kv.1,y) else kv) (vs.map fun kv=>if kv.1=k then (kv.1,u) else kv):=by
 unfold KV at r ⊢
 induction r with
 | nil=>exact .nil
 | @cons p q ps qs h t ih =>
  rw [Qj,Qj]
  refine .cons ?_ ih
  obtain ⟨h1,h2⟩:=h
  by_cases e:p.1=k
  ·rw [if_pos e,if_pos (h1.symm.trans e)]; exact ⟨h1,ry⟩
  ·rw [if_neg e,if_neg (fun z=>e (h1.trans z))]; exact ⟨h1,h2⟩
theorem KV.put {kvs:List (κ×V)} {vs:List (κ×Value)} (r:KV kvs vs) (k:κ) {y:V} {u:Value} (ry:RelV y u):KV (Co kvs k y) (stored vs k u):=by
 unfold Co stored
 rw [r.any k]
 by_cases e:(vs.any fun kv=>decide (kv.1=k))=true
 ·rw [if_pos e,if_pos e]; exact r.repl k ry
 ·rw [if_neg e,if_neg e]; exact Paired.snoc r ⟨rfl,ry⟩
theorem KV.length {kvs:List (κ×V)} {vs:List (κ×Value)} (r:KV kvs vs):kvs.length=vs.length:=U9 r
end
theorem Mt {P:Program} {w:World} {k:Ao} {u:Value} (r:RelV (kV k) u):(Dh P w).is k u=true:=by
 cases k with
 | inl i=>obtain ⟨t,e⟩:=(show ∃ t,u=Value.int i t from r); subst e; exact Ziu P w i t
 | inr x=>obtain ⟨t,e⟩:=(show ∃ t,u=Value.str x t from r); subst e; exact Zkk P w x t
theorem Zdz {P:Program} {w:World}:∀ {ks:List Ao} {us:List Value},Vals (ks.map kV) us->ItemsAre (Dh P w) ks us
 | [],_,r=>by rw [Vg] at r; cases r; exact .nil
 | k :: ks,_,r=>by
  rw [Qj] at r
  cases r with
  | cons h t=>exact .cons (Mt h) (Zdz t)
noncomputable abbrev KT (H:Hp):List (List Ao×V)->List (List Ao×Addr×Value)->Prop:=Paired fun p q=>p.1=q.1/\H q.2.1=some (.tup (p.1.map kV))/\RelV p.2 q.2.2
theorem KT.val {H:Hp} {kvs:List (List Ao×V)} {xs:List (List Ao×Addr×Value)} (r:KT H kvs xs) (k:List Ao):RelO (Bu kvs k) ((atKey xs k).map (·.2)):=by
 induction r with
 | nil=>exact True.intro
 | @cons p q ps qs h t ih =>
  obtain ⟨h1,_,h2⟩:=h
  by_cases e:p.1=k
  ·have e':q.1=k:=h1.symm.trans e
   have b:atKey (q :: qs) k=some q.2:=by simp [atKey,Qx,e']
   rw [Em e,b]; exact h2
  ·have e':¬ q.1=k:=fun z=>e (h1.trans z)
   have b:atKey (q :: qs) k=atKey qs k:=by simp [atKey,Qx,e']
   rw [El e,b]; exact ih
theorem KT.repl {H:Hp} {kvs:List (List Ao×V)} {xs:List (List Ao×Addr×Value)} (r:KT H kvs xs) (k:List Ao) {y:V} {u:Value} (ry:RelV y u) :
  KT H (kvs.map fun kv=>if kv.1=k then (kv.1,y) else kv) (xs.map (putAt k u)):=by
 induction r with
 | nil=>exact .nil
 | @cons p q ps qs h t ih =>
  rw [Qj,Qj]
  refine .cons ?_ ih
  obtain ⟨h1,h2,h3⟩:=h
  unfold putAt
  by_cases e:p.1=k
  ·rw [if_pos e,if_pos (h1.symm.trans e)]; exact ⟨h1,h2,ry⟩
  ·rw [if_neg e,if_neg (fun z=>e (h1.trans z))]; exact ⟨h1,h2,h3⟩
theorem KT.put {H:Hp} {kvs:List (List Ao×V)} {xs:List (List Ao×Addr×Value)} (r:KT H kvs xs) (k:List Ao) {b:Addr} {y:V} {u:Value} (hb:H b=some (.tup (k.map kV))) (ry:RelV y u) :
  KT H (Co kvs k y) (storedH xs k b u):=by
 have e:(kvs.any fun kv=>decide (kv.1=k))=(atKey xs k).isSome:=by
  rw [Mq,(r.val k).isSome_eq,Option.isSome_map]
 unfold Co storedH
 rw [e]
 by_cases q:(atKey xs k).isSome=true
 ·rw [if_pos q,if_pos q]; exact r.repl k ry
 ·rw [if_neg q,if_neg q]; exact Paired.snoc r ⟨rfl,hb,ry⟩
theorem KT.keeps {H H':Hp} {kvs:List (List Ao×V)} {xs:List (List Ao×Addr×Value)} (r:KT H kvs xs) (ht:∀ b ys,H b=some (.tup ys)->H' b=some (.tup ys)):KT H' kvs xs :=
 Paired.mapP r fun _ _ z=>⟨z.1,ht _ _ z.2.1,z.2.2⟩
section
variable {P:Program} {w:World} {H:Hp} {h:Heap} {a:Addr}
theorem Zb9 {u:HO} (ok:HOk P w H h) (e:Rd H a u):ObjOk P w H h a u:=e.ok ok
theorem Mu {kvs:List (Ao×V)} (ok:HOk P w H h) (e:Rd H a (.dK kvs)):kvs.length<=sizeLine/\(a == sysModules)=false/\∃ vs,KV kvs vs/\h.DictOf (Dh P w) a vs :=
 show ObjOk P w H h a (.dK kvs) from Zb9 ok e
theorem Zht {kvs:List (Ao×V)} (ok:HOk P w H h) (e:H a=some (.dK kvs)):kvs.length<=sizeLine/\(a == sysModules)=false/\∃ vs,KV kvs vs/\h.DictOf (Dh P w) a vs:=Mu ok (.inl e)
theorem Lp {ks:List Ao} (ok:HOk P w H h) (e:H a=some (.tup (ks.map kV))):(tupleKind (Dh P w)).is h ks a:=by
 obtain ⟨_,its,r,o,h1,h2,n,h3⟩:=(show ObjOk P w H h a (.tup (ks.map kV)) from ok a _ e)
 exact ⟨o,its.toArray,n,h1,h2,h3,by simpa using Zdz r⟩
theorem Lk {kvs:List (List Ao×V)} (ok:HOk P w H h) (e:Rd H a (.dT kvs)):kvs.length<=sizeLine/\(a == sysModules)=false /\
  ∃ xs,KT H kvs xs/\h.DictOfH (tupleKind (Dh P w)) a xs:=by
 obtain ⟨z,y,xs,r,o,es,ep,h1,h2,h3,h4,h5⟩:=(show ObjOk P w H h a (.dT kvs) from Zb9 ok e)
 refine ⟨z,y,xs,r,o,es,ep,h1,h2,h3,h4,fun x hx=>?_,h5⟩
 have all:∀ {l:List (List Ao×V)} {m:List (List Ao×Addr×Value)},KT H l m->∀ x∈m,(tupleKind (Dh P w)).is h x.1 x.2.1:=by
  intro l m q
  induction q with
  | nil=>intro x hx; exact nomatch hx
  | @cons p q ps qs hq t ih =>
   intro x hx
   rcases Pm.mp hx with e | hx
   ·subst e
    exact Lp ok (by rw [<- hq.1]; exact hq.2.1)
   ·exact ih x hx
 exact all r x hx
theorem Zhv {kvs:List (List Ao×V)} (ok:HOk P w H h) (e:H a=some (.dT kvs)):kvs.length<=sizeLine/\(a == sysModules)=false /\
  ∃ xs,KT H kvs xs/\h.DictOfH (tupleKind (Dh P w)) a xs:=Lk ok (.inl e)
end
noncomputable def DGet (H:Hp) (a:Addr) (y:V) (r:Option V):Prop :=
 (∃ kvs k,Rd H a (.dK kvs)/\y=kV k/\r=Bu kvs k)\/∃ kvs k b,Rd H a (.dT kvs)/\y=.ref b/\H b=some (.tup (k.map kV))/\r=Bu kvs k
noncomputable def DPut (H:Hp) (a:Addr) (y v:V) (H':Hp):Prop :=
 (∃ kvs k,H a=some (.dK kvs)/\y=kV k/\kvs.length < sizeLine/\H'=upd H a (.dK (Co kvs k v))) \/
 ∃ kvs k b,H a=some (.dT kvs)/\y=.ref b/\H b=some (.tup (k.map kV))/\kvs.length < sizeLine/\H'=upd H a (.dT (Co kvs k v))
theorem DGet.k {H:Hp} {a:Addr} {kvs:List (Ao×V)} {k:Ao} (e:H a=some (.dK kvs)):DGet H a (kV k) (Bu kvs k):=.inl ⟨kvs,k,.inl e,rfl,rfl⟩
theorem DGet.t {H:Hp} {a b:Addr} {kvs:List (List Ao×V)} {k:List Ao} (e:H a=some (.dT kvs)) (eb:H b=some (.tup (k.map kV))):DGet H a (.ref b) (Bu kvs k):=.inr ⟨kvs,k,b,.inl e,rfl,eb,rfl⟩
theorem DPut.k {H:Hp} {a:Addr} {kvs:List (Ao×V)} {k:Ao} {v:V} (e:H a=some (.dK kvs)) (hl:kvs.length < sizeLine):DPut H a (kV k) v (upd H a (.dK (Co kvs k v))):=.inl ⟨kvs,k,e,rfl,hl,rfl⟩
theorem DPut.t {H:Hp} {a b:Addr} {kvs:List (List Ao×V)} {k:List Ao} {v:V} (e:H a=some (.dT kvs)) (eb:H b=some (.tup (k.map kV))) (hl:kvs.length < sizeLine) :
  DPut H a (.ref b) v (upd H a (.dT (Co kvs k v))):=.inr ⟨kvs,k,b,e,rfl,eb,hl,rfl⟩
section
variable {X:Cx} {pins:List (Addr×Obj)} {σ:St} {H:Hp} {s:Shared} {a:Addr} {y v:V} {u r:Value} {o:Option V} {A:Around} {E:Value->Shared->Prop}
theorem Inv.big (I:Inv X pins σ H s):sysModules < s.heap.objs.size:=by
 have h:mainGlobals < s.heap.objs.size:=(I.mod.glob.keeps I.bk).lt
 exact Nat.lt_trans (by decide) h
theorem Zn3 {Q:Value->Shared->Prop} (hu:A.units + 1 < cLine) (I:Inv X pins σ H s) (g:DGet H a y (some v)) (ry:RelV y u) (h:∀ w' s',Inv X pins σ H s'->RelV v w'->Q w' s') :
  wpAny (model X.prog X.w) A (getItem (.ref a) u) Q E s:=by
 rcases g with ⟨kvs,k,e,ey,l⟩ | ⟨kvs,k,b,e,ey,eb,l⟩
 ·subst ey
  obtain ⟨z,hd,vs,rel,dd⟩:=Mu I.hok e
  obtain ⟨w',hw,rw'⟩:=RelO.some_of (v:=v) (o:=valueAt vs k) (by rw [l]; exact rel.val k)
  exact wpAny_getItem_of (Mt ry) dd.mapOf hw (h w' _ (I.tok _) rw')
 ·subst ey
  cases (show u=Value.ref b from ry)
  obtain ⟨z,hd,xs,rel,dd⟩:=Lk I.hok e
  obtain ⟨w',hw,rw'⟩:=RelO.some_of (v:=v) (o:=(atKey xs k).map (·.2)) (by rw [l]; exact rel.val k)
  obtain ⟨p,hp,hp2⟩:=Rz.mp hw
  refine wpAny_getItem_heap (tupleKind_room_in1 hu) (Lp I.hok eb) dd hp ?_
  rw [hp2]
  exact h w' _ (I.tok _) rw'
theorem d_in {Q:Value->Shared->Prop} (hu:A.units + 1 < cLine) (I:Inv X pins σ H s) (g:DGet H a y o) (ry:RelV y u) (h:∀ s',Inv X pins σ H s'->Q (.bool o.isSome) s') :
  wpAny (model X.prog X.w) A (compareOp .In u (.ref a)) Q E s:=by
 rcases g with ⟨kvs,k,e,ey,l⟩ | ⟨kvs,k,b,e,ey,eb,l⟩
 ·subst ey
  obtain ⟨z,hd,vs,rel,dd⟩:=Mu I.hok e
  refine wpAny_in_of (Mt ry) hd dd.mapOf ?_
  rw [<- (rel.val k).isSome_eq,<- l]
  exact h _ (I.tok _)
 ·subst ey
  cases (show u=Value.ref b from ry)
  obtain ⟨z,hd,xs,rel,dd⟩:=Lk I.hok e
  refine wpAny_in_heap (tupleKind_room_in1 hu) (Lp I.hok eb) hd dd ?_
  have q:=(rel.val k).isSome_eq
  rw [Option.isSome_map] at q
  rw [<- q,<- l]
  exact h _ (I.tok _)
theorem Zef {h':Heap} {t':Nat} {ob:HO} (I:Inv X pins σ H s) (mu:Mut (H a)) (hs:Px a s.heap h') (he:∃ q,h'.get? a=some q) (new:ObjOk X.prog X.w (upd H a ob) h' a ob) :
  Inv X pins σ (upd H a ob) { s with heap:=h',toks:=t' } :=
 I.write (x:=a) (e:=a) mu (.inl rfl) (fun b q hb z=>(hs.2 b hb).trans z) he new
theorem Zja {P:Program} {w:World} {H':Hp} {h':Heap} {kvs:List (Ao×V)} {vs:List (Ao×Value)} (z:kvs.length<=sizeLine) (hd:(a == sysModules)=false) (rel:KV kvs vs) (dd:h'.DictOf (Dh P w) a vs) :
  ObjOk P w H' h' a (.dK kvs):=⟨z,hd,vs,rel,dd⟩
end
section
variable {X:Cx} {pins:List (Addr×Obj)} {σ:St} {H:Hp} {s:Shared} {a:Addr} {kvs:List (Ao×V)} {k:Ao} {u:Value} {A:Around} {E:Value->Shared->Prop}
end
noncomputable def Zav (i:Expr):Prop:=∀ ov iv,subscripted i false ov iv=operate [ov,iv] (getItem ov iv)
theorem Zpw {prog:Program} {w:World} {A:Around} {E:Value->Shared->Prop} {s:Shared} {env:Env} {value slice:Expr} {pos:Pos} {T id:String} {Q:Value->Shared->Prop}
  (hl:typeLookup (.type T) "__getitem__" = pure (some (.builtin id))) (hs:Zav slice)
  (h:wpAny (model prog w) A (eval value env) (fun o s₁=>wpAny (model prog w) A (eval slice env) (fun i s₂=>s₂.TypeIs o T/\wpAny (model prog w) A (getItem o i) Q E s₂) E s₁) E s) :
  wpAny (model prog w) A (eval (.Subscript value slice pos) env) Q E s:=by
 refine Subscript_ (Rf h (fun o s₁ h₁=>Rf h₁ (fun i s₂ h₂=>?_) fun _ _ x=>x) fun _ _ x=>x)
 obtain ⟨hT,h₂⟩:=h₂
 unfold subscriptTail
 refine Pe ?_
 rw [getitemInPython_of_ne hT.not_modules]
 refine Pe (We hT hl ?_)
 have fin:wpAny (model prog w) A (subscripted slice false o i) (fun r s₃=>wpAny (model prog w) A (letTemporaryGo value o r >>= fun _=>pure r) Q E s₃) E s₂:=by
  rw [hs o i]
  exact wpAny_operating (Rf h₂ (fun r s₃ h₃=>Pe (wpAny_letTemporaryGo (Pf h₃))) fun _ _ x=>x)
 first
  | exact Pf (Pe fin)
  | exact Pe (Pf (Pe fin))
  | exact Pe fin
theorem Zpt {X:Cx} {pins:List (Addr×Obj)} {σ:St} {H:Hp} {s:Shared} {a:Addr} {y:V} {o:Option V} (I:Inv X pins σ H s) (g:DGet H a y o):s.TypeIs (.ref a) "dict" := by
 rcases g with ⟨kvs,k,e,_,_⟩ | ⟨kvs,k,b,e,_,_,_⟩
 ·obtain ⟨_,_,vs,_,dd⟩:=Mu I.hok e
  exact dd.typeIs
 ·obtain ⟨_,_,xs,_,dd⟩:=Lk I.hok e
  exact dd.typeIs
noncomputable def Zgl (td ty:TE):TE:=fun σ H Q=>td σ H fun x H1=>ty σ H1 fun y H2=>∃ a v,x=.ref a/\DGet H2 a y (some v)/\Q v H2
noncomputable def tDIn (ty td:TE):TE:=fun σ H Q=>ty σ H fun y H1=>td σ H1 fun x H2=>∃ a o,x=.ref a/\DGet H2 a y o/\Q (.bl o.isSome) H2
section
variable {X:Cx} {o i e value:Expr} {pos pos' tpos:Pos} {td ty tv:TE}
theorem Zo4 (hu:X.A.units + 1 < cLine) (ho:PE X o td) (hi:PE X i ty) (hs:Zav i):PE X (.Subscript o i pos) (Zgl td ty):=by
 intro pins s σ H Q I h
 refine Zpw PySem.F.slot_dict_getitem.lookup hs (Am (ho pins s σ H _ I h) fun u s1 zq=>?_)
 obtain ⟨x,H1,I1,rx,q1⟩:=zq
 refine Am (hi pins s1 σ H1 _ I1 q1) fun iv s2 zq=>?_
 obtain ⟨y,H2,I2,ry,a,v,ex,g,q2⟩:=zq
 subst ex
 obtain rfl:u=Value.ref a:=rx
 exact ⟨Zpt I2 g,Zn3 hu I2 g ry fun w' s3 I3 rw'=>⟨v,H2,I3,rw',q2⟩⟩
theorem Zov (hu:X.A.units + 1 < cLine) (hi:PE X i ty) (ho:PE X o td):PC X .In i o (tDIn ty td):=by
 intro pins s σ H Q I h
 refine Am (hi pins s σ H _ I h) fun iv s1 zq=>?_
 obtain ⟨y,H1,I1,ry,q1⟩:=zq
 refine Am (ho pins s1 σ H1 _ I1 q1) fun u s2 zq=>?_
 obtain ⟨x,H2,I2,rx,a,ov,ex,g,q2⟩:=zq
 subst ex
 obtain rfl:u=Value.ref a:=rx
 exact d_in hu I2 g ry fun s3 I3=>⟨.bl ov.isSome,H2,I3,rfl,q2⟩
end
theorem Zjh {P:Program} {w:World} {H:Hp} (h:Heap) (hb:sysModules < h.objs.size):ObjOk P w H (h.push { cls:=.type "dict",data:=.dict #[] }) h.objs.size (.dK []) :=
 ⟨Pn _,beq_eq_false_iff_ne.mpr (Ps (Pw hb)),[],.nil,Heap.DictOf.new h⟩
theorem Zia {P:Program} {w:World} {H:Hp} (h:Heap) (hb:sysModules < h.objs.size):ObjOk P w H (h.push { cls:=.type "dict",data:=.dict #[] }) h.objs.size (.dT []) :=
 ⟨Pn _,beq_eq_false_iff_ne.mpr (Ps (Pw hb)),[],.nil,_,#[],0,Py _ rfl,⟨rfl,rfl,rfl⟩,rfl,rfl,List.nodup_nil⟩
section
variable {X:Cx} {pos:Pos}
end
section
variable {X:Cx} {pins:List (Addr×Obj)} {σ:St} {H:Hp} {s:Shared} {a:Addr} {y d:V} {u r:Value} {o:Option V} {A:Around} {E:Value->Shared->Prop}
end
section
variable {X:Cx} {o e f:Expr} {apos cpos:Pos} {td ty tx:TE}
end
section
variable {X:Cx} {pins:List (Addr×Obj)} {σ:St} {H:Hp} {s:Shared} {a:Addr} {kvs:List (Ao×V)} {A:Around} {E:Value->Shared->Prop}
end
section
variable {X:Cx} {pins:List (Addr×Obj)} {σ:St} {H:Hp} {s:Shared} {a:Addr} {y:V} {u:Value} {A:Around} {E:Value->Shared->Prop}
end
end L2
namespace PySem
theorem Zn2:typeLookup (.type "list") "keys" = pure none:=by rw [Tw,Td]; kernel_rfl
theorem Zli {prog:Program} {w:World} {A:Around} {E:Value->Shared->Prop} {s:Shared} {a:Addr} {o:Obj} {xs:Array Value} {k:Nat} {name:Str} {Q:Option Value->Shared->Prop}
  (hx:s.heap.get? a=some o) (hc:o.cls=.type "list") (hdat:o.data=.seq xs k) (hd:o.dict=none) (hmiss:typeLookup (.type "list") name=pure none) (hname:(["__module__", "__name__", "__qualname__", "__doc__", "__annotations__"]:List Str).contains name=false) (hA:A.handled=none)
  (h:∀ h' tk,(∀ b ob,s.heap.get? b=some ob->h'.get? b=some ob)->Q none { s with heap:=h',toks:=tk }) (hsz:name.length + 100<=sizeLine:=by size_fits) :
  wpAny (model prog w) A (getAttr? (.ref a) name) Q E s:=by
 obtain ⟨c,dct,dat,sl⟩:=o
 simp only at hc hdat hd
 subst hc hdat hd
 obtain ⟨hp,g,d,tk,os⟩:=s
 have hT:∀ tk',(⟨hp,g,d,tk',os⟩:Shared).TypeIs (.ref a) "list" := fun _=>⟨_,hx,rfl⟩
 have f1:=sub_AttributeError
 have f3:=Vr.lookup
 have f4:=Vr.bind (.ref a)
 have f5:=am_list_getattr_none
 unfold getAttr? getAttrBy? getAttrBy
 repeat (any_goals (first | assumption | exact hT _ | ((with_reducible show wpAny _ _ (call (Value.builtin "list.__getattribute__") _ _) _ _ _); refine Ta Vr (hT _) am_entry_list_getattribute (F.args_list_getattribute_2 _ _) (meets_getattribute_miss_list a xs k sl name _ hmiss hname hsz) ⟨hx,hA,fun h' tk' e hx'=>?_⟩) | wp_step))
 obtain ⟨t',u',he⟩:=hx'.there
 unfold getattributeRaised
 repeat (any_goals (first | assumption | wp_step))
 exact h _ _ hx'.keeps
namespace F
theorem entry_dict_update_loop:entryFor table "dict.update.loop" = some Builtin.«dict.update.loop»:=entryFor_of_tree (by kernel_rfl)
theorem plain_dict_update_loop:plainId "dict.update.loop" = true:=by decide +kernel
end F
end PySem
namespace L2
open PySem PySem.Spec PyProof.Rows
section
variable {X:Cx} {pins:List (Addr×Obj)} {σ:St} {H:Hp} {s:Shared} {a:Addr} {y v:V} {u r:Value} {A:Around} {E:Value->Shared->Prop}
theorem Zne {H':Hp} {Q:Unit->Shared->Prop} (hu:A.units < cLine) (I:Inv X pins σ H s) (g:DPut H a y v H') (ry:RelV y u) (rv:RelV v r) (h:∀ s',Inv X pins σ H' s'->Px a s.heap s'.heap->Q () s') :
  wpAny (model X.prog X.w) A (dictSet a u r) Q E s:=by
 rcases g with ⟨kvs,k,e,ey,l,eH⟩ | ⟨kvs,k,b,e,ey,eb,l,eH⟩
 ·subst ey eH
  obtain ⟨z,hd,vs,rel,dd⟩:=Zht I.hok e
  have hz:vs.length<=sizeLine:=by rw [<- rel.length]; exact z
  have hl:(Co kvs k v).length<=sizeLine:=by have:=Oi kvs k v; omega
  refine wpAny_dictSet_pairs (hsz:=hz) (Mt ry) dd fun h' dd' hs=>h _ ?_ hs
  have he:∃ q,h'.get? a=some q:=let ⟨q,_,_,hq,_⟩:=dd'; ⟨q,hq⟩
  exact Zef I (by rw [e]; exact True.intro) hs he (Zja hl hd (rel.put k rv) dd')
 ·subst ey eH
  cases (show u=Value.ref b from ry)
  obtain ⟨z,hd,xs,rel,dd⟩:=Zhv I.hok e
  have hz:xs.length<=sizeLine:=by rw [<- U9 rel]; exact z
  have hl:(Co kvs k v).length<=sizeLine:=by have:=Oi kvs k v; omega
  refine wpAny_dictSet_heap (hsz:=hz) hu (Lp I.hok eb) dd fun h' dd' hs=>h _ ?_ hs
  obtain ⟨q,es,ep,hq,h2,h3,h4,_,h5⟩:=dd'
  refine Zef I (by rw [e]; exact True.intro) hs ⟨q,hq⟩ ⟨hl,hd,_,(rel.put k eb rv).keeps fun c ys ec=>?_,q,es,ep,hq,h2,h3,h4,h5⟩
  rw [Af (Df ec e (fun z=>nomatch z))]
  exact ec
theorem Zm7 {R:Result->Shared->Prop} {p it d:Addr} {xs:List V} {Hs:Nat->Hp} {res:Value} (hh:A.handled=none) (hu:A.units + 1 < cLine) (hdi:d≠it) (hd:∀ i,i<=xs.length->SqL X.K (Hs i) p xs) (hf:∀ i,FpOk X pins (Hs i) it)
  (hs:∀ i x,xs[i]?=some x->∃ (c:Addr) (y v:V),x=.ref c/\SqT X.K (Hs i) c [y,v]/\DPut (Hs i) d y v (Hs (i + 1)))
  (fin:∀ s',Inv X pins σ (Hs xs.length) s'->R (.ok (.ret res)) s') :
  ∀ (k i:Nat) (s:Shared),xs.length - i=k->i<=xs.length->Inv X pins σ (Hs i) s->s.heap.IsListIter it p i ->
  codeAny (model X.prog X.w) A (.builtin "dict.update.loop" ⟨[.ref d,.ref it,rawInt i,res],[]⟩) R s:=by
 intro k
 induction k with
 | zero =>
  intro i s hk hi I st
  have hin:i=xs.length:=by omega
  subst hin
  obtain ⟨its,rv,pl,hz⟩:=I.list (hd _ hi)
  obtain ⟨f0,f1,f2,f3,f4,f5⟩:=hf xs.length
  have hl:=rv.length
  refine Sq PySem.F.entry_dict_update_loop ?_
  rw [Sb PySem.F.plain_dict_update_loop _]
  show wpAny _ A.in1 (pyNext (.ref it) >>= _) _ _ s
  refine Pe (wpAny_pyNext_list_end hh st pl.isList (by simp; omega) fun h' eb=>?_)
  have I':=I.turned (t':=s.toks) (fun b o hb e=>eb b o hb e) f0 f1 f3 f4 f5
  exact Pe (Pf (Pf (fin _ I')))
 | succ k ih =>
  intro i s hk hi I st
  have hlt:i < xs.length:=by omega
  obtain ⟨its,rv,pl,hz⟩:=I.list (hd _ hi)
  obtain ⟨c,y,v,ex,hc,hput⟩:=hs i _ (Pg hlt)
  obtain ⟨u,hu',ru⟩:=rv.get (Pg hlt)
  rw [ex] at ru
  cases ru
  obtain ⟨f0,f1,f2,f3,f4,f5⟩:=hf i
  refine Sq PySem.F.entry_dict_update_loop ?_
  rw [Sb PySem.F.plain_dict_update_loop _]
  show wpAny _ A.in1 (pyNext (.ref it) >>= _) _ _ s
  refine Pe (wpAny_pyNext_list_item st pl.isList (x:=.ref c) (by simpa using hu') fun h' st' sb=>?_)
  have I1:Inv X pins σ (Hs i) { s with heap:=h' }:=I.turned (t':=s.toks) (fun b o hb e=>(sb.2 b hb).trans e) f0 f1 f3 f4 f5
  obtain ⟨its2,rv2,pt,hz2⟩:=I1.tuple hc
  obtain ⟨u1,u2,rfl,r1,r2⟩:∃ u1 u2,its2=[u1,u2]/\RelV y u1/\RelV v u2:=by
   cases rv2 with
   | cons r1 t=>cases t with
    | cons r2 t=>cases t; exact ⟨_,_,rfl,r1,r2⟩
  obtain ⟨ot,et,ct,nt,dt⟩:=pt
  obtain ⟨oc,od,oda,osl⟩:=ot
  cases ct
  cases dt
  refine Pe (Rm ?_)
  refine Pe (wpAny_tryCatch ?_)
  have hT:(⟨h',s.gens,s.drawn,s.toks,s.os⟩:Shared).TypeIs (.ref c) "tuple" := ⟨_,et,rfl⟩
  unfold Builtin.Dict.pairItems
  refine Pe (Sy hT ?_)
  rw [if_pos (by decide)]
  refine Pe ?_
  unfold seqItems?
  refine Pe (wpAny_load et (Pf (Pf ?_)))
  show wpAny _ A.in1 (holding [u1,u2] (dictSet d u1 u2)) _ _ _
  refine Rm (Zne (by exact hu) I1 hput r1 r2 fun s2 I2 sb2=>?_)
  refine Pf ⟨Ss PySem.F.plain_dict_update_loop _,?_⟩
  have e1:rawInt ((i:Int) + 1)=rawInt (((i + 1:Nat)):Int):=rfl
  rw [e1]
  exact ih (i + 1) s2 (by omega) hlt I2 (st'.at fun o e=>(sb2.2 it (Ps hdi)).trans e)
noncomputable def Br {κ:Type} [DecidableEq κ] (kvs:List (κ×V)) (l:List (κ×V)):List (κ×V):=l.foldl (fun a kv=>Co a kv.1 kv.2) kvs
theorem Zcg {κ:Type} [DecidableEq κ] (l:List (κ×V)):∀ kvs:List (κ×V),(Br kvs l).length<=kvs.length + l.length:=by
 induction l with
 | nil=>intro kvs; exact Ph _
 | cons kv r ih =>
  intro kvs
  have h1:=ih (Co kvs kv.1 kv.2)
  have h2:=Oi kvs kv.1 kv.2
  rw [P9]
  show (Br (Co kvs kv.1 kv.2) r).length<=_
  omega
theorem Ze7 {κ:Type} [DecidableEq κ] {l:List (κ×V)} {i:Nat} {kv:κ×V} (h:l[i]?=some kv) (kvs:List (κ×V)):Br kvs (l.take (i + 1))=Co (Br kvs (l.take i)) kv.1 kv.2:=by
 unfold Br
 rw [Rj,h,List.foldl_append]
 rfl
noncomputable def Zem (K:Pd):List V->Hp->VK->Prop:=fun xs H Q=>∃ (p:Addr) (vs:List V),xs=[.ref p]/\SqL K H p vs /\
 ((∃ kvs:List (Ao×V),Al (fun x (kv:Ao×V)=>∃ a,x=.ref a/\SqT K H a [kV kv.1,kv.2]) vs kvs/\∀ d,H d=none->Q (.ref d) (upd H d (.dK (Br [] kvs)))) \/
   (∃ kvs:List (List Ao×V),Al (fun x (kv:List Ao×V)=>∃ a b,x=.ref a/\SqT K H a [.ref b,kv.2]/\H b=some (.tup (kv.1.map kV))) vs kvs/\∀ d,H d=none->Q (.ref d) (upd H d (.dT (Br [] kvs)))))
theorem Zdm {p:Addr} {vs:List V} {Q:VK} {Hs:Nat->Hp} (hu:A.units + 3 < cLine) (hh:A.handled=none) (I:Inv X pins σ H s) (hq:SqL X.K H p vs) (d:Addr) (hdd:d=s.heap.objs.size)
  (h0:Inv X pins σ (Hs 0) { s with heap:=s.heap.push { cls:=.type "dict",data:=.dict #[] } }) (hs0:∀ i b,H b=none->b≠d->Hs i b=none) (hsd:∀ i,i<=vs.length->SqL X.K (Hs i) p vs)
  (hs:∀ i x,vs[i]?=some x->∃ (c:Addr) (y v:V),x=.ref c/\SqT X.K (Hs i) c [y,v]/\DPut (Hs i) d y v (Hs (i + 1))) (q:Q (.ref d) (Hs vs.length)) :
  wpAny (model X.prog X.w) A (call (.type "dict") [.ref p]) (EP X pins σ Q) E s:=by
 refine callType_codes (Q₁:=fun obj s₁=>obj=.ref s.heap.objs.size/\s₁={ s with heap:=s.heap.push { cls:=.type "dict",data:=.dict #[] } }) F.kt_called_dict (F.kt_typeCall_dict_1 _) F.entry_dict_init (kt_code_dict_new _ ⟨rfl,rfl⟩) ?_
 rintro obj s₁ ⟨rfl,rfl⟩
 have hnT:({ s with heap:=s.heap.push { cls:=.type "dict",data:=.dict #[] } }:Shared).TypeIs (.ref s.heap.objs.size) "dict" := ⟨_,Py _ rfl,rfl⟩
 refine ⟨hnT,F.args_dict_init_2 _ _,?_⟩
 unfold Builtin.«dict.__init__»
 refine Pe ?_
 unfold Builtin.Dict.selfAndRest
 refine Pe (wpAny_notOrdered_dict hnT ?_)
 show wpAny _ _ (pure (s.heap.objs.size,[Value.ref p])) _ _ _
 refine Pf ?_
 show wpAny _ _ (Builtin.Dict.updateFrom "dict.__init__" s.heap.objs.size (.ref p) [] .none) _ _ _
 subst hdd
 obtain ⟨its,rv,pl,hz⟩:=h0.list (hsd 0 (Pn _))
 have hsz:s.heap.objs.size < (s.heap.push { cls:=Value.type "dict",data:=Data.dict #[] }).objs.size:=by rw [Qf]; exact Uy _
 generalize hs1:({ s with heap:=s.heap.push { cls:=.type "dict",data:=.dict #[] } }:Shared)=s1 at *
 have hsz1:s.heap.objs.size < s1.heap.objs.size:=by rw [<- hs1]; exact hsz
 obtain ⟨ol,nl,el,cl,dn,dl⟩:=pl
 unfold Builtin.Dict.updateFrom
 refine Pe (Sy ⟨_,el,cl⟩ ?_)
 rw [if_pos (by decide)]
 refine Pe (Zli el cl dl dn Zn2 (by decide +kernel) hh (fun h2 tk2 kp=>?_) (by decide +kernel))
 rw [if_pos (by decide)]
 refine Pe (Tb ?_)
 have I2:Inv X pins σ (Hs 0) { s1 with heap:=h2,toks:=tk2 }:=h0.kept kp
 have pl2:h2.IsList p its.toArray:=⟨ol,kp _ _ el,cl,nl,dl⟩
 refine Pe (Tl pl2 ?_)
 have hsz2:s.heap.objs.size < h2.objs.size:=by
  obtain ⟨on,en,_⟩:=hnT
  exact Pl (kp _ _ en)
 have hHn:∀ i,Hs i h2.objs.size=none:=fun i=>hs0 i _ (I.hok.fresh (T4 hsz2)) (Ql hsz2)
 refine Pf ⟨Ss PySem.F.plain_dict_update_loop _,Zm7 (A:=A.in1) (Hs:=Hs) (xs:=vs) (p:=p) hh (by show A.units + 1 + 1 < cLine; omega) (Pw hsz2) hsd (fun i=>I2.fpOk (Ph _) (hHn i)) hs (fun s' I'=>?_) vs.length 0 _ rfl (Pn _) (I2.kept (t':=tk2) fun b o e=>Pj _ e) ⟨_,Py _ rfl,rfl,rfl⟩⟩
 exact ⟨rfl,.ref s.heap.objs.size,_,I',rfl,q⟩
theorem Zgw (hu:X.A.units + 3 < cLine) (hh:X.calm=true):Cv X (.type "dict") (Zem X.K):=by
 intro pins s σ H xs us Q I r h
 obtain ⟨p,vs,rfl,hq,h⟩:=h
 obtain ⟨u,rfl,rx⟩:=Ja r
 cases rx
 have hf:H s.heap.objs.size=none:=I.hok.fresh (Ph _)
 have hpd:p≠s.heap.objs.size:=by
  obtain ⟨its,rv,⟨o,n,e,_⟩,hz⟩:=I.list hq
  exact Pw (Pl e)
 have hn:vs.length<=sizeLine:=by
  obtain ⟨its,rv,_,hz⟩:=I.list hq
  exact hz
 rcases h with ⟨kvs,al,q⟩ | ⟨kvs,al,q⟩
 ·refine Zdm (Hs:=fun i=>upd H s.heap.objs.size (.dK (Br [] (kvs.take i)))) hu (I.ok.hd hh) I hq s.heap.objs.size rfl (I.laid (a:=s.heap.objs.size) (o:=.dK []) (t':=s.toks) (fun _ _ q=>Pj _ q) (Ph _) (Zjh s.heap I.big)) (fun i b hb hd=>by show upd H _ _ b=none; rw [Af hd]; exact hb) (fun i _=>(Same.upd hf).seq hq) (fun i x hx=>?_) ?_
  ·obtain ⟨kv,hkv,c,rfl,hc⟩:=al.get hx
   have hi:i < vs.length:=(Pq.mp hx).1
   refine ⟨c,_,_,rfl,(Same.upd hf).tup hc,?_⟩
   show DPut _ _ _ _ (upd H s.heap.objs.size (.dK (Br [] (kvs.take (i + 1)))))
   rw [Ze7 hkv]
   have hl:(Br [] (kvs.take i)).length < sizeLine:=by have:=Zcg (kvs.take i) ([]:List (Ao×V)); rw [Qe] at this; simp only [Q9] at this; omega
   have r:=DPut.k (H:=upd H s.heap.objs.size (.dK (Br [] (kvs.take i)))) (k:=kv.1) (v:=kv.2) Ad hl
   rw [Gb] at r
   exact r
  ·show Q _ (upd H s.heap.objs.size (.dK (Br [] (kvs.take vs.length))))
   rw [al.1,Ts]
   exact q _ hf
 ·refine Zdm (Hs:=fun i=>upd H s.heap.objs.size (.dT (Br [] (kvs.take i)))) hu (I.ok.hd hh) I hq s.heap.objs.size rfl (I.laid (a:=s.heap.objs.size) (o:=.dT []) (t':=s.toks) (fun _ _ q=>Pj _ q) (Ph _) (Zia s.heap I.big)) (fun i b hb hd=>by show upd H _ _ b=none; rw [Af hd]; exact hb) (fun i _=>(Same.upd hf).seq hq) (fun i x hx=>?_) ?_
  ·obtain ⟨kv,hkv,c,b,rfl,hc,hb⟩:=al.get hx
   have hi:i < vs.length:=(Pq.mp hx).1
   refine ⟨c,_,_,rfl,(Same.upd hf).tup hc,?_⟩
   show DPut _ _ _ _ (upd H s.heap.objs.size (.dT (Br [] (kvs.take (i + 1)))))
   rw [Ze7 hkv]
   have hl:(Br [] (kvs.take i)).length < sizeLine:=by have:=Zcg (kvs.take i) ([]:List (List Ao×V)); rw [Qe] at this; simp only [Q9] at this; omega
   have r:=DPut.t (H:=upd H s.heap.objs.size (.dT (Br [] (kvs.take i)))) (v:=kv.2) Ad ((Same.upd hf) _ _ hb) hl
   rw [Gb] at r
   exact r
  ·show Q _ (upd H s.heap.objs.size (.dT (Br [] (kvs.take vs.length))))
   rw [al.1,Ts]
   exact q _ hf
end
end L2
namespace L2
open PySem PySem.Spec PyProof.Rows
theorem Room.u1 {k:Nat} {A:Around} (r:Room k A):A.units + 1 < cLine:=by have:=r.u200; omega
section
variable {X:Cx} {k:Nat} {x m f:Str} {ps:List Str} {sp:Sp} {E:XK} {C:Addr} {p pos pos' tpos apos:Pos} {e o i value:Expr} {es:List Expr} {ta tv td ty:TE} {t:TA} {CX:B3} {P:Program} {w:World} {mg:Str->Option Value} {base:Heap} {K:Pd}
theorem Zgh (K:Pd) (CX:B3) (ps:List Str) {pl:Sem Bool} (he:QE X o ta) (hr:Room k X.A) (hx:E2 CX X E) (hP:X.prog=P:=by rfl) (hw:X.w=w:=by rfl) (hK:X.K=K:=by rfl) (hmg:X.mg=mg:=by rfl) (hbs:X.base=base:=by rfl)
  (ht:eval (.Call (.Attribute o m apos) [] [] pos) X.env=(do
   let ov <- eval o X.env
   standAt apos.atName
   let (f,first) <- holding [ov] (getMethod ov m pl)
   callWith pos f first (backTo pos (starEach [] X.env)) (backToKw pos (keywordEach [] X.env))):=by rfl) :
  QE X (.Call (.Attribute o m apos) [] [] pos) (Zbz CX P w K mg base k m ps E ta J8):=by
 subst hP hw hK hmg hbs
 refine ⟨fun pins s σ H Q I h=>?_⟩
 refine PySem.W.methodCall_KW (pl:=pl) (Am (he.run pins s σ H _ I h) fun u s1 zq=>?_) ht
 obtain ⟨x,H1,I1,rx,a,C,dx,fs,sp,ex,ea,l,M,q⟩:=zq
 obtain ⟨g,fd,F,c,hm,hb⟩:=M.ex
 subst ex
 obtain rfl:u=Value.ref a:=rx
 refine Zdd I1 ea c hm l ?_
 exact PySem.W.callWith_K0 (first:=[.ref a]) I1.kIn hm.kp (Zbl (us:=[.ref a]) (vs:=[.ref a]) (dvs:=[]) F hr hb .nil hx I1 (.cons rfl .nil) q)
theorem Zcm (K:Pd) {op:Operator} {rd:V->V->Hp->VK->Prop} (ha:QE X o ta) (hv:QE X value tv) (hop:Za4 X op rd) (hK:X.K=K:=by rfl):QS X (.AugAssign (.Attribute o f tpos) op value pos) (Ze5 K ta tv rd f):=by subst hK; exact ⟨Zjd ha.run hv.run hop⟩
theorem Zfx (K:Pd) (hu:X.A.units + 200 < cLine) (hh:X.calm=true) (hK:X.K=K:=by rfl):Cv X (.type "dict") (Zem K):=by subst hK; exact Zgw (by omega) hh
theorem Jn (hu:X.A.units + 1 < cLine) (ho:QE X o td) (hi:QE X i ty) (hs:Zav i):QE X (.Subscript o i pos) (Zgl td ty):=⟨Zo4 hu ho.run hi.run hs⟩
theorem Zgs (hu:X.A.units + 1 < cLine) (hi:QE X i ty) (ho:QE X o td):QC X .In i o (tDIn ty td):=⟨Zov hu hi.run ho.run⟩
noncomputable def O3 (K:Pd):R2:=fun x y H Q=>G0 K x y H Q\/∃ (a b:Addr) (xs ys:List V),x=.ref a/\y=.ref b/\H a=some (.tup xs)/\H b=some (.tup ys)/\xs.length + ys.length<=sizeLine/\∀ p H',Same H H'->H' p=some (.tup (xs++ys))->Q (.ref p) H'
theorem Zid:OpR X (binaryOp .Add) (O3 X.K):=by
 refine op_addA.or ?_
 intro pins s σ H x y v u Q I rx ry h
 obtain ⟨a,b,xs,ys,rfl,rfl,ha,hb,hz,q⟩:=h
 have ha':SqT X.K H a xs:=SqT.of ha
 have hb':SqT X.K H b ys:=SqT.of hb
 by_cases hx:xs=[]
 ·subst hx
  cases rx
  cases ry
  obtain ⟨its,r1,p1,_⟩:=I.tuple ha'
  obtain ⟨its2,r2,p2,_⟩:=I.tuple hb'
  cases r1
  obtain ⟨⟨cls,dd,data,sl⟩,ho,hc,n,hd⟩:=id p1
  obtain ⟨⟨cls2,dd2,data2,sl2⟩,ho2,hc2,n2,hd2⟩:=id p2
  simp only at hc hd hc2 hd2
  subst hc hd hc2 hd2
  exact Vf ⟨_,ho,rfl⟩ ⟨_,ho2,rfl⟩ Uz Va Um Uj (Ug _ _)
   (tuple_addW0 a b _ _ n n2 dd dd2 sl sl2 (by simp)) ⟨ho,ho2,⟨.ref b,H,I,rfl,q b H (Same.refl H) hb⟩⟩
 ·refine Zdn pins s σ H _ _ v u Q I rx ry ⟨a,b,xs,ys,rfl,rfl,ha',hb',hx,hz,fun e=>?_,fun _ p hp=>q p _ (fun c o e=>by rw [Af (Ca e hp)]; exact e) Ad⟩
  subst e
  exact q a H (Same.refl H) (by rw [Qo]; exact ha)
theorem Ir (K:Pd) (hK:X.K=K:=by rfl):OpR X (binaryOp .Add) (O3 K):=by subst hK; exact Zid
theorem Ma {a b:Addr} {xs ys:List V} {H:Hp} {Q:VK} (ha:H a=some (.tup xs)) (hb:H b=some (.tup ys)) (hz:xs.length + ys.length<=sizeLine) (h:∀ p H',Same H H'->H' p=some (.tup (xs++ys))->Q (.ref p) H'):O3 K (.ref a) (.ref b) H Q:=.inr ⟨a,b,xs,ys,rfl,rfl,ha,hb,hz,h⟩
end
end L2
namespace L2
open PySem
noncomputable def RowT (K:Pd) (H:Hp) (v:V) (x:List Nat×Tr):Prop:=∃ (a p:Addr) (u:V),v=.ref a/\SqT K H a [.ref p,u]/\H p=some (.tup (A1 x.1))/\TrAt K H u x.2
theorem RowT.same {K:Pd} {H H':Hp} (e:SameT H H') (v:V) (x:List Nat×Tr) (h:RowT K H v x):RowT K H' v x:=by
 obtain ⟨a,p,u,r,q,qp,t⟩:=h
 exact ⟨a,p,u,r,e.tup q,(e p).1 _ qp,t.sameT e⟩
theorem Zk3 {κ:Type} [DecidableEq κ] (l:List (κ×V)) (kv:κ×V) (kvs:List (κ×V)):Br kvs (l++[kv])=Co (Br kvs l) kv.1 kv.2:=by
 unfold Br
 rw [List.foldl_append]
 rfl
noncomputable def Ds {κ:Type} [DecidableEq κ] (l:List (κ×V)) (k:κ):Option V:=(l.reverse.find? fun kv=>decide (kv.1=k)).map (·.2)
theorem Zaz {κ:Type} [DecidableEq κ] (l:List (κ×V)) (kv:κ×V) (k:κ):Ds (l++[kv]) k=if kv.1=k then some kv.2 else Ds l k:=by
 unfold Ds
 rw [Sc,Uo,Vw,Qx]
 by_cases h:kv.1=k
 ·simp [h]
 ·simp [h]
theorem Lg {α:Type} {P:List α->Prop} (h0:P []) (h1:∀ l x,P l->P (l++[x])) (l:List α):P l:=by
 rw [<- l.reverse_reverse]
 induction l.reverse with
 | nil=>exact h0
 | cons x r ih=>rw [V7]; exact h1 _ _ ih
theorem Zbb {κ:Type} [DecidableEq κ] (l:List (κ×V)) (k:κ):Bu (Br [] l) k=Ds l k:=by
 refine Lg (P:=fun l=>Bu (Br [] l) k=Ds l k) rfl (fun l kv ih=>?_) l
 rw [Zk3,Zaz,Zqz,ih]
 by_cases h:kv.1=k
 ·rw [if_pos h,if_pos h.symm]
 ·rw [if_neg h,if_neg (Ps h)]
structure Wt where
 pl:List Nat
 ar:List (Str×Str×V)
 came:Bool
structure MS where
 rows:List Rx
 wait:List Wt
 things:List (Str×V)
 steps:Int
noncomputable def Ap (pl:List Nat):List Int:=pl.map fun i:Nat=>((i:Nat):Int)
theorem B9 (pl:List Nat):(Ap pl).map V.int=A1 pl:=by unfold Ap A1; rw [List.map_map]; rfl
noncomputable def C0 (pl:List Nat):List Ao:=pl.map fun i:Nat=>Sum.inl ((i:Nat):Int)
theorem Ke (pl:List Nat):(C0 pl).map kV=A1 pl:=by unfold C0 A1; rw [List.map_map]; rfl
noncomputable def WtAt (K:Pd) (A:Addr->Prop) (H:Hp) (v:V) (x:Wt):Prop:=∃ (a p e:Addr) (ev:List V),v=.ref a/\SqT K H a [.ref p,.ref e,.bl x.came]/\H p=some (.tup (A1 x.pl))/\H e=some (.lst ev)/\Al (PrAt K H) ev x.ar/\¬ A e
theorem WtAt.same {K:Pd} {A:Addr->Prop} {H H':Hp} (s:SameA A H H') (v:V) (x:Wt) (h:WtAt K A H v x):WtAt K A H' v x:=by
 obtain ⟨a,p,e,ev,h1,h2,h3,h4,h5,h6⟩:=h
 exact ⟨a,p,e,ev,h1,s.1.tup h2,(s.1 p).1 _ h3,s.2 _ _ h6 h4,h5.mono (PrAt.same s.1),h6⟩
theorem WtAt.mono {K:Pd} {A B:Addr->Prop} {H:Hp} (s:∀ b,B b->H b≠none->A b) (v:V) (x:Wt) (h:WtAt K A H v x):WtAt K B H v x:=by
 obtain ⟨a,p,e,ev,h1,h2,h3,h4,h5,h6⟩:=h
 exact ⟨a,p,e,ev,h1,h2,h3,h4,h5,fun b=>h6 (s e b (by rw [h4]; simp))⟩
noncomputable def RwX (K:Pd) (A:Addr->Prop) (H:Hp) (v:V) (x:Rx):Prop:=RwAt K A H v x/\∃ (a p o e:Addr),v=.ref a/\SqT K H a [.str x.wd,.ref p,.ref o,.ref e]/\H p=some (.tup (x.pl.map V.int))
theorem RwX.same {K:Pd} {A:Addr->Prop} {H H':Hp} (s:SameA A H H') (v:V) (x:Rx) (h:RwX K A H v x):RwX K A H' v x:=by
 obtain ⟨h1,a,p,o,e,r,q,t⟩:=h
 exact ⟨RwAt.same s v x h1,a,p,o,e,r,s.1.tup q,(s.1 p).1 _ t⟩
theorem RwX.mono {K:Pd} {A B:Addr->Prop} {H:Hp} (s:∀ b,B b->H b≠none->A b) (v:V) (x:Rx) (h:RwX K A H v x):RwX K B H v x:=⟨RwAt.mono s v x h.1,h.2⟩
noncomputable def RwO (K:Pd) (A:Addr->Prop) (H:Hp) (v:V) (y:Rx×Addr×Addr):Prop:=∃ (a p:Addr) (ov ev:List V),v=.ref a/\SqT K H a [.str y.1.wd,.ref p,.ref y.2.1,.ref y.2.2]/\SqT K H p (y.1.pl.map V.int)/\H y.2.1=some (.lst ov)/\Al (ThAt K H) ov y.1.ops/\H y.2.2=some (.lst ev)/\Al (PrAt K H) ev y.1.ar/\¬ A y.2.1/\¬ A y.2.2/\y.2.1≠y.2.2
theorem RwO.same {K:Pd} {A:Addr->Prop} {H H':Hp} (s:SameA A H H') (v:V) (y:Rx×Addr×Addr) (h:RwO K A H v y):RwO K A H' v y:=by
 obtain ⟨a,p,ov,ev,h1,h2,h3,h4,h5,h6,h7,h8,h9,hn⟩:=h
 exact ⟨a,p,ov,ev,h1,s.1.tup h2,s.1.tup h3,s.2 _ _ h8 h4,h5.mono (ThAt.same s.1),s.2 _ _ h9 h6,h7.mono (PrAt.same s.1),h8,h9,hn⟩
theorem RwO.mono {K:Pd} {A B:Addr->Prop} {H:Hp} (s:∀ b,B b->H b≠none->A b) (v:V) (y:Rx×Addr×Addr) (h:RwO K A H v y):RwO K B H v y:=by
 obtain ⟨a,p,ov,ev,h1,h2,h3,h4,h5,h6,h7,h8,h9,hn⟩:=h
 exact ⟨a,p,ov,ev,h1,h2,h3,h4,h5,h6,h7,fun b=>h8 (s _ b (by rw [h4]; simp)),fun b=>h9 (s _ b (by rw [h6]; simp)),hn⟩
noncomputable def SepR (K:Pd) (A:Addr->Prop) (H:Hp) (rv:List V) (rs:List Rx):Prop:=∃ ys:List (Rx×Addr×Addr),ys.map (·.1)=rs/\Al (RwO K A H) rv ys/\∀ (i j:Nat) (x y:Rx×Addr×Addr),ys[i]?=some x->ys[j]?=some y->i < j->x.2.1≠y.2.1/\x.2.1≠y.2.2/\x.2.2≠y.2.1/\x.2.2≠y.2.2
theorem SepR.nil {K:Pd} {A:Addr->Prop} {H:Hp}:SepR K A H [] []:=⟨[],rfl,.nil,fun i j x y h=>by simp at h⟩
theorem SepR.same {K:Pd} {A:Addr->Prop} {H H':Hp} {rv:List V} {rs:List Rx} (h:SepR K A H rv rs) (s:SameA A H H'):SepR K A H' rv rs:=by
 obtain ⟨ys,e,al,d⟩:=h
 exact ⟨ys,e,al.mono (RwO.same s),d⟩
theorem SepR.mono {K:Pd} {A B:Addr->Prop} {H:Hp} {rv:List V} {rs:List Rx} (h:SepR K A H rv rs) (s:∀ b,B b->H b≠none->A b):SepR K B H rv rs:=by
 obtain ⟨ys,e,al,d⟩:=h
 exact ⟨ys,e,al.mono (RwO.mono s),d⟩
theorem SepR.add {K:Pd} {A:Addr->Prop} {H H':Hp} {rv:List V} {rs:List Rx} {v:V} {y:Rx×Addr×Addr} (h:SepR K A H rv rs) (s:Same H H') (ho:H y.2.1=none) (he:H y.2.2=none) (q:RwO K A H' v y):SepR K A H' (rv++[v]) (rs++[y.1]):=by
 obtain ⟨ys,er,al,d⟩:=h
 refine ⟨ys++[y],by rw [Qy,er]; rfl,(al.mono (RwO.same s.a)).snoc q,fun i j x z hi hj hij=>?_⟩
 have hjl:j < (ys++[y]).length:=(Pq.mp hj).1
 rw [Pi,Pr] at hjl
 have hil:i < ys.length:=by omega
 rw [Qa hil] at hi
 by_cases hjl2:j < ys.length
 ·rw [Qa hjl2] at hj
  exact d i j x z hi hj hij
 ·have ej:j=ys.length:=by omega
  rw [ej] at hj
  simp at hj
  obtain ⟨v',hv⟩:∃ v,rv[i]?=some v:=⟨_,Pg (by rw [al.1]; exact hil)⟩
  obtain ⟨x',hx',a2,p2,os2,es2,g1,g2,g3,g4,g5,g6,g7,g8,g9,_⟩:=al.get hv
  rw [hi] at hx'
  cases hx'
  rw [<- hj]
  exact ⟨fun z=>(by rw [z,ho] at g4; cases g4),fun z=>(by rw [z,he] at g4; cases g4),fun z=>(by rw [z,ho] at g6; cases g6),fun z=>(by rw [z,he] at g6; cases g6)⟩
structure Ml where
 m:Addr
 dx:Addr
 fd:Addr
 rd:Addr
 wd:Addr
 td:Addr
noncomputable def Ml.A (L:Ml) (b:Addr):Prop:=b=L.rd\/b=L.wd\/b=L.td
noncomputable def Ml.fs (L:Ml) (n:Int):List (Str×V):=[("forms",.ref L.fd),("rows",.ref L.rd),("waiting",.ref L.wd),("things",.ref L.td),("steps",.int n)]
structure MAt (K:Pd) (HB:Hp) (C:Addr) (kvs:List (List Ao×V)) (L:Ml) (H:Hp) (S:MS):Prop where
 base:Same HB H
 nm:HB L.m=none
 nr:HB L.rd=none
 nw:HB L.wd=none
 nt:HB L.td=none
 ins:H L.m=some (.ins C L.dx (L.fs S.steps))
 frm:H L.fd=some (.dT kvs)
 rw:L.rd≠L.wd
 rt:L.rd≠L.td
 wt:L.wd≠L.td
 rows:∃ rv,H L.rd=some (.lst rv)/\Al (RwX K (fun b=>L.A b\/HB b≠none) H) rv S.rows/\SepR K (fun b=>L.A b\/HB b≠none) H rv S.rows
 wait:∃ wv,H L.wd=some (.lst wv)/\Al (WtAt K L.A H) wv S.wait
 things:∃ tv,H L.td=some (.lst tv)/\Al (ThAt K H) tv S.things
noncomputable def SameM (L:Ml) (H H':Hp):Prop:=∀ b o,b≠L.m->¬ L.A b->H b=some o->H' b=some o
theorem SameM.refl (L:Ml) (H:Hp):SameM L H H:=fun _ _ _ _ h=>h
theorem SameM.trans {L:Ml} {H H1 H2:Hp} (a:SameM L H H1) (b:SameM L H1 H2):SameM L H H2:=fun c o h1 h2 h=>b c o h1 h2 (a c o h1 h2 h)
theorem _root_.L2.Same.m {H H':Hp} (e:Same H H') (L:Ml):SameM L H H':=fun b o _ _ h=>e b o h
theorem SameM.trans' {L L':Ml} {H H1 H2:Hp} (a:SameM L H H1) (b:SameM L' H1 H2) (hm:L'.m=L.m) (hr:L'.rd=L.rd) (hw:L'.wd=L.wd) (ht:L'.td=L.td\/H L'.td=none):SameM L H H2:=fun c o h1 h2 h=>by
 refine b c o (by rw [hm]; exact h1) ?_ (a c o h1 h2 h)
 rintro (z | z | z)
 ·exact h2 (.inl (z.trans hr))
 ·exact h2 (.inr (.inl (z.trans hw)))
 ·rcases ht with e | e
  ·exact h2 (.inr (.inr (z.trans e)))
  ·rw [<- z,h] at e
   cases e
section
variable {K:Pd} {HB H H':Hp} {C:Addr} {kvs:List (List Ao×V)} {L:Ml} {S:MS}
theorem MAt.ne {o:HO} (M:MAt K HB C kvs L H S) {b:Addr} (h:H b=some o) (hi:∀ c d f,o≠.ins c d f) (hl:∀ xs,o≠.lst xs):b≠L.m/\¬ L.A b:=by
 obtain ⟨rv,er,_⟩:=M.rows
 obtain ⟨wv,ew,_⟩:=M.wait
 obtain ⟨tv,et,_⟩:=M.things
 refine ⟨fun z=>?_,?_⟩
 ·rw [z,M.ins] at h; cases h; exact hi _ _ _ rfl
 ·rintro (z | z | z)
  ·rw [z,er] at h; cases h; exact hl _ rfl
  ·rw [z,ew] at h; cases h; exact hl _ rfl
  ·rw [z,et] at h; cases h; exact hl _ rfl
theorem MAt.a (M:MAt K HB C kvs L H S) (e:SameM L H H'):SameA L.A H H':=by
 refine ⟨fun b=>⟨fun xs h=>?_,fun o u h=>?_⟩,fun b xs n h=>?_⟩
 ·obtain ⟨h1,h2⟩:=M.ne h (fun _ _ _ z=>nomatch z) (fun _ z=>nomatch z)
  exact e b _ h1 h2 h
 ·obtain ⟨h1,h2⟩:=M.ne h (fun _ _ _ z=>nomatch z) (fun _ z=>nomatch z)
  exact e b _ h1 h2 h
 ·refine e b _ (fun z=>?_) n h
  rw [z,M.ins] at h
  cases h
theorem MAt.t (M:MAt K HB C kvs L H S) (e:SameM L H H'):SameT H H':=(M.a e).1
theorem MAt.outer (M:MAt K HB C kvs L H S) (e:SameM L H H'):Same HB H':=fun b o h=>by
 refine e b o (fun z=>?_) ?_ (M.base b o h)
 ·rw [z,M.nm] at h; cases h
 ·rintro (z | z | z)
  ·rw [z,M.nr] at h; cases h
  ·rw [z,M.nw] at h; cases h
  ·rw [z,M.nt] at h; cases h
theorem MAt.big (M:MAt K HB C kvs L H S) (e:SameM L H H'):SameA (fun b=>L.A b\/HB b≠none) H H':=(M.a e).mono fun _ h=>.inl h
theorem MAt.new (M:MAt K HB C kvs L H S) (e:Same H H'):MAt K HB C kvs L H' S:=by
 obtain ⟨rv,er,ar,sp⟩:=M.rows
 obtain ⟨wv,ew,aw⟩:=M.wait
 obtain ⟨tv,et,at_⟩:=M.things
 exact ⟨M.base.trans e,M.nm,M.nr,M.nw,M.nt,e _ _ M.ins,e _ _ M.frm,M.rw,M.rt,M.wt,⟨rv,e _ _ er,ar.mono (RwX.same e.a),sp.same e.a⟩,⟨wv,e _ _ ew,aw.mono (WtAt.same e.a)⟩,⟨tv,e _ _ et,at_.mono (ThAt.same e.t)⟩⟩
theorem SameM.upd {x:Addr} {o:HO} (hx:x=L.m\/L.A x):SameM L H (upd H x o):=fun b o' h1 h2 h=>by
 rw [Af (fun z=>?_)]
 ·exact h
 ·rw [z] at h1 h2
  rcases hx with e | e
  ·exact h1 e
  ·exact h2 e
theorem MAt.apart (M:MAt K HB C kvs L H S):L.rd≠L.m/\L.wd≠L.m/\L.td≠L.m/\L.fd≠L.m/\L.fd≠L.rd/\L.fd≠L.wd/\L.fd≠L.td:=by
 obtain ⟨rv,er,_⟩:=M.rows
 obtain ⟨wv,ew,_⟩:=M.wait
 obtain ⟨tv,et,_⟩:=M.things
 exact ⟨Df er M.ins (fun z=>nomatch z),Df ew M.ins (fun z=>nomatch z),Df et M.ins (fun z=>nomatch z),Df M.frm M.ins (fun z=>nomatch z),Df M.frm er (fun z=>nomatch z),Df M.frm ew (fun z=>nomatch z),Df M.frm et (fun z=>nomatch z)⟩
theorem MAt.setSteps (M:MAt K HB C kvs L H S) (n:Int):MAt K HB C kvs L (L2.upd H L.m (.ins C L.dx (L.fs n))) { S with steps:=n }:=by
 have e:SameM L H (L2.upd H L.m (.ins C L.dx (L.fs n))):=SameM.upd (.inl rfl)
 obtain ⟨a1,a2,a3,a4,a5,a6,a7⟩:=M.apart
 obtain ⟨rv,er,ar,sp⟩:=M.rows
 obtain ⟨wv,ew,aw⟩:=M.wait
 obtain ⟨tv,et,at_⟩:=M.things
 exact ⟨M.outer e,M.nm,M.nr,M.nw,M.nt,Ad,by rw [Af a4]; exact M.frm,M.rw,M.rt,M.wt,⟨rv,by rw [Af a1]; exact er,ar.mono (RwX.same (M.big e)),sp.same (M.big e)⟩,⟨wv,by rw [Af a2]; exact ew,aw.mono (WtAt.same (M.a e))⟩,⟨tv,by rw [Af a3]; exact et,at_.mono (ThAt.same (M.t e))⟩⟩
theorem MAt.setRows (M:MAt K HB C kvs L H S) {rv:List V} {rs:List Rx} (al:Al (RwX K (fun b=>L.A b\/HB b≠none) H) rv rs) (sp:SepR K (fun b=>L.A b\/HB b≠none) H rv rs):MAt K HB C kvs L (L2.upd H L.rd (.lst rv)) { S with rows:=rs }:=by
 have e:SameM L H (L2.upd H L.rd (.lst rv)):=SameM.upd (.inr (.inl rfl))
 obtain ⟨a1,a2,a3,a4,a5,a6,a7⟩:=M.apart
 obtain ⟨wv,ew,aw⟩:=M.wait
 obtain ⟨tv,et,at_⟩:=M.things
 exact ⟨M.outer e,M.nm,M.nr,M.nw,M.nt,by rw [Af (Ps a1)]; exact M.ins,by rw [Af a5]; exact M.frm,M.rw,M.rt,M.wt,⟨rv,Ad,al.mono (RwX.same (M.big e)),sp.same (M.big e)⟩,⟨wv,by rw [Af (Ps M.rw)]; exact ew,aw.mono (WtAt.same (M.a e))⟩,⟨tv,by rw [Af (Ps M.rt)]; exact et,at_.mono (ThAt.same (M.t e))⟩⟩
theorem MAt.setWait (M:MAt K HB C kvs L H S) {wv:List V} {ws:List Wt} (al:Al (WtAt K L.A H) wv ws):MAt K HB C kvs L (L2.upd H L.wd (.lst wv)) { S with wait:=ws }:=by
 have e:SameM L H (L2.upd H L.wd (.lst wv)):=SameM.upd (.inr (.inr (.inl rfl)))
 obtain ⟨a1,a2,a3,a4,a5,a6,a7⟩:=M.apart
 obtain ⟨rv,er,ar,sp⟩:=M.rows
 obtain ⟨tv,et,at_⟩:=M.things
 exact ⟨M.outer e,M.nm,M.nr,M.nw,M.nt,by rw [Af (Ps a2)]; exact M.ins,by rw [Af a6]; exact M.frm,M.rw,M.rt,M.wt,⟨rv,by rw [Af M.rw]; exact er,ar.mono (RwX.same (M.big e)),sp.same (M.big e)⟩,⟨wv,Ad,al.mono (WtAt.same (M.a e))⟩,⟨tv,by rw [Af (Ps M.wt)]; exact et,at_.mono (ThAt.same (M.t e))⟩⟩
theorem MAt.setThings (M:MAt K HB C kvs L H S) {tv:List V} {ts:List (Str×V)} (al:Al (ThAt K H) tv ts):MAt K HB C kvs L (L2.upd H L.td (.lst tv)) { S with things:=ts }:=by
 have e:SameM L H (L2.upd H L.td (.lst tv)):=SameM.upd (.inr (.inr (.inr rfl)))
 obtain ⟨a1,a2,a3,a4,a5,a6,a7⟩:=M.apart
 obtain ⟨rv,er,ar,sp⟩:=M.rows
 obtain ⟨wv,ew,aw⟩:=M.wait
 exact ⟨M.outer e,M.nm,M.nr,M.nw,M.nt,by rw [Af (Ps a3)]; exact M.ins,by rw [Af a7]; exact M.frm,M.rw,M.rt,M.wt,⟨rv,by rw [Af M.rt]; exact er,ar.mono (RwX.same (M.big e)),sp.same (M.big e)⟩,⟨wv,by rw [Af M.wt]; exact ew,aw.mono (WtAt.same (M.a e))⟩,⟨tv,Ad,al.mono (ThAt.same (M.t e))⟩⟩
noncomputable def Ml.with (L:Ml) (t:Addr):Ml:={ L with td:=t }
theorem MAt.swap (M:MAt K HB C kvs L H S) {H1:Hp} {t:Addr} {tv:List V} {ts:List (Str×V)} (e0:Same H H1) (ht:H t=none) (h1:H1 t=some (.lst tv)) (al:Al (ThAt K H1) tv ts):MAt K HB C kvs (L.with t) (L2.upd H1 L.m (.ins C L.dx ((L.with t).fs S.steps))) { S with things:=ts }/\SameM L H (L2.upd H1 L.m (.ins C L.dx ((L.with t).fs S.steps))):=by
 have M1:=M.new e0
 have e:SameM L H1 (L2.upd H1 L.m (.ins C L.dx ((L.with t).fs S.steps))):=SameM.upd (.inl rfl)
 obtain ⟨a1,a2,a3,a4,a5,a6,a7⟩:=M1.apart
 obtain ⟨rv0,er0,_⟩:=M.rows
 obtain ⟨wv0,ew0,_⟩:=M.wait
 obtain ⟨rv,er,ar,sp⟩:=M1.rows
 obtain ⟨wv,ew,aw⟩:=M1.wait
 have nm:t≠L.m:=fun z=>by rw [z,M.ins] at ht; cases ht
 have nr:L.rd≠t:=fun z=>by rw [<- z,er0] at ht; cases ht
 have nw:L.wd≠t:=fun z=>by rw [<- z,ew0] at ht; cases ht
 have nb:HB t=none:=by
  cases h:HB t with
  | none=>rfl
  | some o=>rw [M.base _ _ h] at ht; cases ht
 have s2:∀ B:Addr->Prop,SameA B H (L2.upd H1 L.m (.ins C L.dx ((L.with t).fs S.steps))):=fun B=>⟨e0.t.trans (M1.t e),fun b xs _ h=>by
  rw [Af (fun z=>?_)]
  ·exact e0 _ _ h
  ·rw [z,M.ins] at h; cases h⟩
 obtain ⟨rv1,er1,ar1,sp1⟩:=M.rows
 obtain ⟨wv1,ew1,aw1⟩:=M.wait
 have hA:∀ b,(L.with t).A b->H b≠none->L.A b:=fun b hb hn=>by
  rcases hb with z | z | z
  ·exact .inl z
  ·exact .inr (.inl z)
  ·rw [show b=t from z,ht] at hn; exact absurd rfl hn
 refine ⟨⟨M1.outer e,M.nm,M.nr,M.nw,nb,Ad,(Af (show L.fd≠L.m from a4)).trans M1.frm,M.rw,nr,nw,⟨rv1,(Af (show L.rd≠L.m from a1)).trans (e0 _ _ er1),?_,?_⟩,⟨wv1,(Af (show L.wd≠L.m from a2)).trans (e0 _ _ ew1),?_⟩,⟨tv,(Af (show t≠L.m from nm)).trans h1,al.mono (ThAt.same (M1.t e))⟩⟩,(e0.m L).trans e⟩
 ·refine (ar1.mono (RwX.mono fun b hb hn=>?_)).mono (RwX.same (s2 _))
  rcases hb with z | z
  ·exact .inl (hA b z hn)
  ·exact .inr z
 ·refine (sp1.mono fun b hb hn=>?_).same (s2 _)
  rcases hb with z | z
  ·exact .inl (hA b z hn)
  ·exact .inr z
 ·exact (aw1.mono (WtAt.mono hA)).mono (WtAt.same (s2 _))
end
noncomputable def C4 (ar:List (Str×Str×V)) (z:Str):Option (Str×V):=(ar.reverse.find? fun x=>decide (x.1=z)).map (·.2)
theorem Zca (l:List (Str×Str×V)) (x:Str×Str×V) (z:Str):C4 (l++[x]) z=if x.1=z then some x.2 else C4 l z:=by
 unfold C4
 rw [Sc,Uo,Vw,Qx]
 by_cases h:x.1=z
 ·simp [h]
 ·simp [h]
theorem Zhd {K:Pd} {H:Hp}:∀ (ev:List V) (ar:List (Str×Str×V)),Al (PrAt K H) ev ar->∃ kvs:List (Ao×V),Al (fun v (kv:Ao×V)=>∃ a,v=.ref a/\SqT K H a [kV kv.1,kv.2]) ev kvs /\
  ∀ z:Str,(Ds kvs (Sum.inr z)=none/\C4 ar z=none)\/∃ u th,Ds kvs (Sum.inr z)=some u/\C4 ar z=some th/\ThAt K H u th:=by
 intro ev
 refine Lg (P:=fun ev=>∀ ar,Al (PrAt K H) ev ar->∃ kvs:List (Ao×V),Al (fun v (kv:Ao×V)=>∃ a,v=.ref a/\SqT K H a [kV kv.1,kv.2]) ev kvs /\
  ∀ z:Str,(Ds kvs (Sum.inr z)=none/\C4 ar z=none)\/∃ u th,Ds kvs (Sum.inr z)=some u/\C4 ar z=some th/\ThAt K H u th) ?_ ?_ ev
 ·intro ar al
  have:ar=[]:=Qm al.1.symm
  subst this
  exact ⟨[],.nil,fun z=>.inl ⟨rfl,rfl⟩⟩
 ·intro l v ih ar al
  obtain ⟨l',v',ar',x,e1,rfl,al',a,u,rfl,q,t⟩:=al.last (by simp)
  obtain ⟨rfl,e2⟩:=R4 e1 rfl
  cases e2
  obtain ⟨kvs,ak,hk⟩:=ih ar' al'
  refine ⟨kvs++[(Sum.inr x.1,u)],ak.snoc ⟨a,rfl,q⟩,fun z=>?_⟩
  rw [Zaz,Zca]
  by_cases hz:x.1=z
  ·refine .inr ⟨u,x.2,?_,if_pos hz,t⟩
   rw [if_pos (by rw [hz])]
  ·rw [if_neg hz,if_neg (fun h=>hz (Sum.inr.inj h))]
   exact hk z
section
variable {g:TG} {tt:TT} {te:TE} {σ0:St} {H1:Hp} {D:Addr} {Q:VK}
theorem Zks {K:Pd} {a:Addr} {xs:List V} (Pv:Nat->List V->St->Hp->Prop) (h0:Pv 0 [] σ0 (upd H1 D (.lst []))) (hl:∀ i ys σ H,i<=xs.length->Pv i ys σ H->SqT K H a xs)
  (hs:∀ i x ys σ H,xs[i]?=some x->H D=some (.lst ys)->Pv i ys σ H->Oh g tt te D (Pv (i + 1)) x σ H)
  (hd:∀ ys σ H,H D=some (.lst ys)->Pv xs.length ys σ H->Q (.ref D) H):Lb (Gc K a) g tt te σ0 H1 D Q:=by
 refine ⟨fun i m σ H=>m=xs.length - i/\i<=xs.length/\∃ ys,H D=some (.lst ys)/\Pv i ys σ H,⟨xs.length,by simp,Pn _,[],Ad,h0⟩,?_⟩
 rintro i m σ H ⟨rfl,hi,ys,hD,p⟩
 have q:=hl i ys σ H hi p
 by_cases hlt:i < xs.length
 ·refine .inr ⟨⟨xs,xs[i],q,by simp [hlt]⟩,fun σ2 H2=>∃ zs,H2 D=some (.lst zs)/\Pv (i + 1) zs σ2 H2,fun σ' H' p'=>⟨xs.length - (i + 1),by omega,rfl,hlt,p'⟩,fun x H' y=>?_⟩
  obtain ⟨e,y⟩:=y
  subst e
  exact hs i x ys σ _ (y xs q) hD p
 ·have e:i=xs.length:=by omega
  subst e
  exact .inl ⟨⟨xs,q,Ph _⟩,hd ys σ H hD p⟩
end
noncomputable def Ek:Tr->Dt
 | .mk _ n _=>n
theorem Zpq (t:Tr):t=.mk t.wd (Ek t) t.ps:=by cases t; rfl
theorem Zkn {a b:List Nat} (h:C0 a=C0 b):a=b:=by
 unfold C0 at h
 induction a generalizing b with
 | nil=>cases b with
  | nil=>rfl
  | cons y r=>simp at h
 | cons x l ih=>cases b with
  | nil=>simp at h
  | cons y r =>
   simp only [Qj,U6] at h
   have h1:x=y:=by have:=Sum.inl.inj h.1; omega
   rw [h1,ih h.2]
noncomputable def B8 (ws:List (List Nat×Tr)) (pl:List Nat):Option Tr:=(ws.reverse.find? fun x=>decide (x.1=pl)).map (·.2)
theorem Zn0 (l:List (List Nat×Tr)) (x:List Nat×Tr) (pl:List Nat):B8 (l++[x]) pl=if x.1=pl then some x.2 else B8 l pl:=by
 unfold B8
 rw [Sc,Uo,Vw,Qx]
 by_cases h:x.1=pl
 ·simp [h]
 ·simp [h]
theorem Zom {ws:List (List Nat×Tr)} {pl:List Nat} {t:Tr} (h:B8 ws pl=some t):(pl,t)∈ws:=by
 unfold B8 at h
 obtain ⟨x,hx,rfl⟩:=Rz.mp h
 have h1:=List.find?_some hx
 have h2:x.1=pl:=of_decide_eq_true h1
 rw [<- h2]
 exact U1.mp (List.mem_of_find?_eq_some hx)
theorem Zkq {K:Pd} {H:Hp}:∀ (rows:List V) (ws:List (List Nat×Tr)),Al (RowT K H) rows ws->∃ kvs:List (List Ao×V),Al (fun v (kv:List Ao×V)=>∃ a b,v=.ref a/\SqT K H a [.ref b,kv.2]/\H b=some (.tup (kv.1.map kV))) rows kvs /\
  ∀ pl:List Nat,(Ds kvs (C0 pl)=none/\B8 ws pl=none)\/∃ u t,Ds kvs (C0 pl)=some u/\B8 ws pl=some t/\TrAt K H u t:=by
 intro rows
 refine Lg (P:=fun rows=>∀ ws,Al (RowT K H) rows ws->∃ kvs:List (List Ao×V),Al (fun v (kv:List Ao×V)=>∃ a b,v=.ref a/\SqT K H a [.ref b,kv.2]/\H b=some (.tup (kv.1.map kV))) rows kvs /\
  ∀ pl:List Nat,(Ds kvs (C0 pl)=none/\B8 ws pl=none)\/∃ u t,Ds kvs (C0 pl)=some u/\B8 ws pl=some t/\TrAt K H u t) ?_ ?_ rows
 ·intro ws al
  have:ws=[]:=Qm al.1.symm
  subst this
  exact ⟨[],.nil,fun z=>.inl ⟨rfl,rfl⟩⟩
 ·intro l v ih ws al
  obtain ⟨l',v',ws',x,e1,rfl,al',a,p,u,rfl,q,hp,t⟩:=al.last (by simp)
  obtain ⟨rfl,e2⟩:=R4 e1 rfl
  cases e2
  obtain ⟨kvs,ak,hk⟩:=ih ws' al'
  refine ⟨kvs++[(C0 x.1,u)],ak.snoc ⟨a,p,rfl,q,by rw [Ke]; exact hp⟩,fun pl=>?_⟩
  rw [Zaz,Zn0]
  by_cases hz:x.1=pl
  ·refine .inr ⟨u,x.2,?_,if_pos hz,t⟩
   rw [if_pos (by rw [hz])]
  ·rw [if_neg hz,if_neg (fun h=>hz (Zkn h))]
   exact hk pl
end L2
namespace L2
open PySem PySem.Spec PyProof.Rows
section
variable {X:Cx}
noncomputable abbrev Zgg:=Ny false
theorem Zmi (K:Pd) {e e2:Expr} {ta:TA} {p p2 pos pos2:Pos} (hg:Gl X "list") (hm:X.mg "list" = none) (hg2:Gl X "zip") (hm2:X.mg "zip" = none) (ha:QA X [e,e2] ta) (hK:X.K=K:=by rfl) (hc:X.calm=true:=by rfl)
  (hs:starEach [.Call (.Name "zip" p2) [e,e2] [] pos2] X.env=[(false,eval (.Call (.Name "zip" p2) [e,e2] [] pos2) X.env)]:=by rfl) (hs2:starEach [e,e2] X.env=[(false,eval e X.env),(false,eval e2 X.env)]:=by rfl) (hs3:starEach [e2] X.env=[(false,eval e2 X.env)]:=by rfl) :
  QE X (.Call (.Name "list" p) [.Call (.Name "zip" p2) [e,e2] [] pos2] [] pos) (Zgg K ta):=Zdb false K hg hm hg2 hm2 ha hK hc hs hs2 hs3
theorem Zre {K:Pd} {ta:TA} {σ:St} {H:Hp} {Q:VK} (h:ta σ H fun vs H1=>∃ a b xs ys,vs=[.ref a,.ref b]/\SqL K H1 a xs/\SqL K H1 b ys /\
 ∀ (S:Addr) (zs:List V) (H2:Hp),H1 S=none->Same H1 H2->zs.length=min xs.length ys.length->Ms H2 xs ys zs->H2 S=some (.lst zs)->Q (.ref S) H2):Zgg K ta σ H Q:=h
end
end L2
namespace L2
open PySem PySem.Spec PySem.Calls PySem.W PyProof.Rows
section
variable {X:Cx}
end
end L2
namespace L2
open PySem PySem.Spec PyProof.Rows
noncomputable def Zhb (K:Pd) (C:Addr) (tb:TXS) (th:TS):TS:=fun D σ H=>tb D (fun σ1 cls od H2=>(∃ C',cls=.ref C'/\R6 K (.ref C') (.ref C)=some true)/\∀ a,H2 a=none->th D σ1 (upd H2 a (exk a cls od))) σ H
section
variable {X:Cx} {c n:Str} {np hpos pos:Pos} {body hbody:List Stmt} {b₀:Stmt} {tb:TXS} {th:TS} {i:Nat} {C:Addr}
theorem Zmk (hC:Lc X.K C) (G:X.mg c=some (.ref C)) (hf:X.env.frame=some X.env.locals) (hst:X.stack=X.env :: X.outer) (hb:QXS X body tb) (hh:∀ e XE,Ed (X.to (X.A.mark (some e)) false XE) (b₀ :: hbody) th) (hg:Gl X c:=by rfl) (hdb:(c == ("__debug__" : Str))=false:=by decide) :
  QS X (.Try body [.ExceptHandler (some (.Name c np)) none (b₀ :: hbody) hpos] [] [] pos) (Zhb X.K C tb th):=by
 refine ⟨fun pins s σ H D I h=>?_⟩
 refine wpAny_Try_except (Rf (hb.run pins s σ H D _ I h) (fun f s1 q=>?_) fun ev s1 q=>?_)
 ·cases f with
  | next=>exact So q
  | ret v=>exact q
  | brk=>exact q
  | cont=>exact q
 ·obtain ⟨σ1,H0,s0,I0,e,T,cls,od,H',rfl,h1,h2,h3,h4,h5,h6,h7,h8,h9,⟨C',rfl,hsub⟩,h10⟩:=q
  have J:Inv X pins σ1 H' s1:=I0.call' (ch:=[]) h1 h3 h4 h2 (fun b z=>absurd z (by simp))
  have hfr:X.A.frames=some (X.env :: X.outer):=by rw [<- hst]; exact J.ok.frames
  have hstk:=J.stack
  rw [hst] at hstk
  refine Zfh (base:=X.base) hfr hstk hf h9 fun h' T' hT' y m=>Mz (fs:=Bl (X.env :: X.outer)) y fun h'' y' m'=>?_
  have M1:Mvd (Bl X.stack) [e,T,T'] s1.heap h'':=by rw [hst]; exact (m.mono (by simp)).trans (m'.mono (by simp))
  have fT':s0.heap.get? T'=none:=by
   cases q:s0.heap.get? T' with
   | none=>rfl
   | some o =>
    obtain ⟨o',z⟩:=h3.there T' o q (by simp)
    exact absurd (Pl z) (Nat.not_lt.mpr hT')
  have hT'n:H' T'=none:=J.hok.fresh hT'
  have fx:∀ b∈[e,T,T'],s0.heap.get? b=none/\H' b=none:=by
   intro b hb
   simp only [Pm,P0,or_false] at hb
   rcases hb with rfl | rfl | rfl
   ·exact ⟨h5,h7⟩
   ·exact ⟨h6,h8⟩
   ·exact ⟨fT',hT'n⟩
  have land:∀ {h3':Heap},Mvd (Bl X.stack) [e,T,T'] s1.heap h3'->Fy h3' e T' (.ref C') od->Inv X pins σ1 (upd H' e (exk e (.ref C') od)) { s1 with heap:=h3' }:=fun {h3'} mm ll =>
   I0.call' (s':={ s1 with heap:=h3' }) (ch:=[]) h1 (h3.land mm (fun b hb=>(fx b hb).1) h5 h7) (h4.land mm (fun b hb=>(fx b hb).2) (fun b hb=>J.stkFree b hb) h7 (Zoj ll)) h2 (fun b z=>absurd z (by simp))
  have I1:=land M1 y'
  refine wpAny_handleBy_cons (codeAny_handlers_test ?_) (by intro q; cases q)
  have I1':Inv (X.to (X.A.mark (some (.ref e))) false (notedBy (model X.prog X.w) (X.A.mark (some (.ref e))) X.env fun x s₁=>True)) pins σ1 (upd H' e (exk e (.ref C') od)) { s1 with heap:=h'' }:=I1.to rfl (by simp)
  refine Ho I1' hg G ?_ hdb
  obtain ⟨oe,vs,oT,ts,a1,a2,a3,a4,a5,a6,a7,a8,a9⟩:=id y'
  refine Zje I1.kIn hC a1 a2 hsub ?_
  refine codeAny_handlers_suite (Mz (fs:=Bl X.stack) y' fun h4' y4 m4=>?_)
  have I2:=land (M1.trans (m4.mono (by simp))) y4
  refine Rf ((hh (.ref e) _).run pins _ _ _ D (I2.to rfl (by simp)) (h10 e h7)) (fun f s4 q=>?_) fun ev s4 q=>q
  cases f with
  | next =>
   obtain ⟨σ',H4,I4,q⟩:=q
   exact ⟨σ',H4,I4.back I.ok,q⟩
  | ret v =>
   obtain ⟨u,σ',H4,I4,r,q⟩:=q
   exact ⟨u,σ',H4,I4.back I.ok,r,q⟩
  | brk =>
   obtain ⟨σ',H4,I4,q⟩:=q
   exact ⟨σ',H4,I4.back I.ok,q⟩
  | cont =>
   obtain ⟨σ',H4,I4,q⟩:=q
   exact ⟨σ',H4,I4.back I.ok,q⟩
end
end L2
namespace L2
open PySem PySem.Spec PyProof.Rows
section
variable {X:Cx} {o i e f k v value:Expr} {pos pos' apos cpos:Pos} {td ty tx tk tv:TE}
end
end L2
namespace L2
open PySem PySem.Spec PyProof.Rows
section
variable {X:Cx}
theorem Mf:OpR X (binaryOp .Mult) (rI IntMulOk fun i j=>.int (i * j)):=opI fun _ _ _ _ _ _ _ hc q=>mul_int q hc
theorem Fn {i j:Int} {H:Hp} {Q:VK} {m n:Nat} (h1:i.natAbs < 2 ^ m) (h2:j.natAbs < 2 ^ n) (hm:m + n<=134217728) (h:Q (.int (i * j)) H):rI IntMulOk (fun i j=>.int (i * j)) (.int i) (.int j) H Q:=⟨i,j,rfl,rfl,mulOk_of_bits (intBits_le_iff.mpr h1) (intBits_le_iff.mpr h2) hm,h⟩
end
end L2
namespace L2
open PySem
noncomputable def Opn (X Y:St->Hp->Prop):Prop:=∀ σ' H',X σ' H'->Y σ' H'
theorem Znk {t u:TS} {D:C7} {σ:St} {H:Hp} (h:∀ Y:St->Hp->Prop,Opn (u D) Y->t ⟨Y,D.rt,D.bk,D.ct⟩ σ H):Nd t u D σ H:=h _ fun _ _ z=>z
theorem Zdo {X Y:St->Hp->Prop} {σ:St} {H:Hp} (h:Opn X Y) (k:X σ H):Y σ H:=h σ H k
end L2
namespace K19
open PySem L2
inductive Sub:Tr->List Nat->Prop where
 | nil (t:Tr):Sub t []
 | cons {w:Str} {n:Dt} {ts:List Tr} {j:Nat} {t:Tr} {r:List Nat} (h:ts[j]?=some t) (s:Sub t r):Sub (.mk w n ts) (j :: r)
noncomputable def B2:Tr->List Nat->List Tr
 | t,[]=>[t]
 | .mk w n ps,k :: r=>.mk w n ps :: (match ps[k]? with | some u=>B2 u r | none=>[])
theorem Ox {w:Str} {n:Dt} {ts:List Tr} {j:Nat} {t:Tr} {r:List Nat} (h:ts[j]?=some t):B2 (.mk w n ts) (j :: r)=.mk w n ts :: B2 t r:=by rw [B2,h]
theorem Lq {t:Tr} {pl:List Nat} (s:Sub t pl):(B2 t pl).length=pl.length + 1:=by
 induction s with
 | nil t=>cases t; rfl
 | cons h _ ih=>rw [Ox h,P9,ih,P9]
theorem Zbk (t:Tr) (pl:List Nat):(B2 t pl)[0]?=some t:=by
 cases t with
 | mk w n ps=>cases pl <;> rfl
theorem Nr {t:Tr} {pl:List Nat} (s:Sub t pl):∀ (i:Nat) (k:Nat),pl[i]?=some k->∃ w n ps u,(B2 t pl)[i]?=some (.mk w n ps)/\ps[k]?=some u/\(B2 t pl)[i + 1]?=some u:=by
 induction s with
 | nil t=>intro i k h; simp at h
 | @cons w n ts j u r h s ih =>
  intro i k hk
  rw [Ox h]
  cases i with
  | zero =>
   have:j=k:=by simpa using hk
   subst this
   exact ⟨w,n,ts,u,rfl,h,by simpa using Zbk u r⟩
  | succ i =>
   obtain ⟨w',n',ps,u',a,b,c⟩:=ih i k (by simpa using hk)
   exact ⟨w',n',ps,u',by simpa using a,b,by simpa using c⟩
noncomputable def withAt:Tr->List Nat->Tr->Tr
 | _,[],f=>f
 | .mk w n ps,k :: r,f=>match ps[k]? with
  | some u=>.mk w n (ps.set k (withAt u r f))
  | none=>.mk w n ps
theorem Zin {w:Str} {n:Dt} {ts:List Tr} {j:Nat} {t f:Tr} {r:List Nat} (h:ts[j]?=some t):withAt (.mk w n ts) (j :: r) f=.mk w n (ts.set j (withAt t r f)):=by rw [withAt,h]
theorem Zh2 (t f:Tr):withAt t [] f=f:=by cases t; rfl
theorem Zh0 {t f:Tr} {pl:List Nat} (s:Sub t pl):∀ (m k:Nat) (w:Str) (n:Dt) (ps:List Tr) (u:Tr),pl[m]?=some k->(B2 t pl)[m]?=some (.mk w n ps)->(B2 t pl)[m + 1]?=some u->withAt (.mk w n ps) (pl.drop m) f=.mk w n (ps.set k (withAt u (pl.drop (m + 1)) f)):=by
 intro m k w n ps u hk hp hu
 obtain ⟨w',n',ps',u',a,b,c⟩:=Nr s m k hk
 rw [hp] at a
 cases a
 rw [hu] at c
 cases c
 have hl:=(Pq.mp hk)
 obtain ⟨g,e⟩:=hl
 rw [Ry g,e,Zin b]
end K19
local macro_rules | `(tactic| walk_at "sc")=>`(tactic| exact ⟨rfl,rfl,rfl,by decide +kernel,rfl,by decide +kernel,by decide +kernel⟩)
namespace L2
open PySem PySem.Spec PyProof.Rows
theorem Bf:0<=sizeLine:=by decide
theorem Cw:1<=sizeLine:=by decide
theorem sz11:11<=sizeLine:=by decide
theorem A7:2<=sizeLine:=by decide
theorem Bv:3<=sizeLine:=by decide
theorem Dn:4<=sizeLine:=by decide
theorem sz7:7<=sizeLine:=by decide
theorem sz9:9<=sizeLine:=by decide
theorem Room.m {j k:Nat} {A:Around} (r:Room k A) (h:j<=k:=by decide):Room j A:=r.mono h
section
variable {X:Cx} {a b:Expr} {ta tb:TE} {pos:Pos} {K:Pd}
theorem Ay (i:Nat) {ps:List Str} {sc:Scope} {x:Str} {e:Expr} {te:TE} {pos':Pos} (S:A2 X.N ps sc) (he:QE X e te) (hi:X.N[i]?=some x:=by rfl) (hx:Ez X.env.scope x:=by exact Or.inl rfl) (hs:swapsWith e (some (.Name x pos')) pos.line X.env=pure false:=by rfl) (hf:X.fn x=true\/X.env.scope.names.lookup x=some .local:=by first | exact .inl rfl | exact .inr rfl | assumption):QS X (.Assign [.Name x pos'] e pos) (Fw te (Ft i)):=Zfz S.nd hi hx he hs hf
theorem Ah (K:Pd) (ha:QE X a ta) (hb:QE X b tb) (hs:Nn b:=by exact fun _ _=>rfl) (hK:X.K=K:=by rfl):QE X (.Subscript a b pos) (Ev (Ii K) ta tb):=Lj (k_ix K hK) ha hb hs
end
end L2
namespace K52
theorem Hu {α:Type} {vs:List α} (h:vs.length=1):∃ u,vs=[u]:=by
 cases vs with
 | nil=>cases h
 | cons u r=>cases Qm (Vj h); exact ⟨u,rfl⟩
theorem lz2 {α:Type} {vs:List α} (h:vs.length=2):∃ u v,vs=[u,v]:=by
 cases vs with
 | nil=>cases h
 | cons u r=>obtain ⟨v,rfl⟩:=Hu (Vj h); exact ⟨u,v,rfl⟩
end K52
namespace K52
open PySem L2
noncomputable def Aq (i:Nat):Stmt:=R9.main.body.getD i (.Pass ⟨0,0,0,0⟩)
noncomputable abbrev Ka:Stmt:=Aq 6
noncomputable abbrev Jj:Stmt:=Aq 8
noncomputable abbrev J3:Stmt:=Aq 9
noncomputable abbrev K6:Stmt:=Aq 10
noncomputable abbrev J0:Stmt:=Aq 11
noncomputable abbrev Kh:Stmt:=Aq 12
noncomputable abbrev Kd:Stmt:=Aq 13
noncomputable abbrev Kl:Stmt:=Aq 15
noncomputable abbrev Ko:Stmt:=Aq 17
noncomputable abbrev K5:Stmt:=Aq 19
noncomputable abbrev Ji:Stmt:=Aq 24
noncomputable abbrev Km:Stmt:=Aq 25
noncomputable abbrev Bx (i j:Nat):Stmt:=match Aq i with | .ClassDef _ _ _ b _ _ _ _ _ _ _=>b.getD j (.Pass ⟨0,0,0,0⟩) | s=>s
noncomputable abbrev J7:Stmt:=Bx 26 0
noncomputable abbrev G4:Stmt:=Bx 26 1
noncomputable abbrev Ix:Stmt:=Bx 26 2
noncomputable abbrev Ki:Stmt:=Bx 26 3
noncomputable abbrev Im:Stmt:=Bx 26 4
noncomputable abbrev J6:Stmt:=Bx 26 5
noncomputable abbrev Ha:Stmt:=Bx 26 6
noncomputable abbrev Kn:Stmt:=Bx 26 7
noncomputable abbrev Jt:Stmt:=Bx 26 8
noncomputable abbrev Jv:Stmt:=Bx 26 9
noncomputable abbrev Iz:Stmt:=Bx 26 10
noncomputable abbrev Ik:Stmt:=Bx 26 11
noncomputable abbrev Jp:Stmt:=Bx 26 12
noncomputable abbrev K0:Stmt:=Aq 28
noncomputable abbrev Jg:Stmt:=Aq 29
noncomputable abbrev Jk:Stmt:=Aq 30
noncomputable abbrev Jb:Stmt:=Aq 32
noncomputable abbrev La:Stmt:=Aq 33
noncomputable abbrev Ig:Stmt:=Aq 34
noncomputable abbrev Kk:Stmt:=Aq 35
noncomputable abbrev Iv:Stmt:=Aq 36
noncomputable abbrev Ht:Stmt:=Aq 37
noncomputable abbrev Iy:Stmt:=Aq 38
noncomputable abbrev K1:Stmt:=Aq 39
noncomputable abbrev Jx:Stmt:=Aq 40
noncomputable abbrev J4:Stmt:=Aq 41
noncomputable abbrev Ks:Stmt:=Aq 42
noncomputable abbrev Kr:Stmt:=Aq 43
noncomputable abbrev Iq:Stmt:=Aq 44
noncomputable abbrev J1:Stmt:=Aq 45
noncomputable abbrev K7:Stmt:=Aq 46
noncomputable abbrev K9:Stmt:=Aq 47
noncomputable abbrev Jm:Stmt:=Aq 48
noncomputable abbrev Kc:Stmt:=Aq 49
noncomputable abbrev K4:Stmt:=Aq 50
structure Txt (K:Pd) (mg:Str->Option Value):Prop where
 isinstance:mg "isinstance" = none
 int:mg "int" = none
 bool:mg "bool" = none
 reversed:mg "reversed" = none
 list:mg "list" = none
 enumerate:mg "enumerate" = none
 len:mg "len" = none
 zip:mg "zip" = none
 all:mg "all" = none
 tuple:mg "tuple" = none
 range:mg "range" = none
 str:mg "str" = none
 dict:mg "dict" = none
end K52
namespace K52
open PySem L2
structure Script (K:Pd) (H:Hp) (a:Addr):Prop where
 ex:∃ ns:List Int,SqL K H a (ns.map V.int)/\ns.length<=63
theorem Script.same {K:Pd} {H H':Hp} {a:Addr} (S:Script K H a) (h:Same H H'):Script K H' a:=by
 obtain ⟨ns,q,l⟩:=S.ex
 exact ⟨ns,h.seq q,l⟩
theorem big:100000<=sizeLine:=by decide
end K52
namespace K52
open PySem L2
noncomputable def Bg (wd:Str):Option (List Int):=if wd∈(["plus", "minus", "less", "call"]:List Str) then some [1,0] else if wd∈(["if", "let"]:List Str) then some [0] else none
noncomputable def WA:List Str:=["gap", "fn", "rec", "if"]
structure Mc (K:Pd) (C:Addr):Prop where
 cl:Cls K C
 nf:NoAttr K C "forms"
 nr:NoAttr K C "rows"
 nw:NoAttr K C "waiting"
 nt:NoAttr K C "things"
 ns:NoAttr K C "steps"
theorem Mj (L:Ml) (n:Int):(L.fs n).lookup ("forms" : Str)=some (V.ref L.fd):=rfl
theorem Jf (L:Ml) (n:Int):(L.fs n).lookup ("rows" : Str)=some (V.ref L.rd):=rfl
theorem Fp (L:Ml) (n:Int):(L.fs n).lookup ("waiting" : Str)=some (V.ref L.wd):=rfl
theorem Fk (L:Ml) (n:Int):(L.fs n).lookup ("things" : Str)=some (V.ref L.td):=rfl
theorem Iu (L:Ml) (n:Int):(L.fs n).lookup ("steps" : Str)=some (V.int n):=rfl
theorem Zez (L:Ml) (n k:Int):Ai "steps" (.int k) (L.fs n)=L.fs k:=rfl
theorem Zlq (L:Ml) (n:Int) (t:Addr):Ai "things" (.ref t) (L.fs n)=(L.with t).fs n:=rfl
theorem Cr (L:Ml) (n:Int):(L.fs n).lookup ("make_steps" : Str)=none/\(L.fs n).lookup ("new_row" : Str)=none/\(L.fs n).lookup ("thing_of_leaf" : Str)=none/\(L.fs n).lookup ("come_to" : Str)=none/\(L.fs n).lookup ("go_further" : Str)=none/\(L.fs n).lookup ("taken_things" : Str)=none/\(L.fs n).lookup ("thing_at_the_end" : Str)=none/\(L.fs n).lookup ("thing_of_form" : Str)=none:=⟨rfl,rfl,rfl,rfl,rfl,rfl,rfl,rfl⟩
theorem Zjf {ws:List Str}:(ws.map V.str).all Cb=true:=by rw [List.all_map]; exact Sh.mpr fun _ _=>rfl
theorem Et {t:Str} {ws:List Str}:C9 (.str t) (ws.map V.str)=decide (t∈ws):=by
 unfold C9
 rw [List.any_map]
 by_cases hm:t∈ws
 ·rw [decide_eq_true hm]
  exact List.any_eq_true.mpr ⟨t,hm,by show (t == t)=true; simp⟩
 ·rw [decide_eq_false hm]
  exact Bool.eq_false_iff.mpr fun h=>by
   obtain ⟨x,hx,e⟩:=List.any_eq_true.mp h
   have e:(x == t)=true:=e
   have e:x=t:=by simpa using e
   exact hm (by rw [<- e]; exact hx)
end K52
local macro_rules | `(tactic| walk_at "r1")=>`(tactic| (first | (with_reducible first | refine L2.s_seq ?_ | refine L2.s_asg ?_ | refine L2.s_ret ?_ | refine L2.s_ifS ?_ | refine L2.s_test ?_ | refine L2.s_op ?_ | refine L2.s_c ?_ | refine L2.s_cons ?_ | refine L2.s_nil ?_ | refine L2.s_call ?_ | refine L2.s_cb ?_ | refine L2.s_gname ?_ | refine L2.s_ex ?_ | refine L2.s_exi ?_ | refine L2.s_drop ?_ | refine L2.s_next ?_ | refine L2.s_un ?_ | refine L2.s_tB ?_ | refine L2.s_not ?_ | refine L2.s_and ?_ | refine L2.s_or ?_ | refine L2.s_andV ?_ | refine L2.s_orV ?_ | refine L2.s_notV ?_ | refine L2.s_vals ?_ | refine L2.s_tup ?_ | refine L2.s_lst ?_ | refine L2.s_bm ?_ | refine L2.s_bm0 ?_ | refine L2.s_sl ?_ | refine L2.s_po ?_ | refine L2.s_po0 ?_ | refine L2.s_gcons ?_ | refine L2.s_gnil ?_ | refine L2.s_gsub ?_ | refine L2.s_isN ?_ | refine L2.s_notN ?_ | refine L2.s_rI0 ?_ | refine L2.s_rU ?_ | refine L2.s_add_int ?_ | refine L2.s_lt ?_ | refine L2.s_le ?_ | refine L2.iteT ?_ | refine L2.iteF ?_ | refine L2.s_comp ?_ | refine L2.s_for ?_ | refine L2.s_rng1 ?_ | refine L2.s_rng3 ?_ | refine L2.s_exr ?_ | refine L2.s_iany ?_ | refine L2.s_irev ?_ | refine L2.s_ienum ?_ | refine L2.s_listen ?_ | refine L2.s_listrev ?_ | refine L2.s_izip ?_ | refine L2.s_ienumT ?_ | refine L2.s_listzp ?_ | refine L2.s_ipI ?_ | refine L2.s_yes ?_ | refine L2.s_turn ?_ | refine L2.s_int_b ?_ | refine L2.s_intb ?_ | refine L2.s_truth ?_ | refine L2.s_chain ?_ | refine L2.s_nt ?_ | refine L2.s_nf ?_) | ((with_reducible refine' L2.s_var ?e ?_); (case e=>exact rfl)) | ((with_reducible refine' L2.s_aug ?e ?_); (case e=>exact rfl)) | ((with_reducible refine' L2.s_eq ?e ?_); (case e=>exact rfl)) | ((with_reducible refine' L2.s_ne ?e ?_); (case e=>exact rfl)) | ((with_reducible refine' L2.s_neb ?e ?_); (case e=>exact rfl)) | ((with_reducible refine' L2.s_rI ?c ?_); (case c=>first | decide | exact ⟨by decide,by decide⟩ | exact ⟨by decide,by decide,by decide⟩)) | ((with_reducible refine' L2.s_mul_r ?a ?b ?_); (case a=>decide); (case b=>decide)) | ((with_reducible refine' L2.s_mul_l ?a ?b ?_); (case a=>decide); (case b=>decide)) | ((with_reducible refine' L2.s_exr3 ?e ?_); (case e=>decide))))
local macro_rules | `(tactic| walk_at "r")=>`(tactic| (repeat walk_at "r1"))
namespace K52
open PySem L2
section
variable {P:Program} {w:World} {K:Pd} {mg:Str->Option Value} {base:Heap}
theorem A8 (a b:Str):decide (V.str a=V.str b)=decide (a=b):=by
 by_cases h:a=b
 ·rw [decide_eq_true h,decide_eq_true (by rw [h])]
 ·rw [decide_eq_false h,decide_eq_false (fun x=>h (V.str.inj x))]
noncomputable def Hh (ops:List (Str×V)):Bool:=ops.all fun x=>decide (x.1=("num" : Str))
noncomputable def Zbv (K:Pd):Sp:=fun vs H Q _=>∃ (o:Addr) (ov:List V) (ops:List (Str×V)),vs=[.ref o]/\H o=some (.lst ov)/\Al (ThAt K H) ov ops/\ops.length<=1000/\∀ H',Same H H'->Q (.bl (Hh ops)) H'
theorem Zrl:(["thing"]:List Str).Nodup:=by decide +kernel
theorem Zg8:A2 ["things"] ["things"] (Az Ji):=by walk_at "sc"
theorem Zjm {f:Addr} {fd:FuncData} (F:Fun K "are_numbers" "are_numbers" Ji f fd) (T:Txt K mg):FnOk P w K mg base Ar 1 f fd ["things"] (Zbv K):=by
 refine F.okq Zg8 (fun vs H Q E h=>?_) (fun cdv A outer s H vs Q E hr h=>?_)
 ·obtain ⟨o,ov,ops,rfl,_⟩:=h
  rfl
 ·obtain ⟨o,ov,ops,rfl,ho,al,hl,q⟩:=h
  refine ⟨_,Ag (Au (Bp (Zh7 K rfl) (by rfl) T.all (by decide +kernel) (Aa (Nt (N:=["thing"]) (σ0:=Eh 1 []) rfl (Ga rfl (by decide +kernel) (by decide +kernel) (by decide +kernel)) (Eo K (qv 0)) (Gj rfl (by rfl)) (fun _ _ _ _=>A9 (i:=0) Zrl rfl (Or.inl rfl)) (fun _ _ _ _=>Gu) (fun _ _ _ _=>C3 (Ba K hr.u200) (Ah K (qv 0) Ac) As (Aw _))) Ab))),?_⟩
  have bg:=big
  have hlen:=al.1
  walk_at "r"
  refine .inl ⟨o,rfl,⟨_,SqL.of ho⟩,fun D hD=>?_⟩
  refine Jw (K:=K) (a:=o) (xs:=ov) (Pv:=fun i ys σ' H'=>∃ kv,σ'=[kv]/\ys=((ops.take i).map fun x:Str×V=>decide (x.1=("num" : Str))).map V.bl/\Same H H') ⟨none,rfl,rfl,Same.upd hD⟩ ?_ ?_ ?_
  ·rintro i ys σ' H' _ ⟨kv,_,_,sm⟩
   exact SqL.of (sm _ _ ho)
  ·rintro i x ys σ' H' hx hys ⟨kv,rfl,rfl,sm⟩
   obtain ⟨y,hy,_,a,rfl,qa⟩:=al.get hx
   have hi:i < ov.length:=(Pq.mp hx).1
   walk_at "r"
   refine Ak (sm.tup qa) rfl ?_
   walk_at "r"
   rw [A8]
   refine ⟨_,hys,by rw [Pp,Pp,Qe]; omega,_,Ad,_,rfl,?_,sm.over hD⟩
   rw [Rj,hy,Tj,Qy,Qy]
   rfl
  ·rintro ys σ' H' hys ⟨kv,rfl,rfl,sm⟩
   walk_at "r"
   refine ⟨D,_,rfl,SqL.of hys,?_⟩
   walk_at "r"
   have q':=q H' sm
   rw [hlen,Ts]
   unfold Hh at q'
   rw [List.all_map]
   exact q'
noncomputable def A4 (bc:List (Str×V)) (x:Str×V):Str×V:=if x.1 = "row" then (match x.2 with | .int k=>(bc[k.toNat]?).getD x | _=>x) else x
noncomputable def Kf (n:Nat) (x:Str×V):Prop:=x.1 = "row" -> ∃ k:Nat,x.2=.int (k:Nat)/\k < n
noncomputable def Jq (K:Pd):Sp:=fun vs H Q _=>∃ (tv:V) (b:Addr) (bv:List V) (x:Str×V) (bc:List (Str×V)),vs=[tv,.ref b]/\ThAt K H tv x/\SqL K H b bv/\Al (ThAt K H) bv bc/\Kf bc.length x/\∀ v,ThAt K H v (A4 bc x)->Q v H
theorem Zqq:A2 ["thing", "became"] ["thing", "became"] (Az K0):=by walk_at "sc"
theorem Zm2 {f:Addr} {fd:FuncData} (F:Fun K "thing_now" "thing_now" K0 f fd) (T:Txt K mg):FnOk P w K mg base Ar 1 f fd ["thing", "became"] (Jq K):=by
 refine F.okq Zqq (fun vs H Q E h=>?_) (fun cdv A outer s H vs Q E hr h=>?_)
 ·obtain ⟨tv,b,bv,x,bc,rfl,_⟩:=h
  rfl
 ·obtain ⟨tv,b,bv,x,bc,rfl,ht,hb,al,ok,q⟩:=h
  refine ⟨_,Ag (Au (Ll (Ax (Ba K hr.u200) (Ah K (qv 0) Ac) As (Aw _)) (Ah K (qv 1) (Ah K (qv 0) Ac)) (qv 0))),?_⟩
  obtain ⟨hf,a,rfl,qa⟩:=ht
  walk_at "r"
  unfold Ie
  walk_at "r"
  refine Ak qa rfl ?_
  walk_at "r"
  rw [A8]
  by_cases hw:x.1 = "row"
  ·obtain ⟨k,ek,hk⟩:=ok hw
   have hkb:k < bv.length:=by rw [al.1]; exact hk
   have hx:=al.2 k bv[k] bc[k] (Pg hkb) (Pg hk)
   have en:A4 bc x=bc[k]:=by
    unfold A4
    rw [if_pos hw,ek]
    simp [Pg hk]
   rw [decide_eq_true hw]
   walk_at "r"
   refine Ak qa rfl ?_
   rw [ek]
   refine Bd hb (Bh (Pg hkb)) ?_
   exact q _ (by rw [en]; exact hx)
  ·rw [decide_eq_false hw]
   walk_at "r"
   refine q _ ?_
   unfold A4
   rw [if_neg hw]
   exact ⟨hf,a,rfl,qa⟩
noncomputable def Zab (K:Pd) (C:Addr):Sp:=fun vs H Q _=>∃ (n:Int) (HB:Hp) (kvs:List (List Ao×V)) (L:Ml) (S:MS),vs=[.ref L.m,.int n]/\MAt K HB C kvs L H S/\S.steps + n<=500/\∀ H',SameM L H H'->MAt K HB C kvs L H' { S with steps:=S.steps + n }->Q .non H'
theorem Zcd:A2 ["self", "many"] ["self", "many"] (Az G4):=by walk_at "sc"
theorem Zqb {C:Addr} {f:Addr} {fd:FuncData} (F:Fun K "make_steps" "Machine.make_steps" G4 f fd) (T:Txt K mg) (O:Mc K C) (G_MOST_STEPS:En mg "MOST_STEPS" (.int 500)):FnOk P w K mg base Ar 1 f fd ["self", "many"] (Zab K C):=by
 refine F.okq Zcd (fun vs H Q E h=>?_) (fun cdv A outer s H vs Q E hr h=>?_)
 ·obtain ⟨n,HB,kvs,L,S,rfl,_⟩:=h
  rfl
 ·obtain ⟨n,HB,kvs,L,S,rfl,M,hn,q⟩:=h
  refine ⟨_,Ae (Zcm K (qv 0) (qv 1) Zf9)
   (Ag (A0 (Ax Jy (Bs K (qv 0)) (E4 G_MOST_STEPS) (Aw _)) (Ag Ng) A6)),?_⟩
  walk_at "r"
  refine ⟨_,rfl,L.m,C,L.dx,_,_,rfl,M.ins,O.cl,O.ns,Iu L S.steps,_,rfl,?_⟩
  refine ⟨_,_,rfl,rfl,L.dx,_,M.ins,by show 5 < 1000; decide,?_⟩
  rw [Zez]
  have M1:=M.setSteps (S.steps + n)
  have e1:SameM L H (upd H L.m (.ins C L.dx (L.fs (S.steps + n)))):=SameM.upd (.inl rfl)
  revert M1 e1
  generalize upd H L.m (.ins C L.dx (L.fs (S.steps + n)))=H1
  intro M1 e1
  walk_at "r"
  refine ⟨_,rfl,L.m,C,L.dx,_,_,rfl,M1.ins,O.cl,O.ns,Iu L (S.steps + n),?_⟩
  walk_at "r"
  rw [decide_eq_false (by omega)]
  walk_at "r"
  exact q _ e1 M1
theorem Zlr {CX:B3} {k:Nat} {f:Addr} {fd:FuncData} {ps:List Str} {sp:Sp} (F:FnOk P w K mg base Ar k f fd ps sp):FnOk P w K mg base CX k f fd ps sp:=⟨F.len,fun A outer s H args us vs Q E hr he hb hv hs=>Sx (F.run A outer s H args us vs Q E hr he hb hv hs) fun r s' h=>by
 cases r with
 | ok f=>cases f <;> exact h
 | error e=>exact Qc h⟩
theorem Zcx {CX:B3} {k:Nat} {f:Addr} {fd:FuncData} {ps:List Str} {sp1 sp2:Sp} (F1:FnOk P w K mg base CX k f fd ps sp1) (F2:FnOk P w K mg base CX k f fd ps sp2):FnOk P w K mg base CX k f fd ps (fun vs H Q E=>sp1 vs H Q E\/sp2 vs H Q E) :=
 ⟨fun vs H Q E h=>h.elim (F1.len vs H Q E) (F2.len vs H Q E),fun A outer s H args us vs Q E hr he hb hv hs=>hs.elim (F1.run A outer s H args us vs Q E hr he hb hv) (F2.run A outer s H args us vs Q E hr he hb hv)⟩
noncomputable def Zfv (K:Pd) (C TL:Addr):Sp:=fun vs H _ E=>∃ (n:Int) (HB:Hp) (kvs:List (List Ao×V)) (L:Ml) (S:MS),vs=[.ref L.m,.int n]/\MAt K HB C kvs L H S/\500 < S.steps + n/\∀ H',SameM L H H'->E (.ref TL) none H'
theorem Zik {C N_TooLong:Addr} {f:Addr} {fd:FuncData} (F:Fun K "make_steps" "Machine.make_steps" G4 f fd) (T:Txt K mg) (O:Mc K C) (G_MOST_STEPS:En mg "MOST_STEPS" (.int 500)) (R_TooLong:Sv K N_TooLong VE "ValueError.__new__" = true) (G_TooLong:mg "TooLong" = some (.ref N_TooLong)):FnOk P w K mg base (Bk P w) 1 f fd ["self", "many"] (Zfv K C N_TooLong):=by
 refine F.okx Zcd (fun vs H Q E h=>?_) (fun cdv A outer s H vs Q E hr h=>?_)
 ·obtain ⟨n,HB,kvs,L,S,rfl,_⟩:=h
  rfl
 ·obtain ⟨n,HB,kvs,L,S,rfl,M,hn,q⟩:=h
  refine ⟨_,Ae (Zcm K (qv 0) (qv 1) Zf9)
   (Ag (A0 (Ax Jy (Bs K (qv 0)) (E4 G_MOST_STEPS) (Aw _)) (Ag (Zjq rfl R_TooLong G_TooLong (Aa As Ab) (fun _ _ _ _ _ _ _ I x h0 hn he=>Zlu I x h0 hn he) rfl)) A6)),?_⟩
  walk_at "r"
  refine ⟨_,rfl,L.m,C,L.dx,_,_,rfl,M.ins,O.cl,O.ns,Iu L S.steps,_,rfl,?_⟩
  refine ⟨_,_,rfl,rfl,L.dx,_,M.ins,by show 5 < 1000; decide,?_⟩
  rw [Zez]
  have M1:=M.setSteps (S.steps + n)
  have e1:SameM L H (upd H L.m (.ins C L.dx (L.fs (S.steps + n)))):=SameM.upd (.inl rfl)
  revert M1 e1
  generalize upd H L.m (.ins C L.dx (L.fs (S.steps + n)))=H1
  intro M1 e1
  walk_at "r"
  refine ⟨_,rfl,L.m,C,L.dx,_,_,rfl,M1.ins,O.cl,O.ns,Iu L (S.steps + n),?_⟩
  walk_at "r"
  rw [decide_eq_true (by omega)]
  walk_at "r"
  exact ⟨Cw,q _ e1⟩
noncomputable def J2 (K:Pd) (C:Addr):Sp:=fun vs H Q _=>∃ (wd:Str) (p o e:Addr) (pl:List Nat) (ov ev:List V) (ops:List (Str×V)) (ar:List (Str×Str×V)) (HB:Hp) (kvs:List (List Ao×V)) (L:Ml) (S:MS),vs=[.ref L.m,.str wd,.ref p,.ref o,.ref e]/\MAt K HB C kvs L H S/\H p=some (.tup (A1 pl))/\SqL K H o ov/\Al (ThAt K H) ov ops/\SqL K H e ev/\Al (PrAt K H) ev ar/\S.rows.length < 10000 /\
 ∀ v H',SameM L H H'->MAt K HB C kvs L H' { S with rows:=S.rows++[⟨wd,Ap pl,ops,if wd∈WA then ar else []⟩] }->ThAt K H' v ("row",.int (S.rows.length:Nat))->Q v H'
theorem Zel:A2 ["self", "word", "place", "operands", "around", "kept"] ["self", "word", "place", "operands", "around"] (Az Ix):=by walk_at "sc"
theorem viaV {t:TE} {σ:St} {H:Hp} {Q:VK} (R:V->Hp->Prop) (h2:∀ x H',R x H'->Q x H') (h1:∀ Q':VK,(∀ x H',R x H'->Q' x H')->t σ H Q'):t σ H Q:=h1 Q h2
theorem Zi4 {C:Addr} {f:Addr} {fd:FuncData} (F:Fun K "new_row" "Machine.new_row" Ix f fd) (T:Txt K mg) (O:Mc K C) {aw:Addr} (G_WORDS_WITH_AROUND:En mg "WORDS_WITH_AROUND" (.ref aw)) (hwa:∀ H,SqT K H aw (WA.map V.str)):FnOk P w K mg base Ar 1 f fd ["self", "word", "place", "operands", "around"] (J2 K C):=by
 refine F.okq Zel (fun vs H Q E h=>?_) (fun cdv A outer s H vs Q E hr h=>?_)
 ·obtain ⟨wd,p,o,e,pl,ov,ev,ops,ar,HB,kvs,L,S,rfl,_⟩:=h
  rfl
 ·obtain ⟨wd,p,o,e,pl,ov,ev,ops,ar,HB,kvs,L,S,rfl,M,hp,ho,alo,he,ale,hz,q⟩:=h
  refine ⟨_,Ae (Ay 5 Zel (Ll (Ax (E7 K) (qv 1) (E4 G_WORDS_WITH_AROUND) (by rfl)) (Dk (Gr K) (by rfl) T.list (by decide +kernel) (Aa (qv 4) Ab)) (Bc Ab)))
   (Ae (Be (Bw K Pt P4 P5 Bz (Bs K (qv 0)) (Aa (An (Aa (qv 1) (Aa (qv 2) (Aa (Dk (Gr K) (by rfl) T.list (by decide +kernel) (Aa (qv 3) Ab)) (Aa (qv 5) Ab))))) Ab)))
   (Ag (Au (An (Aa As (Aa (Aj D8 (Bp (C6 K) (by rfl) T.len (by decide +kernel) (Aa (Bs K (qv 0)) Ab)) Ac) Ab)))))),?_⟩
  have bg:=big
  walk_at "r"
  have kept:Al (PrAt K H) (if wd∈WA then ev else []) (if wd∈WA then ar else []):=by
   by_cases hw:wd∈WA
   ·rw [if_pos hw,if_pos hw]; exact ale
   ·rw [if_neg hw,if_neg hw]; exact .nil
  refine viaV (R:=fun x H'=>∃ k,x=.ref k/\H k=none/\H'=upd H k (.lst (if wd∈WA then ev else []))) ?_ (fun Q' hQ=>?_)
  ·rintro _ _ ⟨k,rfl,hk,rfl⟩
   have s1:Same H (upd H k (.lst (if wd∈WA then ev else []))):=Same.upd hk
   have e1:upd H k (.lst (if wd∈WA then ev else [])) k=some (.lst (if wd∈WA then ev else [])):=Ad
   revert s1 e1 kept
   generalize (if wd∈WA then ev else [])=kv
   generalize (if wd∈WA then ar else [])=ka at q ⊢
   generalize upd H k (.lst kv)=H1
   intro kept s1 e1
   have M1:=M.new s1
   obtain ⟨rv,er,arr,spr⟩:=M1.rows
   walk_at "r"
   refine ⟨_,rfl,L.m,C,L.dx,_,_,rfl,M1.ins,O.cl,O.nr,Jf L S.steps,?_⟩
   refine Bj (SqL.of er) ?_
   walk_at "r"
   refine ⟨_,ov,rfl,.inl (s1.seq ho),fun o2 ho2=>?_⟩
   have s2:Same H1 (upd H1 o2 (.lst ov)):=Same.upd ho2
   have e2:upd H1 o2 (.lst ov) o2=some (.lst ov):=Ad
   have e12:=s2 _ _ e1
   revert s2 e2 e12
   generalize upd H1 o2 (.lst ov)=H2
   intro s2 e2 e12
   walk_at "r"
   refine ⟨Dn,fun r hr=>?_⟩
   obtain ⟨H3,s3,e3,z9⟩:=Av hr (.tup [.str wd,.ref p,.ref o2,.ref k])
   rw [z9]
   have s13:=s2.trans s3
   have s03:=s1.trans s13
   have M3:=M.new s03
   have hrl:rv.length=S.rows.length:=arr.1
   walk_at "r"
   refine Bt (s13 _ _ er) (by omega) ?_
   obtain ⟨rv0,er0,_,sp0⟩:=M.rows
   obtain ⟨wv0,ew0,_⟩:=M.wait
   obtain ⟨tv0,et0,_⟩:=M.things
   have nb:∀ b,H b=none->¬ (L.A b\/HB b≠none):=by
    intro b hb hx
    rcases hx with (z | z | z) | z
    ·rw [z,er0] at hb; cases hb
    ·rw [z,ew0] at hb; cases hb
    ·rw [z,et0] at hb; cases hb
    ·cases h:HB b with
     | none=>exact z h
     | some ob=>rw [M.base _ _ h] at hb; cases hb
   have rw4:RwO K (fun b=>L.A b\/HB b≠none) H3 (.ref r) (⟨wd,Ap pl,ops,ka⟩,o2,k):=⟨r,p,ov,kv,rfl,SqT.of e3,by rw [B9]; exact SqT.of (s03 _ _ hp),s3 _ _ e2,alo.mono (ThAt.same s03.t),s3 _ _ e12,kept.mono (PrAt.same s03.t),nb _ (s1.free ho2),nb _ hk,fun z=>by rw [show o2=k from z,e1] at ho2; cases ho2⟩
   have sp4:SepR K (fun b=>L.A b\/HB b≠none) H3 (rv++[.ref r]) (S.rows++[⟨wd,Ap pl,ops,ka⟩]):=SepR.add (H:=H) (by rw [show rv=rv0 from by have h:=s1 _ _ er0; rw [er] at h; cases h; rfl]; exact sp0) s03 (s1.free ho2) hk rw4
   have M4:=M3.setRows (rv:=rv++[.ref r]) (rs:=S.rows++[⟨wd,Ap pl,ops,ka⟩]) ((arr.mono (RwX.same s13.a)).snoc ⟨⟨r,p,o2,k,ov,kv,rfl,SqT.of e3,by rw [B9]; exact SqT.of (s03 _ _ hp),s3 _ _ e2,alo.mono (ThAt.same s03.t),s3 _ _ e12,kept.mono (PrAt.same s03.t),nb _ (s1.free ho2),nb _ hk⟩,r,p,o2,k,rfl,SqT.of e3,by rw [B9]; exact s03 _ _ hp⟩) sp4
   have e4:SameM L H (upd H3 L.rd (.lst (rv++[.ref r]))):=(s03.m L).trans (SameM.upd (.inr (.inl rfl)))
   have er4:upd H3 L.rd (.lst (rv++[.ref r])) L.rd=some (.lst (rv++[.ref r])):=Ad
   revert M4 e4 er4
   generalize upd H3 L.rd (.lst (rv++[.ref r]))=H4
   intro M4 e4 er4
   walk_at "r"
   refine ⟨_,rfl,L.m,C,L.dx,_,_,rfl,M4.ins,O.cl,O.nr,Jf L S.steps,?_⟩
   walk_at "r"
   refine Cm (SqL.of er4) ?_
   walk_at "r"
   refine ⟨A7,fun t ht=>?_⟩
   have e5:(((rv++[V.ref r]).length:Nat):Int) - 1=((S.rows.length:Nat):Int):=by rw [Pi,Pr]; omega
   rw [e5]
   have s5:Same H4 (upd H4 t (.tup [.str "row",.int (S.rows.length:Nat)])):=Same.upd ht
   exact q _ _ (e4.trans (s5.m L)) (M4.new s5) ⟨rfl,t,rfl,SqT.of Ad⟩
  ·unfold Ie
   walk_at "r"
   refine Ec (.inr (hwa _)) rfl Zjf ?_
   rw [if_neg Po,Et]
   refine ⟨_,rfl,?_⟩
   refine B4 (fun h=>?_) (fun h=>?_)
   ·have h:wd∈WA:=of_decide_eq_true h
    walk_at "r"
    refine ⟨_,ev,rfl,.inl he,fun k hk=>?_⟩
    exact hQ _ _ ⟨k,rfl,hk,by rw [if_pos h]⟩
   ·have h:¬ wd∈WA:=fun x=>h (decide_eq_true x)
    walk_at "r"
    refine ⟨Bf,fun k hk=>?_⟩
    exact hQ _ _ ⟨k,rfl,hk,by rw [if_neg h]⟩
noncomputable def Cj (S:MS) (wd:Str) (nv:V) (pl:List Nat) (ar:List (Str×Str×V)):(Str×V)×MS :=
 if wd∈(["num", "truth"]:List Str) then ((wd,nv),S)
 else match (match nv with | .str z=>if wd = "name" then C4 ar z else none | _=>none) with
  | some th=>(th,S)
  | none=>(("row",.int (S.rows.length:Nat)),{ S with rows:=S.rows++[⟨wd,Ap pl,[],if wd∈WA then ar else []⟩] })
noncomputable def Zae (K:Pd) (C:Addr):Sp:=fun vs H Q _=>∃ (wd:Str) (nv:V) (p e:Addr) (pl:List Nat) (ev:List V) (ar:List (Str×Str×V)) (HB:Hp) (kvs:List (List Ao×V)) (L:Ml) (S:MS),vs=[.ref L.m,.str wd,nv,.ref p,.ref e]/\MAt K HB C kvs L H S/\H p=some (.tup (A1 pl))/\SqL K H e ev/\Al (PrAt K H) ev ar/\S.rows.length < 10000/\(wd∈(["num", "truth"]:List Str)->Cb nv=true)/\(wd = "name" -> ∃ z,nv=.str z) /\
 ∀ v H',SameM L H H'->MAt K HB C kvs L H' (Cj S wd nv pl ar).2->ThAt K H' v (Cj S wd nv pl ar).1->Q v H'
theorem Ze2:A2 ["self", "word", "note", "place", "around", "bound"] ["self", "word", "note", "place", "around"] (Az Kn):=by walk_at "sc"
theorem Zol {C:Addr} {f:Addr} {fd:FuncData} (F:Fun K "thing_of_leaf" "Machine.thing_of_leaf" Kn f fd) (T:Txt K mg) (O:Mc K C) (MR:Ce Ar P w K mg base 1 C "new_row" ["self", "word", "place", "operands", "around"] (J2 K C)):FnOk P w K mg base Ar 2 f fd ["self", "word", "note", "place", "around"] (Zae K C):=by
 refine F.okq Ze2 (fun vs H Q E h=>?_) (fun cdv A outer s H vs Q E hr h=>?_)
 ·obtain ⟨wd,nv,p,e,pl,ev,ar,HB,kvs,L,S,rfl,_⟩:=h
  rfl
 ·obtain ⟨wd,nv,p,e,pl,ev,ar,HB,kvs,L,S,rfl,M,hp,he,ale,hz,hf,hnm,q⟩:=h
  refine ⟨_,Ae (A0 (Ax (E7 K) (qv 1) (An (Aa As (Aa As Ab))) (by rfl)) (Ag (Au (An (Aa (qv 1) (Aa (qv 2) Ab))))) A6)
   (Ae (Ay 5 Ze2 (Dk (Zfx K hr.u200 rfl) (by rfl) T.dict (by decide +kernel) (Aa (qv 4) Ab)))
   (Ae (A0 (QW.qt (Da (Ax (Ba K hr.u200) (qv 1) As (Aw _)) (Dp (Zct (Zgs hr.u1 (qv 2) (qv 5)))))) (Ag (Au (Jn hr.u1 (qv 5) (qv 2) (fun _ _=>rfl)))) A6)
   (Ag (Au (Cs (k:=1) K Ar ["self", "word", "place", "operands", "around"] (qv 0) hr.m C5 (Aa (qv 1) (Aa (qv 3) (Aa (Bc Ab) (Aa (qv 4) Ab))))))))),?_⟩
  have bg:=big
  unfold Cj at q
  walk_at "r"
  refine ⟨A7,fun p1 h1=>?_⟩
  refine Ec (.inr (SqT.of Ad)) rfl rfl ?_
  have s1:Same H (upd H p1 (.tup [.str "num",.str "truth"])):=Same.upd h1
  rw [if_neg Po,show C9 (.str wd) [.str "num",.str "truth"]=decide (wd∈(["num", "truth"]:List Str)) from Et (ws:=["num", "truth"])]
  revert s1
  generalize upd H p1 (.tup [.str "num",.str "truth"])=H1
  intro s1
  walk_at "r"
  refine B4 (fun h=>?_) (fun h=>?_)
  ·have h:wd∈(["num", "truth"]:List Str):=of_decide_eq_true h
   rw [if_pos h] at q
   walk_at "r"
   refine ⟨A7,fun p2 h2=>?_⟩
   have s2:=s1.put (o:=.tup [.str wd,nv]) h2
   exact q _ _ (s2.m L) (M.new s2) ⟨hf h,p2,rfl,SqT.of Ad⟩
  have h:¬ wd∈(["num", "truth"]:List Str):=fun x=>h (decide_eq_true x)
  rw [if_neg h] at q
  walk_at "r"
  obtain ⟨bk,alk,look⟩:=Zhd (K:=K) (H:=H1) ev ar (ale.mono (PrAt.same s1.t))
  refine ⟨e,ev,rfl,s1.seq he,.inl ⟨bk,alk,fun d hd=>?_⟩⟩
  obtain ⟨H2,s2,e2,z9⟩:=Av hd (.dK (Br [] bk))
  rw [z9]
  have s02:=s1.trans s2
  have M2:=M.new s02
  have row:(match nv with | .str z=>if wd = "name" then C4 ar z else none | _=>none)=none->∀ l,H2 l=none->J2 K C [.ref L.m,.str wd,.ref p,.ref l,.ref e] (upd H2 l (.lst [])) Q E0:=by
   intro hn l hl
   rw [hn] at q
   have s3:=s02.put (o:=.lst []) hl
   refine ⟨wd,p,l,e,pl,[],ev,[],ar,HB,kvs,L,S,rfl,M.new s3,s3 _ _ hp,SqL.of Ad,.nil,s3.seq he,ale.mono (PrAt.same s3.t),hz,fun v H' e' M' t'=>q v H' ((s3.m L).trans e') M' t'⟩
  walk_at "r"
  by_cases hw:wd = "name"
  ·subst hw
   obtain ⟨z,rfl⟩:=hnm rfl
   rw [decide_eq_true (Eq.refl _)]
   refine iteT ?_
   refine ⟨_,rfl,_,rfl,d,_,rfl,DGet.k (k:=Sum.inr z) e2,?_⟩
   rw [Zbb]
   rcases look z with ⟨l1,l2⟩ | ⟨u,th,l1,l2,t⟩
   ·rw [l1]
    refine ⟨false,rfl,?_⟩
    refine iteF ?_
    walk_at "r"
    refine ⟨_,rfl,L.m,C,L.dx,_,_,rfl,M2.ins,(Cr L S.steps).2.1,MR,?_⟩
    walk_at "r"
    refine ⟨Bf,fun l hl=>?_⟩
    walk_at "r"
    exact row (by simp [l2]) l hl
   ·rw [l1]
    refine ⟨true,rfl,?_⟩
    refine iteT ?_
    walk_at "r"
    refine ⟨_,rfl,_,rfl,d,u,rfl,?_,?_⟩
    ·rw [<- l1,<- Zbb]
     exact DGet.k (k:=Sum.inr z) e2
    ·have e:(match V.str z with | .str z=>if ("name" : Str) = "name" then C4 ar z else none | _=>none)=some th:=by simp [l2]
     rw [e] at q
     exact q _ _ (s02.m L) M2 (ThAt.same s2.t _ _ t)
  ·rw [decide_eq_false (fun h=>hw (V.str.inj h))]
   walk_at "r"
   refine ⟨_,rfl,L.m,C,L.dx,_,_,rfl,M2.ins,(Cr L S.steps).2.1,MR,?_⟩
   walk_at "r"
   refine ⟨Bf,fun l hl=>?_⟩
   walk_at "r"
   refine row ?_ l hl
   cases nv <;> simp [hw]
noncomputable def Eu:Dt->V
 | .flat v=>v
 | _=>.non
noncomputable def Es (S:MS) (wd:Str) (d:Dt) (pl:List Nat) (ar:List (Str×Str×V)):MS :=
 let S1:=if wd = "gap" then S else { S with steps:=S.steps + 1 }
 match Bg wd with
 | some ns=>{ S1 with wait:=(S1.wait++[⟨pl,ar,true⟩])++ns.map fun n=>⟨pl++[n.toNat],ar,false⟩ }
 | none=>{ (Cj S1 wd (Eu d) pl ar).2 with things:=(Cj S1 wd (Eu d) pl ar).2.things++[(Cj S1 wd (Eu d) pl ar).1] }
noncomputable def Ib (wd:Str) (d:Dt):Prop:=(wd∈(["num", "truth"]:List Str)->∃ v,d=.flat v)/\(wd = "name" -> ∃ z,d=.flat (.str z))
noncomputable def Zek (K:Pd) (C:Addr):Sp:=fun vs H Q _=>∃ (p e:Addr) (pl:List Nat) (ev:List V) (ar:List (Str×Str×V)) (HB:Hp) (kvs:List (List Ao×V)) (L:Ml) (S:MS) (v:V) (wd:Str) (d:Dt) (ts:List Tr),vs=[.ref L.m,.ref p,.ref e]/\MAt K HB C kvs L H S/\H p=some (.tup (A1 pl))/\H e=some (.lst ev)/\Al (PrAt K H) ev ar/\¬ L.A e/\Bu kvs (C0 pl)=some v/\TrAt K H v (.mk wd d ts)/\Ib wd d/\pl.length<=2000/\S.rows.length < 9000/\S.wait.length < 9000/\S.things.length < 9000/\(wd ≠ "gap" -> S.steps + 1<=500) /\
 ∀ H',SameM L H H'->MAt K HB C kvs L H' (Es S wd d pl ar)->Q .non H'
theorem Zbt:(["number", "around", "place"]:List Str).Nodup:=by decide +kernel
theorem sc_Machine_come_to:A2 ["self", "place", "around", "word", "note"] ["self", "place", "around"] (Az Ha):=by walk_at "sc"
theorem Zp5 {wd:Str} {ns:List Int} (h:Bg wd=some ns):ns.length<=2/\∀ n∈ns,0<=n:=by
 unfold Bg at h
 split at h
 ·cases h; exact ⟨by decide,by decide⟩
 split at h
 ·cases h; exact ⟨by decide,by decide⟩
 ·cases h
theorem Zh5 {K:Pd} {H:Hp} {S:MS} {wd:Str} {nv:V} {d:Dt} {pl:List Nat} {ar:List (Str×Str×V)} (h:IsN K H nv d) (hn:Ib wd d):Cj S wd nv pl ar=Cj S wd (Eu d) pl ar:=by
 rcases h with ⟨_,rfl⟩ | ⟨a,vs,rfl,_,_,rfl⟩
 ·rfl
 ·have h1:¬ wd∈(["num", "truth"]:List Str):=fun x=>by obtain ⟨v,e⟩:=hn.1 x; cases e
  unfold Cj
  rw [if_neg h1,if_neg h1]
  rfl
theorem Zkz (S:MS) (wd:Str) (nv:V) (pl:List Nat) (ar:List (Str×Str×V)):(Cj S wd nv pl ar).2.things=S.things:=by
 unfold Cj
 split
 ·rfl
 split <;> rfl
theorem Zhm {C:Addr} {f:Addr} {fd:FuncData} (F:Fun K "come_to" "Machine.come_to" Ha f fd) (T:Txt K mg) (O:Mc K C) {ap:Addr} {pk:List (Str×V)} (G_PARTS_AWAITED:En mg "PARTS_AWAITED" (.ref ap)) (hpa:F5 P w K ap pk) (hpk:∀ wd,(Cu pk wd).isSome=(Bg wd).isSome/\∀ ns,Bg wd=some ns->∃ b,Cu pk wd=some (.ref b)/\∀ H,SqT K H b (ns.map V.int))
  (MS_:Ce Ar P w K mg base 1 C "make_steps" ["self", "many"] (Zab K C)) (MLf:Ce Ar P w K mg base 2 C "thing_of_leaf" ["self", "word", "note", "place", "around"] (Zae K C)):FnOk P w K mg base Ar 3 f fd ["self", "place", "around"] (Zek K C):=by
 refine F.okq sc_Machine_come_to (fun vs H Q E h=>?_) (fun cdv A outer s H vs Q E hr h=>?_)
 ·obtain ⟨p,e,pl,ev,ar,HB,kvs,L,S,v,wd,d,ts,rfl,_⟩:=h
  rfl
 ·obtain ⟨p,e,pl,ev,ar,HB,kvs,L,S,v,wd,d,ts,rfl,M,hp,he,ale,nA,hv,ht,nok,hpl,z1,z2,z3,z4,q⟩:=h
  refine ⟨_,Ae (Fe (Fb (Gs K) (Jn hr.u1 (Bs K (qv 0)) (qv 1) (fun _ _=>rfl)) (Fs) (Ey Ac)) (Dc K (n:=2) rfl (Bm (A9 (i:=3) sc_Machine_come_to.nd rfl (Or.inl rfl)) (Bm (A9 (i:=4) sc_Machine_come_to.nd rfl (Or.inl rfl)) (Di)))))
   (Ae (A0 (Ax (Ei K hr.u200) (qv 3) As (Aw _)) (Ag (Be (Cs (k:=1) K Ar ["self", "many"] (qv 0) hr.m C5 (Aa Ac Ab)))) A6)
   (Ag (A0 (Ax (O4 P w K) (qv 3) (E4 G_PARTS_AWAITED) (by rfl)) (Ae (Be (Bw K Pt P4 P5 Bz (Bs K (qv 0)) (Aa (An (Aa (qv 1) (Aa (qv 2) (Aa Dw Ab)))) Ab)))
   (Ag (Be (Bw K Pt Vs Vt Ot (Bs K (qv 0)) (Aa (Nt (N:=["number", "around", "place"]) (σ0:=Eh 1 [2,1]) rfl (Ga rfl (by decide +kernel) (by decide +kernel) (by decide +kernel)) (Eo K (Lj (Pc P w K) (E4 G_PARTS_AWAITED) (qv 3) (fun _ _=>rfl))) (Gj rfl (by rfl)) (fun _ _ _ _=>A9 (i:=0) Zbt rfl (Or.inl rfl)) (fun _ _ _ _=>Gu) (fun _ _ _ _=>An (Aa (Aj (Ir K) (qv 2) (An (Aa (qv 0) Ab))) (Aa (qv 1) (Aa Dw Ab))))) Ab))))) (Ag (Be (Bw K Pt P4 P5 Bz (Bs K (qv 0)) (Aa (Cs (k:=2) K Ar ["self", "word", "note", "place", "around"] (qv 0) hr.m C5 (Aa (qv 3) (Aa (qv 4) (Aa (qv 1) (Aa (qv 2) Ab))))) Ab))))))),?_⟩
  have bg:=big
  cases ht with
  | @mk b pp _ nv _ vs _ qb hn qpp hl hch =>
  walk_at "r"
  refine ⟨_,rfl,L.m,C,L.dx,_,_,rfl,M.ins,O.cl,O.nf,Mj L S.steps,_,rfl,L.fd,.ref b,rfl,?_,?_⟩
  ·rw [<- hv]
   refine DGet.t M.frm ?_
   rw [Ke]
   exact hp
  walk_at "r"
  refine .inr (.inr ⟨b,_,rfl,qb,by show ¬(HT.sIx 3 0 none=0/\HT.sIx 3 3 (some 2)=3); decide,fun p1 h1=>?_⟩)
  rw [show B0 [V.str wd,nv,.ref pp] none (some 2)=[V.str wd,nv] from rfl]
  have s1:Same H (upd H p1 (.tup [.str wd,nv])):=Same.upd h1
  have e1:upd H p1 (.tup [.str wd,nv]) p1=some (.tup [.str wd,nv]):=Ad
  have hp1:=s1 _ _ hp
  have he1:=s1 _ _ he
  have M1:=M.new s1
  have hn1:IsN K (upd H p1 (.tup [.str wd,nv])) nv d:=hn.same s1.t
  revert s1 e1 hp1 he1 M1 hn1
  generalize upd H p1 (.tup [.str wd,nv])=H1
  intro s1 e1 hp1 he1 M1 hn1
  refine Db (SqT.of e1) rfl ?_
  refine s_gcons ?_
  refine s_gname ?_
  refine s_gcons ?_
  refine s_gname ?_
  refine s_gnil ?_
  with_reducible refine s_seq ?_
  obtain ⟨S1,hS1⟩:∃ S1,S1=(if wd = "gap" then S else { S with steps:=S.steps + 1 }):=⟨_,rfl⟩
  refine via (t:=F0 _ _ _) (R:=fun H2=>SameM L H1 H2/\MAt K HB C kvs L H2 S1) ?_ (fun Y hY=>?_)
  ·rintro H2 ⟨m2,M2⟩
   have a2:=M1.a m2
   have t2:=M1.t m2
   have hp2:=(t2 p).1 _ hp1
   have he2:=a2.2 _ _ nA he1
   have ale2:Al (PrAt K H2) ev ar:=ale.mono (PrAt.same (s1.t.trans t2))
   have m02:SameM L H H2:=(s1.m L).trans m2
   have hn2:IsN K H2 nv d:=hn1.same t2
   obtain ⟨y1,y2,y3⟩:S1.rows=S.rows/\S1.wait=S.wait/\S1.things=S.things:=by
    rw [hS1]
    split <;> exact ⟨rfl,rfl,rfl⟩
   have q:∀ H',SameM L H H'->MAt K HB C kvs L H' (match Bg wd with
    | some ns=>{ S1 with wait:=(S1.wait++[⟨pl,ar,true⟩])++ns.map fun n=>⟨pl++[n.toNat],ar,false⟩ }
    | none=>{ (Cj S1 wd (Eu d) pl ar).2 with things:=(Cj S1 wd (Eu d) pl ar).2.things++[(Cj S1 wd (Eu d) pl ar).1] })->Q .non H':=by
    intro H' e' M'
    refine q H' e' ?_
    unfold Es
    rw [<- hS1]
    exact M'
   walk_at "r"
   refine ⟨wd,ap,pk,rfl,rfl,hpa,?_⟩
   rw [(hpk wd).1]
   cases hpw:Bg wd with
   | none =>
    rw [hpw] at q
    walk_at "r"
    refine iteF ?_
    walk_at "r"
    obtain ⟨tv,et,att⟩:=M2.things
    refine ⟨_,rfl,L.m,C,L.dx,_,_,rfl,M2.ins,O.cl,O.nt,Fk L S1.steps,?_⟩
    refine Bj (SqL.of et) ?_
    walk_at "r"
    refine ⟨_,rfl,L.m,C,L.dx,_,_,rfl,M2.ins,(Cr L S1.steps).2.2.1,MLf,?_⟩
    walk_at "r"
    refine ⟨wd,nv,p,e,pl,ev,ar,HB,kvs,L,S1,rfl,M2,hp2,SqL.of he2,ale2,by rw [y1]; omega,(fun x=>by
     obtain ⟨v,rfl⟩:=nok.1 x
     rcases hn2 with ⟨h,_⟩ | ⟨a,vs,_,_,_,h⟩
     ·exact h
     ·cases h),(fun x=>by
     obtain ⟨z,rfl⟩:=nok.2 x
     rcases hn2 with ⟨_,h⟩ | ⟨a,vs,_,_,_,h⟩
     ·injection h with h; exact ⟨z,h.symm⟩
     ·cases h),fun v H3 e3 M3 t3=>?_⟩
    rw [Zh5 hn2 nok] at M3 t3
    obtain ⟨tv3,et3,at3⟩:=M3.things
    have hl3:tv3.length=S.things.length:=by rw [at3.1,Zkz,y3]
    walk_at "r"
    refine Bt et3 (by omega) ?_
    have M4:=M3.setThings (at3.snoc t3)
    walk_at "r"
    exact q _ (m02.trans (e3.trans (SameM.upd (.inr (.inr (.inr rfl)))))) M4
   | some ns =>
    rw [hpw] at q
    obtain ⟨nl,nn⟩:=Zp5 hpw
    obtain ⟨bt,hbt,qbt⟩:=(hpk wd).2 ns hpw
    walk_at "r"
    refine iteT ?_
    walk_at "r"
    obtain ⟨wv,ew,aw⟩:=M2.wait
    have hwl:wv.length=S.wait.length:=by rw [aw.1,y2]
    refine ⟨_,rfl,L.m,C,L.dx,_,_,rfl,M2.ins,O.cl,O.nw,Fp L S1.steps,?_⟩
    refine Bj (SqL.of ew) ?_
    walk_at "r"
    refine ⟨Bv,fun r hr'=>?_⟩
    obtain ⟨H3,s3,e3,z9⟩:=Av hr' (.tup [.ref p,.ref e,.bl true])
    rw [z9]
    walk_at "r"
    refine Bt (s3 _ _ ew) (by omega) ?_
    have M3:=M2.new s3
    have M4:=M3.setWait (wv:=wv++[.ref r]) (ws:=S1.wait++[⟨pl,ar,true⟩]) ((aw.mono (WtAt.same s3.a)).snoc ⟨r,p,e,ev,rfl,SqT.of e3,s3 _ _ hp2,s3 _ _ he2,ale2.mono (PrAt.same s3.t),nA⟩)
    have m34:SameM L H3 (upd H3 L.wd (.lst (wv++[.ref r]))):=SameM.upd (.inr (.inr (.inl rfl)))
    have ew4:upd H3 L.wd (.lst (wv++[.ref r])) L.wd=some (.lst (wv++[.ref r])):=Ad
    revert M4 m34 ew4
    generalize upd H3 L.wd (.lst (wv++[.ref r]))=H4
    intro M4 m34 ew4
    have t4:=M3.t m34
    have hp4:=(t4 p).1 _ (s3 _ _ hp2)
    have he4:=(M3.a m34).2 _ _ nA (s3 _ _ he2)
    have ale4:Al (PrAt K H4) ev ar:=ale2.mono (PrAt.same (s3.t.trans t4))
    have m04:SameM L H H4:=m02.trans ((s3.m L).trans m34)
    walk_at "r"
    refine ⟨_,rfl,L.m,C,L.dx,_,_,rfl,M4.ins,O.cl,O.nw,Fp L S1.steps,?_⟩
    refine Bj (SqL.of ew4) ?_
    walk_at "r"
    refine ⟨ap,pk,wd,.ref bt,rfl,rfl,hpa,hbt,.inr (.inl ⟨bt,rfl,⟨_,qbt _⟩,fun D hD=>?_⟩)⟩
    obtain ⟨rv4,er4,_⟩:=M4.rows
    obtain ⟨tv4,et4,_⟩:=M4.things
    have nD:¬ L.A D:=by
     rintro (z | z | z)
     ·rw [z,er4] at hD; cases hD
     ·rw [z,ew4] at hD; cases hD
     ·rw [z,et4] at hD; cases hD
    refine Zks (K:=K) (a:=bt) (xs:=ns.map V.int) (Pv:=fun i ys σ' H'=>∃ kv,σ'=[kv,some (.ref e),some (.ref p)]/\Al (WtAt K (fun b=>L.A b\/b=D) H') ys ((ns.take i).map fun n=>⟨pl++[n.toNat],ar,false⟩)/\Same H4 H') ⟨none,rfl,.nil,Same.upd hD⟩ (fun i ys σ' H' _ _=>qbt _) ?_ ?_
    ·rintro i x ys σ' H5 hx hys ⟨kv,rfl,al5,s5⟩
     rw [Qh] at hx
     obtain ⟨n,hni,rfl⟩:=Rz.mp hx
     have hin:i < ns.length:=(Pq.mp hni).1
     have n0:=nn n (Qv hni)
     obtain ⟨k,rfl⟩:∃ k:Nat,n=(k:Int):=⟨n.toNat,by omega⟩
     have hyl:ys.length<=2:=by rw [al5.1,Pp,Qe]; omega
     walk_at "r"
     refine ⟨Cw,fun p6 h6=>?_⟩
     obtain ⟨H6,s6,e6,z9⟩:=Av h6 (.tup [.int (k:Nat)])
     rw [z9]
     refine Ma (s6 _ _ (s5 _ _ hp4)) e6 (by unfold A1; rw [Pp,Pr]; omega) fun p7 H7 s7 e7=>?_
     walk_at "r"
     refine ⟨Bv,fun p8 h8=>?_⟩
     obtain ⟨H8,s8,e8,z9⟩:=Av h8 (.tup [.ref p7,.ref e,.bl false])
     rw [z9]
     have s58:=s6.trans (s7.trans s8)
     have s48:=s5.trans s58
     refine ⟨_,s58 _ _ hys,by omega,_,Ad,?_⟩
     have hD8:=s58 _ _ hys
     have sA:SameA (fun b=>L.A b\/b=D) H8 (upd H8 D (.lst (ys++[.ref p8]))):=SameA.set hD8 (.inr rfl)
     have nED:e≠D:=fun z=>by rw [<- z,he4] at hD; cases hD
     ·refine ⟨_,rfl,?_,s48.over hD⟩
      rw [Rj,hni,Tj,Qy,Sd]
      refine (al5.mono fun v x h=>WtAt.same sA v x (WtAt.same s58.a v x h)).snoc (WtAt.same sA _ _ ⟨p8,p7,e,ev,rfl,SqT.of e8,?_,s48 _ _ he4,ale4.mono (PrAt.same s48.t),fun h=>h.elim nA nED⟩)
      have e9:=s8 _ _ e7
      show H8 p7=some (.tup (A1 (pl++[((k:Nat):Int).toNat])))
      rw [show A1 (pl++[((k:Nat):Int).toNat])=A1 pl++[.int ((k:Nat):Int)] by unfold A1; rw [Qy]; simp]
      exact e9
    ·rintro ys σ' H5 hys ⟨kv,rfl,al5,s5⟩
     rw [Pp,Ts] at al5
     have al5:=al5.mono (WtAt.mono (B:=L.A) fun b hb _=>.inl hb)
     walk_at "r"
     have hyl:ys.length<=2:=by rw [al5.1,Pp]; omega
     refine ⟨L.wd,D,_,ys,rfl,rfl,s5 _ _ ew4,hys,by rw [Pi,Pr]; omega,?_⟩
     have M5:=M4.new s5
     obtain ⟨wv5,ew5,aw5⟩:=M5.wait
     have ew5':wv5=wv++[.ref r]:=by rw [s5 _ _ ew4] at ew5; cases ew5; rfl
     subst ew5'
     have M6:=M5.setWait (aw5.append al5)
     walk_at "r"
     exact q _ (m04.trans ((s5.m L).trans (SameM.upd (.inr (.inr (.inl rfl)))))) M6
  ·walk_at "r"
   by_cases hg:wd = "gap"
   ·rw [decide_eq_true (by rw [hg])]
    walk_at "r"
    exact hY _ ⟨SameM.refl _ _,by rw [hS1,if_pos hg]; exact M1⟩
   ·rw [decide_eq_false (fun h=>hg (V.str.inj h))]
    walk_at "r"
    refine ⟨_,rfl,L.m,C,L.dx,_,_,rfl,M1.ins,(Cr L S.steps).1,MS_,?_⟩
    walk_at "r"
    refine ⟨1,HB,kvs,L,S,rfl,M1,z4 hg,fun H2 e2 M2=>?_⟩
    walk_at "r"
    exact hY _ ⟨e2,by rw [hS1,if_neg hg]; exact M2⟩
noncomputable def Zd8 (K:Pd) (C TL:Addr):Sp:=fun vs H _ E=>∃ (p e:Addr) (pl:List Nat) (ev:List V) (ar:List (Str×Str×V)) (HB:Hp) (kvs:List (List Ao×V)) (L:Ml) (S:MS) (v:V) (wd:Str) (d:Dt) (ts:List Tr),vs=[.ref L.m,.ref p,.ref e]/\MAt K HB C kvs L H S/\H p=some (.tup (A1 pl))/\H e=some (.lst ev)/\Al (PrAt K H) ev ar/\¬ L.A e/\Bu kvs (C0 pl)=some v/\TrAt K H v (.mk wd d ts)/\wd ≠ "gap" /\ 500 < S.steps + 1 /\
 ∀ H',SameM L H H'->E (.ref TL) none H'
theorem Zpk {C TL:Addr} {f:Addr} {fd:FuncData} (F:Fun K "come_to" "Machine.come_to" Ha f fd) (T:Txt K mg) (O:Mc K C) {ap:Addr} {pk:List (Str×V)} (G_PARTS_AWAITED:En mg "PARTS_AWAITED" (.ref ap)) (hpa:F5 P w K ap pk) (hpk:∀ wd,(Cu pk wd).isSome=(Bg wd).isSome/\∀ ns,Bg wd=some ns->∃ b,Cu pk wd=some (.ref b)/\∀ H,SqT K H b (ns.map V.int))
  (MS_:Ce (Bk P w) P w K mg base 1 C "make_steps" ["self", "many"] (Zfv K C TL)) (MLf:Ce Ar P w K mg base 2 C "thing_of_leaf" ["self", "word", "note", "place", "around"] (Zae K C)):FnOk P w K mg base (Bk P w) 3 f fd ["self", "place", "around"] (Zd8 K C TL):=by
 refine F.okx sc_Machine_come_to (fun vs H Q E h=>?_) (fun cdv A outer s H vs Q E hr h=>?_)
 ·obtain ⟨p,e,pl,ev,ar,HB,kvs,L,S,v,wd,d,ts,rfl,_⟩:=h
  rfl
 ·obtain ⟨p,e,pl,ev,ar,HB,kvs,L,S,v,wd,d,ts,rfl,M,hp,he,ale,nA,hv,ht,hg,h5,q⟩:=h
  refine ⟨_,Ae (Fe (Fb (Gs K) (Jn hr.u1 (Bs K (qv 0)) (qv 1) (fun _ _=>rfl)) (Fs) (Ey Ac)) (Dc K (n:=2) rfl (Bm (A9 (i:=3) sc_Machine_come_to.nd rfl (Or.inl rfl)) (Bm (A9 (i:=4) sc_Machine_come_to.nd rfl (Or.inl rfl)) (Di)))))
   (Ae (A0 (Ax (Ei K hr.u200) (qv 3) As (Aw _)) (Ag (Be (Cs (k:=1) K (Bk P w) ["self", "many"] (qv 0) hr.m (Gy (fun _ _ _ h=>h)) (Aa Ac Ab)))) A6)
   (Ag (A0 (Ax (O4 P w K) (qv 3) (E4 G_PARTS_AWAITED) (by rfl)) (Ae (Be (Bw K Pt P4 P5 Bz (Bs K (qv 0)) (Aa (An (Aa (qv 1) (Aa (qv 2) (Aa Dw Ab)))) Ab)))
   (Ag (Be (Bw K Pt Vs Vt Ot (Bs K (qv 0)) (Aa (Nt (N:=["number", "around", "place"]) (σ0:=Eh 1 [2,1]) rfl (Ga rfl (by decide +kernel) (by decide +kernel) (by decide +kernel)) (Eo K (Lj (Pc P w K) (E4 G_PARTS_AWAITED) (qv 3) (fun _ _=>rfl))) (Gj rfl (by rfl)) (fun _ _ _ _=>A9 (i:=0) Zbt rfl (Or.inl rfl)) (fun _ _ _ _=>Gu) (fun _ _ _ _=>An (Aa (Aj (Ir K) (qv 2) (An (Aa (qv 0) Ab))) (Aa (qv 1) (Aa Dw Ab))))) Ab))))) (Ag (Be (Bw K Pt P4 P5 Bz (Bs K (qv 0)) (Aa (Cs (k:=2) K Ar ["self", "word", "note", "place", "around"] (qv 0) hr.m C5 (Aa (qv 3) (Aa (qv 4) (Aa (qv 1) (Aa (qv 2) Ab))))) Ab))))))),?_⟩
  have bg:=big
  cases ht with
  | @mk b pp _ nv _ vs _ qb hn qpp hl hch =>
  walk_at "r"
  refine ⟨_,rfl,L.m,C,L.dx,_,_,rfl,M.ins,O.cl,O.nf,Mj L S.steps,_,rfl,L.fd,.ref b,rfl,?_,?_⟩
  ·rw [<- hv]
   refine DGet.t M.frm ?_
   rw [Ke]
   exact hp
  walk_at "r"
  refine .inr (.inr ⟨b,_,rfl,qb,by show ¬(HT.sIx 3 0 none=0/\HT.sIx 3 3 (some 2)=3); decide,fun p1 h1=>?_⟩)
  rw [show B0 [V.str wd,nv,.ref pp] none (some 2)=[V.str wd,nv] from rfl]
  have s1:Same H (upd H p1 (.tup [.str wd,nv])):=Same.upd h1
  have e1:upd H p1 (.tup [.str wd,nv]) p1=some (.tup [.str wd,nv]):=Ad
  have hp1:=s1 _ _ hp
  have he1:=s1 _ _ he
  have M1:=M.new s1
  have hn1:IsN K (upd H p1 (.tup [.str wd,nv])) nv d:=hn.same s1.t
  revert s1 e1 hp1 he1 M1 hn1
  generalize upd H p1 (.tup [.str wd,nv])=H1
  intro s1 e1 hp1 he1 M1 hn1
  refine Db (SqT.of e1) rfl ?_
  refine s_gcons ?_
  refine s_gname ?_
  refine s_gcons ?_
  refine s_gname ?_
  refine s_gnil ?_
  with_reducible refine s_seq ?_
  walk_at "r"
  rw [decide_eq_false (fun h=>hg (V.str.inj h))]
  walk_at "r"
  refine ⟨_,rfl,L.m,C,L.dx,_,_,rfl,M1.ins,(Cr L S.steps).1,MS_,?_⟩
  walk_at "r"
  exact ⟨1,HB,kvs,L,S,rfl,M1,h5,fun H2 e2=>q _ ((s1.m L).trans e2)⟩
noncomputable def Cy (rs:List Rx) (x:Str×V):Bool:=match x with
 | (w,.int k)=>decide (w = "row") && (match rs[k.toNat]? with | some r=>decide (r.wd∈(["fn", "rec"]:List Str)) | none=>false)
 | _=>false
noncomputable def Jc (rs:List Rx) (x:Str×V):Prop:=x.1 = "row" -> ∃ k:Nat,x.2=.int (k:Nat)/\k < rs.length
noncomputable def Zfj (K:Pd):Sp:=fun vs H Q _=>∃ (v:V) (x:Str×V) (r:Addr) (rv:List V) (A:Addr->Prop) (rs:List Rx),vs=[v,.ref r]/\ThAt K H v x/\x.1 = "row" /\ Jc rs x/\H r=some (.lst rv)/\Al (RwAt K A H) rv rs/\∀ H',Same H H'->Q (.bl (Cy rs x)) H'
theorem Zix:A2 ["thing", "rows"] ["thing", "rows"] (Az Ko):=by walk_at "sc"
theorem Zhn {f:Addr} {fd:FuncData} (F:Fun K "is_finished" "is_finished" Ko f fd) (T:Txt K mg):FnOk P w K mg base Ar 1 f fd ["thing", "rows"] (Zfj K):=by
 refine F.okq Zix (fun vs H Q E h=>?_) (fun cdv A outer s H vs Q E hr h=>?_)
 ·obtain ⟨v,x,r,rv,A,rs,rfl,_⟩:=h
  rfl
 ·obtain ⟨v,x,r,rv,B,rs,rfl,hx,hw,ok,er,al,q⟩:=h
  refine ⟨_,Ag (Au (Zrh (C3 (Ei K hr.u200) (Ah K (qv 0) Ac) As (Aw _)) (Fd (C3 (E7 K) (Ah K (Ah K (qv 1) (Ah K (qv 0) Ac)) Ac) (An (Aa As (Aa As Ab))) (by rfl))))),?_⟩
  obtain ⟨hf,a,rfl,qa⟩:=hx
  obtain ⟨k,ek,hk⟩:=ok hw
  obtain ⟨xw,xv⟩:=x
  have hw:xw = "row" := hw
  have ek:xv=.int (k:Nat):=ek
  subst hw ek
  have hkr:k < rv.length:=by rw [al.1]; exact hk
  obtain ⟨y,hy,a2,p2,o2,e2,ov,ev,h1,h2,_⟩:=al.get (Pg hkr)
  have ef:Cy rs ("row",.int (k:Nat))=decide (y.wd∈(["fn", "rec"]:List Str)):=by
   unfold Cy
   simp only [Q7,hy,decide_true,Bool.true_and]
  rw [ef] at q
  walk_at "r"
  refine Ak qa rfl ?_
  walk_at "r"
  rw [decide_eq_true (Eq.refl _)]
  walk_at "r"
  refine Ak qa rfl ?_
  walk_at "r"
  refine Bd (SqL.of er) (Bh (Pg hkr)) ?_
  rw [h1]
  walk_at "r"
  refine Ak h2 rfl ?_
  walk_at "r"
  refine ⟨A7,fun p1 hp1=>?_⟩
  refine Ec (.inr (SqT.of Ad)) rfl rfl ?_
  rw [if_neg Po,show C9 (.str y.wd) [.str "fn",.str "rec"]=decide (y.wd∈(["fn", "rec"]:List Str)) from Et (ws:=["fn", "rec"])]
  exact q _ (Same.upd hp1)
noncomputable def Zdr (K:Pd) (C:Addr):Sp:=fun vs H Q _=>∃ (v:V) (x:Str×V) (HB:Hp) (kvs:List (List Ao×V)) (L:Ml) (S:MS),vs=[.ref L.m,v]/\MAt K HB C kvs L H S/\ThAt K H v x/\Jc S.rows x/\∀ H',Same H H'->Q (.bl (Cy S.rows x)) H'
theorem Zl0:A2 ["self", "thing"] ["self", "thing"] (Az Iz):=by walk_at "sc"
theorem Znp {C:Addr} {f:Addr} {fd:FuncData} (F:Fun K "is_function" "Machine.is_function" Iz f fd) (T:Txt K mg) (O:Mc K C) (C_is_finished:Bb P w K mg base 1 "is_finished" ["thing", "rows"] (Zfj K)):FnOk P w K mg base Ar 2 f fd ["self", "thing"] (Zdr K C):=by
 refine F.okq Zl0 (fun vs H Q E h=>?_) (fun cdv A outer s H vs Q E hr h=>?_)
 ·obtain ⟨v,x,HB,kvs,L,S,rfl,_⟩:=h
  rfl
 ·obtain ⟨v,x,HB,kvs,L,S,rfl,M,hx,ok,q⟩:=h
  refine ⟨_,Ag (Au (Fl (C3 (Ba K hr.u200) (Ah K (qv 1) Ac) As (Aw _)) (Fd (A3 C_is_finished hr.m (Aa (qv 1) (Aa (Bs K (qv 0)) Ab)))))),?_⟩
  obtain ⟨hf,a,rfl,qa⟩:=id hx
  obtain ⟨rv,er,ar,spr⟩:=M.rows
  walk_at "r"
  refine Ak qa rfl ?_
  walk_at "r"
  rw [A8]
  by_cases hw:x.1 = "row"
  ·rw [decide_eq_true hw]
   walk_at "r"
   refine ⟨_,rfl,L.m,C,L.dx,_,_,rfl,M.ins,O.cl,O.nr,Jf L S.steps,?_⟩
   walk_at "r"
   exact ⟨_,x,L.rd,rv,_,S.rows,rfl,hx,hw,ok,er,ar.mono fun v x h=>h.1,q⟩
  ·rw [decide_eq_false hw]
   have e:Cy S.rows x=false:=by
    unfold Cy
    split
    ·simp only at hw
     rw [decide_eq_false hw]
     rfl
    ·rfl
   rw [e] at q
   walk_at "r"
   exact q H (Same.refl _)
noncomputable def Dj (wd:Str) (d:Dt) (n:Int):List Str :=
 if wd = "fn" then (match d with | .flat (.str z)=>[z] | _=>[])
 else if wd = "rec" then (match d with | .tup [.flat (.str y),.flat (.str z)]=>[y,z] | _=>[])
 else if wd = "let" /\ n=1 then (match d with | .flat (.str z)=>[z] | _=>[])
 else []
noncomputable def Gp (wd:Str) (d:Dt):Prop:=(wd = "fn" \/ wd = "let" -> ∃ z,d=.flat (.str z))/\(wd = "rec" -> ∃ y z,d=.tup [.flat (.str y),.flat (.str z)])
noncomputable def Zdq (K:Pd):Sp:=fun vs H Q _=>∃ (v:V) (wd:Str) (d:Dt) (ts:List Tr) (n:Int),vs=[v,.int n]/\TrAt K H v (.mk wd d ts)/\Gp wd d/\∀ l H',Same H H'->H l=none->H' l=some (.lst ((Dj wd d n).map V.str))->Q (.ref l) H'
theorem Zmb:A2 ["form", "number"] ["form", "number"] (Az K5):=by walk_at "sc"
theorem Zqm {f:Addr} {fd:FuncData} (F:Fun K "names_bound" "names_bound" K5 f fd) (T:Txt K mg):FnOk P w K mg base Ar 1 f fd ["form", "number"] (Zdq K):=by
 refine F.okq Zmb (fun vs H Q E h=>?_) (fun cdv A outer s H vs Q E hr h=>?_)
 ·obtain ⟨v,wd,d,ts,n,rfl,_⟩:=h
  rfl
 ·obtain ⟨v,wd,d,ts,n,rfl,ht,ok,q⟩:=h
  refine ⟨_,Ae (A0 (Ax (Ba K hr.u200) (Ah K (qv 0) Ac) As (Aw _)) (Ag (Au (Bc (Aa (Ah K (qv 0) Ac) Ab)))) A6)
   (Ae (A0 (Ax (Ba K hr.u200) (Ah K (qv 0) Ac) As (Aw _)) (Ag (Au (Dk (Gr K) (by rfl) T.list (by decide +kernel) (Aa (Ah K (qv 0) Ac) Ab)))) A6)
   (Ae (A0 (QW.qt (Da (Ax (Ba K hr.u200) (Ah K (qv 0) Ac) As (Aw _)) (Dp (Ax (Ba K hr.u200) (qv 1) Ac (Aw _))))) (Ag (Au (Bc (Aa (Ah K (qv 0) Ac) Ab)))) A6)
   (Ag (Au (Bc Ab))))),?_⟩
  cases ht with
  | @mk b pp _ nv _ vs _ qb hn qpp hl hch =>
  have flat:∀ z,d=.flat (.str z)->nv=.str z:=by
   intro z e
   rcases hn with ⟨_,h⟩ | ⟨_,_,_,_,_,h⟩
   ·rw [e] at h; injection h with h; exact h.symm
   ·rw [e] at h; cases h
  unfold Dj at q
  walk_at "r"
  refine Ak qb rfl ?_
  walk_at "r"
  rw [A8]
  refine B4 (fun h=>?_) (fun h=>?_)
  ·have h:wd = "fn" := of_decide_eq_true h
   obtain ⟨z,rfl⟩:=ok.1 (.inl h)
   have:=flat z rfl
   subst this
   rw [if_pos h] at q
   walk_at "r"
   refine Ak qb rfl ?_
   walk_at "r"
   refine ⟨Cw,fun l hl'=>?_⟩
   exact q l _ (Same.upd hl') hl' Ad
  have h:¬ wd = "fn" := fun x=>h (decide_eq_true x)
  rw [if_neg h] at q
  walk_at "r"
  refine Ak qb rfl ?_
  walk_at "r"
  rw [A8]
  refine B4 (fun h=>?_) (fun h=>?_)
  ·have h:wd = "rec" := of_decide_eq_true h
   obtain ⟨y,z,rfl⟩:=ok.2 h
   rw [if_pos h] at q
   obtain ⟨a,us,rfl,qa,hus⟩:∃ a us,nv=.ref a/\SqT K H a us/\us=[.str y,.str z]:=by
    rcases hn with ⟨_,h⟩ | ⟨a,us,e,qa,_,h⟩
    ·cases h
    ·refine ⟨a,us,e,qa,?_⟩
     injection h with h
     obtain ⟨u1,u2,rfl⟩:=lz2 (vs:=us) (by have:=congrArg Sz h; rw [Pp] at this; exact this.symm)
     simp only [Qj,Vg,U6,Dt.flat.injEq,and_true] at h
     rw [h.1,h.2]
   subst hus
   walk_at "r"
   refine Ak qb rfl ?_
   walk_at "r"
   refine ⟨a,_,rfl,.inr qa,fun l hl'=>?_⟩
   exact q l _ (Same.upd hl') hl' Ad
  have h:¬ wd = "rec" := fun x=>h (decide_eq_true x)
  rw [if_neg h] at q
  walk_at "r"
  refine Ak qb rfl ?_
  walk_at "r"
  rw [A8]
  by_cases hlet:wd = "let"
  ·rw [decide_eq_true hlet]
   walk_at "r"
   by_cases hn1:n=1
   ·rw [decide_eq_true (by rw [hn1])]
    obtain ⟨z,rfl⟩:=ok.1 (.inr hlet)
    have:=flat z rfl
    subst this
    rw [if_pos ⟨hlet,hn1⟩] at q
    walk_at "r"
    refine Ak qb rfl ?_
    walk_at "r"
    refine ⟨Cw,fun l hl'=>?_⟩
    exact q l _ (Same.upd hl') hl' Ad
   ·rw [decide_eq_false (fun h=>hn1 (V.int.inj h))]
    rw [if_neg (fun h=>hn1 h.2)] at q
    walk_at "r"
    refine ⟨Bf,fun l hl'=>?_⟩
    exact q l _ (Same.upd hl') hl' Ad
  ·rw [decide_eq_false hlet]
   rw [if_neg (fun h=>hlet h.1)] at q
   walk_at "r"
   refine ⟨Bf,fun l hl'=>?_⟩
   exact q l _ (Same.upd hl') hl' Ad
noncomputable def Gg (ns:List Str) (xs:List (Str×V)):List (Str×Str×V):=ns.zip xs
noncomputable def E5 (S:MS) (wd:Str) (d:Dt) (pl:List Nat) (n:Nat) (ar:List (Str×Str×V)) (xs:List (Str×V)):MS:={ S with wait:=S.wait++[⟨pl++[n],ar++Gg (Dj wd d n) xs,false⟩] }
noncomputable def Mb (K:Pd) (C:Addr):Sp:=fun vs H Q _=>∃ (p e o:Addr) (n:Nat) (pl:List Nat) (ev ov:List V) (ar:List (Str×Str×V)) (xs:List (Str×V)) (HB:Hp) (kvs:List (List Ao×V)) (L:Ml) (S:MS) (v:V) (wd:Str) (d:Dt) (ts:List Tr),vs=[.ref L.m,.ref p,.int (n:Nat),.ref e,.ref o]/\MAt K HB C kvs L H S/\H p=some (.tup (A1 pl))/\H e=some (.lst ev)/\Al (PrAt K H) ev ar/\H o=some (.lst ov)/\Al (ThAt K H) ov xs/\Bu kvs (C0 pl)=some v/\TrAt K H v (.mk wd d ts)/\Gp wd d/\pl.length<=2000/\ar.length<=9000/\S.wait.length < 9000 /\
 ∀ H',SameM L H H'->MAt K HB C kvs L H' (E5 S wd d pl n ar xs)->Q .non H'
theorem Zf6:A2 ["self", "place", "number", "around", "things", "names"] ["self", "place", "number", "around", "things"] (Az Jp):=by walk_at "sc"
theorem Zej (wd:Str) (d:Dt) (n:Int):(Dj wd d n).length<=2:=by
 unfold Dj
 repeat' split
 all_goals simp
theorem Zkl {C:Addr} {f:Addr} {fd:FuncData} (F:Fun K "go_within" "Machine.go_within" Jp f fd) (T:Txt K mg) (O:Mc K C) (C_names_bound:Bb P w K mg base 1 "names_bound" ["form", "number"] (Zdq K)):FnOk P w K mg base Ar 2 f fd ["self", "place", "number", "around", "things"] (Mb K C):=by
 refine F.okq Zf6 (fun vs H Q E h=>?_) (fun cdv A outer s H vs Q E hr h=>?_)
 ·obtain ⟨p,e,o,n,pl,ev,ov,ar,xs,HB,kvs,L,S,v,wd,d,ts,rfl,_⟩:=h
  rfl
 ·obtain ⟨p,e,o,n,pl,ev,ov,ar,xs,HB,kvs,L,S,v,wd,d,ts,rfl,M,hp,he,ale,ho,alo,hv,ht,bk,hpl,hal,hwl,q⟩:=h
  refine ⟨_,Ae (Ay 5 Zf6 (A3 C_names_bound hr.m (Aa (Jn hr.u1 (Bs K (qv 0)) (qv 1) (fun _ _=>rfl)) (Aa (qv 2) Ab))))
   (Ag (Be (Bw K Pt P4 P5 Bz (Bs K (qv 0)) (Aa (An (Aa (Aj (Ir K) (qv 1) (An (Aa (qv 2) Ab))) (Aa (Aj (Cg K) (qv 3) (Zmi K (by rfl) T.list (by rfl) T.zip (Aa (qv 5) (Aa (qv 4) Ab)))) (Aa Dw Ab)))) Ab)))),?_⟩
  have bg:=big
  have bn:=Zej wd d n
  walk_at "r"
  refine ⟨_,rfl,L.m,C,L.dx,_,_,rfl,M.ins,O.cl,O.nf,Mj L S.steps,_,rfl,L.fd,v,rfl,?_,?_⟩
  ·rw [<- hv]
   refine DGet.t M.frm ?_
   rw [Ke]
   exact hp
  walk_at "r"
  refine ⟨v,wd,d,ts,n,rfl,ht,bk,fun l H1 s1 hl e1=>?_⟩
  have M1:=M.new s1
  obtain ⟨wv,ew,aw⟩:=M1.wait
  have hwv:=aw.1
  walk_at "r"
  refine ⟨_,rfl,L.m,C,L.dx,_,_,rfl,M1.ins,O.cl,O.nw,Fp L S.steps,?_⟩
  refine Bj (SqL.of ew) ?_
  walk_at "r"
  refine ⟨Cw,fun p2 hp2=>?_⟩
  obtain ⟨H2,s2,e2,z9⟩:=Av hp2 (.tup [.int (n:Nat)])
  rw [z9]
  refine Ma (s2 _ _ (s1 _ _ hp)) e2 (by unfold A1; rw [Pp,Pr]; omega) fun p3 H3 s3 e3=>?_
  have s03:=s1.trans (s2.trans s3)
  walk_at "r"
  refine Zre ?_
  walk_at "r"
  refine ⟨l,o,_,ov,rfl,SqL.of (s3 _ _ (s2 _ _ e1)),SqL.of (s03 _ _ ho),fun z zs H4 hz0 s4 hzl hzp ez=>?_⟩
  have s04:=s03.trans s4
  have he4:=s04 _ _ he
  have alz:Al (PrAt K H4) zs (Gg (Dj wd d n) xs):=by
   have hlo:=alo.1
   refine ⟨by unfold Gg; rw [hzl,Pp,List.length_zip,hlo],fun j y x f1 f2=>?_⟩
   obtain ⟨t,u1,u2,rfl,g1,g2,g3⟩:=hzp j y f1
   unfold Gg at f2
   rw [List.getElem?_zip_eq_some] at f2
   rw [Qh,f2.1] at g1
   cases g1
   exact ⟨t,u2,rfl,SqT.of g3,ThAt.same s04.t _ _ (alo.2 j _ _ g2 f2.2)⟩
  have hzl2:zs.length<=2:=by rw [hzl,Pp]; omega
  have hel:=ale.1
  refine Zis he4 ez (by omega) fun e5 he5=>?_
  have s5:Same H4 (upd H4 e5 (.lst (ev++zs))):=Same.upd he5
  have ee5:upd H4 e5 (.lst (ev++zs)) e5=some (.lst (ev++zs)):=Ad
  have nA5:¬ L.A e5:=by
   have M4:=M.new s04
   obtain ⟨rv,er,_⟩:=M4.rows
   obtain ⟨wv',ew',_⟩:=M4.wait
   obtain ⟨tv,et,_⟩:=M4.things
   rintro (y | y | y)
   ·rw [y,er] at he5; cases he5
   ·rw [y,ew'] at he5; cases he5
   ·rw [y,et] at he5; cases he5
  revert s5 ee5
  generalize upd H4 e5 (.lst (ev++zs))=H5
  intro s5 ee5
  have s05:=s04.trans s5
  walk_at "r"
  refine ⟨Bv,fun r hr'=>?_⟩
  obtain ⟨H6,s6,e6,z9⟩:=Av hr' (.tup [.ref p3,.ref e5,.bl false])
  rw [z9]
  have s06:=s05.trans s6
  have s16:=s2.trans (s3.trans (s4.trans (s5.trans s6)))
  walk_at "r"
  refine Bt (s16 _ _ ew) (by omega) ?_
  have M6:=M.new s06
  have M7:=M6.setWait (wv:=wv++[.ref r]) (ws:=S.wait++[⟨pl++[n],ar++Gg (Dj wd d n) xs,false⟩]) ((aw.mono (WtAt.same s16.a)).snoc ⟨r,p3,e5,ev++zs,rfl,SqT.of e6,?_,s6 _ _ ee5,?_,nA5⟩)
  ·walk_at "r"
   exact q _ ((s06.m L).trans (SameM.upd (.inr (.inr (.inl rfl))))) M7
  ·have e9:=s6 _ _ (s5 _ _ (s4 _ _ e3))
   rw [e9]
   unfold A1
   rw [Qy]
   rfl
  ·exact (ale.mono (PrAt.same s06.t)).append (alz.mono (PrAt.same (s5.trans s6).t))
theorem Ic (L:Ml) (n:Int):(L.fs n).lookup ("go_within" : Str)=none/\(L.fs n).lookup ("is_function" : Str)=none/\(L.fs n).lookup ("call" : Str)=none:=⟨rfl,rfl,rfl⟩
noncomputable def Zf4 (K:Pd) (C:Addr):Sp:=fun vs H Q _=>∃ (o:Addr) (ov:List V) (k:Nat) (xs:List (Str×V)) (r:Rx) (pl:List Nat) (HB:Hp) (kvs:List (List Ao×V)) (L:Ml) (S:MS) (v:V) (wd:Str) (d:Dt) (ts:List Tr),vs=[.ref L.m,.ref o]/\MAt K HB C kvs L H S/\H o=some (.lst ov)/\Al (ThAt K H) ov (("row",.int (k:Nat)) :: xs)/\S.rows[k]?=some r/\r.pl=Ap pl/\Bu kvs (C0 pl)=some v/\TrAt K H v (.mk wd d ts)/\Gp wd d/\pl.length<=2000/\r.ar.length<=9000/\S.wait.length < 9000/\xs.length<=1000 /\
 ∀ H',SameM L H H'->MAt K HB C kvs L H' (E5 S wd d pl 0 r.ar (if r.wd = "rec" then ("row",.int (k:Nat)) :: xs else xs))->Q .non H'
theorem Zd0:A2 ["self", "operands", "row"] ["self", "operands"] (Az Ik):=by walk_at "sc"
theorem Zrj {C:Addr} {f:Addr} {fd:FuncData} (F:Fun K "call" "Machine.call" Ik f fd) (T:Txt K mg) (O:Mc K C) (MW:Ce Ar P w K mg base 2 C "go_within" ["self", "place", "number", "around", "things"] (Mb K C)):FnOk P w K mg base Ar 3 f fd ["self", "operands"] (Zf4 K C):=by
 refine F.okq Zd0 (fun vs H Q E h=>?_) (fun cdv A outer s H vs Q E hr h=>?_)
 ·obtain ⟨o,ov,k,xs,r,pl,HB,kvs,L,S,v,wd,d,ts,rfl,_⟩:=h
  rfl
 ·obtain ⟨o,ov,k,xs,r,pl,HB,kvs,L,S,v,wd,d,ts,rfl,M,ho,alo,hr1,hpl,hv,ht,bk,hpn,har,hwl,hxl,q⟩:=h
  refine ⟨_,Ae (Ay 2 Zd0 (Ah K (Bs K (qv 0)) (Ah K (Ah K (qv 1) Ac) Ac)))
   (Ag (Be (Cs (k:=2) K Ar ["self", "place", "number", "around", "things"] (qv 0) hr.m C5 (Aa (Ah K (qv 2) Ac) (Aa Ac (Aa (Ah K (qv 2) Ac) (Aa (Ll (Ax (Ba K hr.u200) (Ah K (qv 2) Ac) As (Aw _)) (qv 1) (Fb (Gs K) (qv 1) (Ey Ac) (Fs))) Ab))))))),?_⟩
  have bg:=big
  obtain ⟨rv,er,ar,spr⟩:=M.rows
  obtain ⟨u,hu⟩:∃ u,rv[k]?=some u:=⟨_,Pg (by rw [ar.1]; exact (Pq.mp hr1).1)⟩
  obtain ⟨r',hr',xr⟩:=ar.get hu
  rw [hr1] at hr'
  cases hr'
  obtain ⟨⟨a,p',o',e,ops',ev,rfl,qa,_,_,_,he,ale,_,nAe⟩,a2,p,o2,e2,ea,qa2,hp⟩:=xr
  cases ea
  obtain ⟨u0,us,rfl⟩:∃ u0 us,ov=u0 :: us:=by
   have hl:=alo.1
   match ov,hl with
   | u0 :: us,_=>exact ⟨u0,us,rfl⟩
  obtain ⟨_,ax,rfl,qx⟩:=alo.2 0 u0 _ rfl rfl
  have hp':H p=some (.tup (A1 pl)):=by rw [hp,hpl,B9]
  walk_at "r"
  refine ⟨_,rfl,L.m,C,L.dx,_,_,rfl,M.ins,O.cl,O.nr,Jf L S.steps,?_⟩
  walk_at "r"
  refine Bd (SqL.of ho) (Bh (j:=0) rfl) ?_
  walk_at "r"
  refine Ak qx rfl ?_
  refine Bd (SqL.of er) (Bh hu) ?_
  walk_at "r"
  refine ⟨_,rfl,L.m,C,L.dx,_,_,rfl,M.ins,(Ic L S.steps).1,MW,?_⟩
  walk_at "r"
  refine Ak qa2 rfl ?_
  walk_at "r"
  refine Ak qa rfl ?_
  walk_at "r"
  unfold Ie
  walk_at "r"
  refine Ak qa rfl ?_
  walk_at "r"
  rw [A8]
  by_cases hw:r.wd = "rec"
  ·rw [if_pos hw] at q
   rw [decide_eq_true hw]
   walk_at "r"
   exact ⟨p,e,o,0,pl,ev,_,r.ar,_,HB,kvs,L,S,v,wd,d,ts,rfl,M,hp',he,ale,ho,alo,hv,ht,bk,hpn,har,hwl,fun H2 e2 M2=>by walk_at "r"; exact q _ e2 M2⟩
  ·rw [if_neg hw] at q
   rw [decide_eq_false hw]
   walk_at "r"
   refine Lh (SqL.of ho) fun l hl=>?_
   have ec:B0 (V.ref ax :: us) (some 1) none=us:=Zes _ 1
   rw [ec]
   obtain ⟨H2,s2,e2,z9⟩:=Av hl (.lst us)
   rw [z9]
   have alu:Al (ThAt K H2) us xs:=⟨by have:=alo.1; simpa using this,fun j y x f1 f2=>ThAt.same s2.t _ _ (alo.2 (j + 1) y x (by simpa using f1) (by simpa using f2))⟩
   exact ⟨p,e,l,0,pl,ev,us,r.ar,xs,HB,kvs,L,S,v,wd,d,ts,rfl,M.new s2,s2 _ _ hp',s2 _ _ he,ale.mono (PrAt.same s2.t),e2,alu,hv,ht.same s2,bk,hpn,har,hwl,fun H3 e3 M3=>by walk_at "r"; exact q _ ((s2.m L).trans e3) M3⟩
theorem Zg7 (xs:List V) (n:Nat) (h0:0 < n) (h:n<=xs.length):B0 xs (some (-(n:Int))) none=xs.drop (xs.length - n)/\B0 xs none (some (-(n:Int)))=xs.take (xs.length - n):=by
 unfold B0
 have e:∀ d,HT.sIx xs.length d (some (-(n:Int)))=xs.length - n:=by
  intro d
  show (if (-(n:Int)) < 0 then ((-(n:Int)) + (xs.length:Int)).toNat else min (-(n:Int)).toNat xs.length)=_
  rw [if_pos (by omega)]
  omega
 rw [e,e,HT.sIx_none,HT.sIx_none,T6,List.drop_zero]
 refine ⟨?_,rfl⟩
 rw [Qu (by rw [Se]; omega)]
noncomputable def Zcp (K:Pd) (C:Addr):Sp:=fun vs H Q _=>∃ (n:Nat) (th last:List (Str×V)) (HB:Hp) (kvs:List (List Ao×V)) (L:Ml) (S:MS),vs=[.ref L.m,.int (n:Nat)]/\MAt K HB C kvs L H S/\0 < n/\S.things=th++last/\last.length=n /\
 ∀ (l t:Addr) (lv:List V) (H':Hp),SameM L H H'->MAt K HB C kvs (L.with t) H' { S with things:=th }->H t=none->H' l=some (.lst lv)->Al (ThAt K H') lv last->H l=none->l≠t->Q (.ref l) H'
theorem Zcu:A2 ["self", "many", "taken"] ["self", "many"] (Az Jv):=by walk_at "sc"
theorem Zm8 {C:Addr} {f:Addr} {fd:FuncData} (F:Fun K "taken_things" "Machine.taken_things" Jv f fd) (T:Txt K mg) (O:Mc K C):FnOk P w K mg base Ar 1 f fd ["self", "many"] (Zcp K C):=by
 refine F.okq Zcu (fun vs H Q E h=>?_) (fun cdv A outer s H vs Q E hr h=>?_)
 ·obtain ⟨n,th,last,HB,kvs,L,S,rfl,_⟩:=h
  rfl
 ·obtain ⟨n,th,last,HB,kvs,L,S,rfl,M,n0,hS,hln,q⟩:=h
  refine ⟨_,Ae (Ay 2 Zcu (Fb (Gs K) (Bs K (qv 0)) (Ey (K2 Jz (qv 1))) (Fs)))
   (Ae (G6 K (qv 0) (Fb (Gs K) (Bs K (qv 0)) (Fs) (Ey (K2 Jz (qv 1)))))
   (Ag (Au (qv 2)))),?_⟩
  obtain ⟨tv,et,att⟩:=M.things
  have hlt:tv.length=th.length + n:=by rw [att.1,hS,Pi,hln]
  obtain ⟨c1,c2⟩:=Zg7 tv n n0 (by omega)
  have e0:tv.length - n=th.length:=by omega
  rw [e0] at c1 c2
  rw [hS] at att
  walk_at "r"
  refine ⟨_,rfl,L.m,C,L.dx,_,_,rfl,M.ins,O.cl,O.nt,Fk L S.steps,?_⟩
  walk_at "r"
  refine Lh (SqL.of et) fun l hl=>?_
  rw [c1]
  obtain ⟨H1,s1,e1,z9⟩:=Av hl (.lst (tv.drop th.length))
  rw [z9]
  have M1:=M.new s1
  walk_at "r"
  refine ⟨_,rfl,L.m,C,L.dx,_,_,rfl,M1.ins,O.cl,O.nt,Fk L S.steps,?_⟩
  walk_at "r"
  refine Lh (SqL.of (s1 _ _ et)) fun t ht=>?_
  rw [c2]
  obtain ⟨H2,s2,e2,z9⟩:=Av ht (.lst (tv.take th.length))
  rw [z9]
  have s02:=s1.trans s2
  have M2:=M.new s02
  have hlt':l≠t:=fun z=>by rw [<- z,e1] at ht; cases ht
  have ht0:=s1.free ht
  have a1:Al (ThAt K H2) (tv.take th.length) th:=⟨by rw [Qe]; omega,fun j v x f1 f2=>by
   have hj:j < th.length:=(Pq.mp f2).1
   rw [List.getElem?_take_of_lt hj] at f1
   exact ThAt.same s02.t _ _ (att.2 j v x f1 (by rw [Qa hj]; exact f2))⟩
  have a2:Al (ThAt K H2) (tv.drop th.length) last:=⟨by rw [Se]; omega,fun j v x f1 f2=>by
   rw [List.getElem?_drop] at f1
   exact ThAt.same s02.t _ _ (att.2 (th.length + j) v x f1 (by rw [Q2 (by omega),Nat.add_sub_cancel_left]; exact f2))⟩
  obtain ⟨M3,e3⟩:=M.swap s02 ht0 e2 a1
  refine ⟨_,rfl,L.m,C,L.dx,_,rfl,M2.ins,O.cl,O.nt,by show 5 < 1000; decide,?_⟩
  rw [Zlq]
  have nlm:l≠L.m:=fun z=>by rw [z,M.ins] at hl; cases hl
  walk_at "r"
  refine q l t _ _ e3 M3 ht0 ((Af nlm).trans (s2 _ _ e1)) (a2.mono (ThAt.same ?_)) hl hlt'
  exact M2.t (SameM.upd (.inl rfl))
noncomputable def Ff (wd:Str) (i j:Int):Str×V:=if wd = "plus" then ("num",.int (i + j)) else if wd = "minus" then ("num",.int (i - j)) else ("truth",.bl (decide (i < j)))
noncomputable def Ze6 (K:Pd):Sp:=fun vs H Q _=>∃ (wd:Str) (i j:Int),vs=[.str wd,.int i,.int j]/\∀ v H',Same H H'->ThAt K H' v (Ff wd i j)->Q v H'
theorem Zqj:A2 ["word", "left", "right"] ["word", "left", "right"] (Az Km):=by walk_at "sc"
theorem Znt {f:Addr} {fd:FuncData} (F:Fun K "reckoned" "reckoned" Km f fd) (T:Txt K mg):FnOk P w K mg base Ar 1 f fd ["word", "left", "right"] (Ze6 K):=by
 refine F.okq Zqj (fun vs H Q E h=>?_) (fun cdv A outer s H vs Q E hr h=>?_)
 ·obtain ⟨wd,i,j,rfl,_⟩:=h
  rfl
 ·obtain ⟨wd,i,j,rfl,q⟩:=h
  refine ⟨_,Ae (A0 (Ax (Ba K hr.u200) (qv 0) As (Aw _)) (Ag (Au (An (Aa As (Aa (Aj (Cg K) (qv 1) (qv 2)) Ab))))) A6)
   (Ae (A0 (Ax (Ba K hr.u200) (qv 0) As (Aw _)) (Ag (Au (An (Aa As (Aa (Aj D8 (qv 1) (qv 2)) Ab))))) A6)
   (Ag (Au (An (Aa As (Aa (C3 Ia (qv 1) (qv 2) (Aw _)) Ab)))))),?_⟩
  unfold Ff at q
  walk_at "r"
  rw [A8]
  refine B4 (fun h=>?_) (fun h=>?_)
  ·have h:wd = "plus" := of_decide_eq_true h
   rw [if_pos h] at q
   walk_at "r"
   refine ⟨A7,fun p hp=>?_⟩
   exact q _ _ (Same.upd hp) ⟨rfl,p,rfl,SqT.of Ad⟩
  have h:¬ wd = "plus" := fun x=>h (decide_eq_true x)
  rw [if_neg h] at q
  walk_at "r"
  rw [A8]
  refine B4 (fun h=>?_) (fun h=>?_)
  ·have h:wd = "minus" := of_decide_eq_true h
   rw [if_pos h] at q
   walk_at "r"
   refine ⟨A7,fun p hp=>?_⟩
   exact q _ _ (Same.upd hp) ⟨rfl,p,rfl,SqT.of Ad⟩
  have h:¬ wd = "minus" := fun x=>h (decide_eq_true x)
  rw [if_neg h] at q
  walk_at "r"
  refine ⟨A7,fun p hp=>?_⟩
  exact q _ _ (Same.upd hp) ⟨rfl,p,rfl,SqT.of Ad⟩
noncomputable def G9:V->Int
 | .int i=>i
 | _=>0
noncomputable def Gn (x:Str×V):Prop:=x.1 = "num" -> ∃ i,x.2=.int i
noncomputable def B7:List Str:=["plus", "minus", "less"]
noncomputable def Ew (S:MS) (wd:Str) (pl:List Nat) (th:List (Str×V)) (x y:Str×V):MS :=
 if wd∈B7/\x.1 = "num" /\ y.1 = "num" then { S with things:=th++[Ff wd (G9 x.2) (G9 y.2)] }
 else { S with rows:=S.rows++[⟨wd,Ap pl,[x,y],[]⟩],things:=th++[(("row" : Str),V.int (S.rows.length:Nat))] }
noncomputable def FormsAt (K:Pd) (H:Hp) (kvs:List (List Ao×V)) (sub:List Nat->Option (Str×Dt)):Prop:=∀ pl wd d,sub pl=some (wd,d)->pl.length<=2000/\∃ v ts,Bu kvs (C0 pl)=some v/\TrAt K H v (.mk wd d ts)
theorem FormsAt.same {K:Pd} {H H':Hp} {kvs:List (List Ao×V)} {sub:List Nat->Option (Str×Dt)} (h:FormsAt K H kvs sub) (e:SameT H H'):FormsAt K H' kvs sub:=fun pl wd d hs=>by
 obtain ⟨h1,v,ts,h2,h3⟩:=h pl wd d hs
 exact ⟨h1,v,ts,h2,h3.sameT e⟩
inductive E3 (sub:List Nat->Option (Str×Dt)) (wd:Str) (d:Dt) (pl:List Nat) (ar:List (Str×Str×V)) (S:MS):MS->Prop where
 | two {th:List (Str×V)} {x y:Str×V} (h:wd∈B7\/wd = "call" /\ Cy S.rows x=false) (hS:S.things=th++[x,y]) (ok:Jc S.rows x) (ox:Gn x) (oy:Gn y):E3 sub wd d pl ar S (Ew S wd pl th x y)
 | calls {th:List (Str×V)} {k:Nat} {y:Str×V} {r:Rx} {pl':List Nat} {wd':Str} {d':Dt} (h:wd = "call") (hS:S.things=th++[(("row" : Str),V.int (k:Nat)),y]) (hr:S.rows[k]?=some r) (hf:r.wd∈(["fn", "rec"]:List Str)) (hp:r.pl=Ap pl') (hs:sub pl'=some (wd',d')) (bk:Gp wd' d') (ha:r.ar.length<=9000):E3 sub wd d pl ar S (E5 { S with things:=th } wd' d' pl' 0 r.ar (if r.wd = "rec" then [(("row" : Str),V.int (k:Nat)),y] else [y]))
 | ifs {th:List (Str×V)} {b:Bool} (h:wd = "if") (hS:S.things=th++[(("truth" : Str),V.bl b)]) (bk:Gp wd d):E3 sub wd d pl ar S (E5 { S with things:=th } wd d pl (if b then 1 else 2) ar [])
 | ifr {th:List (Str×V)} {x:Str×V} (h:wd = "if") (hS:S.things=th++[x]) (hx:¬ x.1 = "truth"):E3 sub wd d pl ar S { S with rows:=S.rows++[⟨wd,Ap pl,[x],ar⟩],things:=th++[(("row" : Str),V.int (S.rows.length:Nat))] }
 | lets {th:List (Str×V)} {x:Str×V} (h:wd = "let") (hS:S.things=th++[x]) (bk:Gp wd d):E3 sub wd d pl ar S (E5 { S with things:=th } wd d pl 1 ar [x])
noncomputable def Zgd (K:Pd) (C:Addr):Sp:=fun vs H Q _=>∃ (p e:Addr) (pl:List Nat) (ev:List V) (ar:List (Str×Str×V)) (HB:Hp) (kvs:List (List Ao×V)) (L:Ml) (S S2:MS) (v:V) (wd:Str) (d:Dt) (ts:List Tr),vs=[.ref L.m,.ref p,.ref e]/\MAt K HB C kvs L H S/\H p=some (.tup (A1 pl))/\H e=some (.lst ev)/\Al (PrAt K H) ev ar/\¬ L.A e/\Bu kvs (C0 pl)=some v/\TrAt K H v (.mk wd d ts)/\∃ sub:List Nat->Option (Str×Dt),FormsAt K H kvs sub/\E3 sub wd d pl ar S S2/\S.rows.length < 9000/\S.things.length < 9000/\S.wait.length < 9000/\pl.length<=2000/\ar.length<=9000 /\
 ∀ H' t,SameM L H H'->MAt K HB C kvs (L.with t) H' S2->H t=none->Q .non H'
theorem Zac:A2 ["self", "place", "around", "word", "operands"] ["self", "place", "around"] (Az Jt):=by walk_at "sc"
theorem Zmr {C:Addr} {f:Addr} {fd:FuncData} (F:Fun K "go_further" "Machine.go_further" Jt f fd) (T:Txt K mg) (O:Mc K C) {ap:Addr} {pk:List (Str×V)} (G_PARTS_AWAITED:En mg "PARTS_AWAITED" (.ref ap)) (hpa:F5 P w K ap pk) (hpk:∀ wd,(Cu pk wd).isSome=(Bg wd).isSome/\∀ ns,Bg wd=some ns->∃ b,Cu pk wd=some (.ref b)/\∀ H,SqT K H b (ns.map V.int))
  (MT:Ce Ar P w K mg base 1 C "taken_things" ["self", "many"] (Zcp K C)) (MR:Ce Ar P w K mg base 1 C "new_row" ["self", "word", "place", "operands", "around"] (J2 K C)) (MW:Ce Ar P w K mg base 2 C "go_within" ["self", "place", "number", "around", "things"] (Mb K C)) (MC:Ce Ar P w K mg base 3 C "call" ["self", "operands"] (Zf4 K C)) (MI:Ce Ar P w K mg base 2 C "is_function" ["self", "thing"] (Zdr K C)) (C_are_numbers:Bb P w K mg base 1 "are_numbers" ["things"] (Zbv K)) (C_reckoned:Bb P w K mg base 1 "reckoned" ["word", "left", "right"] (Ze6 K)):FnOk P w K mg base Ar 4 f fd ["self", "place", "around"] (Zgd K C):=by
 refine F.okq Zac (fun vs H Q E h=>?_) (fun cdv A outer s H vs Q E hr h=>?_)
 ·obtain ⟨p,e,pl,ev,ar,HB,kvs,L,S,S2,v,wd,d,ts,rfl,_⟩:=h
  rfl
 ·obtain ⟨p,e,pl,ev,ar,HB,kvs,L,S,S2,v,wd,d,ts,rfl,M,hp,he,ale,nA,hv,ht,sub,FA,fur,z1,z3,z2,hpl,har,q⟩:=h
  refine ⟨_,Ae (Ay 3 Zac (Ah K (Jn hr.u1 (Bs K (qv 0)) (qv 1) (fun _ _=>rfl)) Ac))
   (Ae (Ay 4 Zac (Cs (k:=1) K Ar ["self", "many"] (qv 0) hr.m C5 (Aa (Bp (C6 K) (by rfl) T.len (by decide +kernel) (Aa (Lj (Pc P w K) (E4 G_PARTS_AWAITED) (qv 3) (fun _ _=>rfl)) Ab)) Ab)))
   (Ag (A0 (Ax (Ba K hr.u200) (qv 3) As (Aw _)) (Ag (Be (Cs (k:=2) K Ar ["self", "place", "number", "around", "things"] (qv 0) hr.m C5 (Aa (qv 1) (Aa Ac (Aa (qv 2) (Aa (qv 4) Ab))))))) (Ag (A0 (QW.qt (Da (Ax (Ba K hr.u200) (qv 3) As (Aw _)) (Dp (Ax (Ba K hr.u200) (Ah K (Ah K (qv 4) Ac) Ac) As (Aw _))))) (Ag (Be (Cs (k:=2) K Ar ["self", "place", "number", "around", "things"] (qv 0) hr.m C5 (Aa (qv 1) (Aa (Ll (Dm (Ah K (Ah K (qv 4) Ac) Ac)) Ac Ac) (Aa (qv 2) (Aa (Bc Ab) Ab))))))) (Ag (A0 (QW.qt (Da (Ax (Ba K hr.u200) (qv 3) As (Aw _)) (Dp (Dm (Cs (k:=2) K Ar ["self", "thing"] (qv 0) hr.m C5 (Aa (Ah K (qv 4) Ac) Ab)))))) (Ag (Be (Cs (k:=3) K Ar ["self", "operands"] (qv 0) hr.m C5 (Aa (qv 4) Ab)))) (Ag (A0 (QW.qt (Da (Ax (E7 K) (qv 3) (An (Aa As (Aa As (Aa As Ab)))) (by rfl)) (Dp (Dm (A3 C_are_numbers hr.m (Aa (qv 4) Ab)))))) (Ag (Be (Bw K Pt P4 P5 Bz (Bs K (qv 0)) (Aa (A3 C_reckoned hr.m (Aa (qv 3) (Aa (Ah K (Ah K (qv 4) Ac) Ac) (Aa (Ah K (Ah K (qv 4) Ac) Ac) Ab)))) Ab)))) (Ag (Be (Bw K Pt P4 P5 Bz (Bs K (qv 0)) (Aa (Cs (k:=1) K Ar ["self", "word", "place", "operands", "around"] (qv 0) hr.m C5 (Aa (qv 3) (Aa (qv 1) (Aa (qv 4) (Aa (qv 2) Ab))))) Ab))))))))))))),?_⟩
  have bg:=big
  have htr:=ht
  cases ht with
  | @mk b pp _ nv _ vs _ qb hn qpp hl hch =>
  walk_at "r"
  refine ⟨_,rfl,L.m,C,L.dx,_,_,rfl,M.ins,O.cl,O.nf,Mj L S.steps,_,rfl,L.fd,.ref b,rfl,?_,?_⟩
  ·rw [<- hv]
   refine DGet.t M.frm ?_
   rw [Ke]
   exact hp
  walk_at "r"
  refine Ak qb rfl ?_
  walk_at "r"
  refine ⟨_,rfl,L.m,C,L.dx,_,_,rfl,M.ins,(Cr L S.steps).2.2.2.2.2.1,MT,?_⟩
  cases fur with
  | @lets th x hwl hS bk =>
   subst hwl
   obtain ⟨bt,hbt,qbt⟩:=(hpk "let").2 [0] (by decide +kernel)
   walk_at "r"
   refine ⟨ap,pk, "let",.ref bt,rfl,rfl,hpa,hbt,?_⟩
   walk_at "r"
   refine Fa (qbt _) ?_
   walk_at "r"
   refine ⟨1,th,[x],HB,kvs,L,S,rfl,M,by decide,hS,rfl,fun o t ov H1 e1 M1 ht0 ho alo ho0 hot=>?_⟩
   have t1:=M.t e1
   walk_at "r"
   rw [decide_eq_true (Eq.refl _)]
   refine iteT ?_
   walk_at "r"
   refine ⟨_,rfl,L.m,C,L.dx,_,_,rfl,M1.ins,(Ic (L.with t) S.steps).1,MW,?_⟩
   walk_at "r"
   refine ⟨p,e,o,1,pl,ev,ov,ar,[x],HB,kvs,L.with t,_,.ref b, "let",d,ts,rfl,M1,(t1 p).1 _ hp,(M.a e1).2 _ _ nA he,ale.mono (PrAt.same t1),ho,alo,hv,htr.sameT t1,bk,hpl,har,z2,fun H2 e2 M2=>?_⟩
   walk_at "r"
   exact q _ t (e1.trans' (L':=L.with t) e2 rfl rfl rfl (.inr ht0)) M2 ht0
  | @ifs th b2 hwi hS bk =>
   subst hwi
   obtain ⟨bt,hbt,qbt⟩:=(hpk "if").2 [0] (by decide +kernel)
   walk_at "r"
   refine ⟨ap,pk, "if",.ref bt,rfl,rfl,hpa,hbt,?_⟩
   walk_at "r"
   refine Fa (qbt _) ?_
   walk_at "r"
   refine ⟨1,th,[("truth",.bl b2)],HB,kvs,L,S,rfl,M,by decide,hS,rfl,fun o t ov H1 e1 M1 ht0 ho alo ho0 hot=>?_⟩
   have t1:=M.t e1
   obtain ⟨u1,us,rfl⟩:∃ u1 us,ov=u1 :: us:=by
    have hl:=alo.1
    match ov,hl with
    | u1 :: us,_=>exact ⟨u1,us,rfl⟩
   obtain ⟨_,ax,rfl,qx⟩:=alo.2 0 u1 _ rfl rfl
   walk_at "r"
   rw [A8,decide_eq_false (by decide +kernel)]
   walk_at "r"
   rw [A8,decide_eq_true (Eq.refl _)]
   walk_at "r"
   refine Bd (SqL.of ho) (Bh (j:=0) rfl) ?_
   walk_at "r"
   refine Ak qx rfl ?_
   walk_at "r"
   rw [A8,decide_eq_true (Eq.refl _)]
   walk_at "r"
   refine ⟨_,rfl,L.m,C,L.dx,_,_,rfl,M1.ins,(Ic (L.with t) S.steps).1,MW,?_⟩
   walk_at "r"
   unfold Ie
   walk_at "r"
   refine Bd (SqL.of ho) (Bh (j:=0) rfl) ?_
   walk_at "r"
   refine Ak qx rfl ?_
   have fin:∀ l H2,H1 l=none->H2=upd H1 l (.lst [])->Mb K C [.ref L.m,.ref p,.int ((if b2 then 1 else 2:Nat):Nat),.ref e,.ref l] H2 (fun v H'=>Q .non H') E0:=by
    intro l H2 hl hH2
    have s2:Same H1 H2:=by rw [hH2]; exact Same.upd hl
    have e2:H2 l=some (.lst []):=by rw [hH2]; exact Ad
    refine ⟨p,e,l,(if b2 then 1 else 2),pl,ev,[],ar,[],HB,kvs,L.with t,_,.ref b, "if",d,ts,rfl,M1.new s2,s2 _ _ ((t1 p).1 _ hp),s2 _ _ ((M.a e1).2 _ _ nA he),(ale.mono (PrAt.same t1)).mono (PrAt.same s2.t),e2,.nil,hv,(htr.sameT t1).same s2,bk,hpl,har,z2,fun H3 e3 M3=>?_⟩
    exact q _ t (e1.trans' (L':=L.with t) ((s2.m _).trans e3) rfl rfl rfl (.inr ht0)) M3 ht0
   refine ⟨b2,rfl,?_⟩
   cases b2 with
   | true =>
    rw [if_pos rfl]
    walk_at "r"
    refine ⟨Bf,fun l hl=>?_⟩
    exact fin l _ hl rfl
   | false =>
    rw [if_neg Po]
    walk_at "r"
    refine ⟨Bf,fun l hl=>?_⟩
    exact fin l _ hl rfl
  | @ifr th x hwi hS hxt =>
   subst hwi
   obtain ⟨bt,hbt,qbt⟩:=(hpk "if").2 [0] (by decide +kernel)
   walk_at "r"
   refine ⟨ap,pk, "if",.ref bt,rfl,rfl,hpa,hbt,?_⟩
   walk_at "r"
   refine Fa (qbt _) ?_
   walk_at "r"
   refine ⟨1,th,[x],HB,kvs,L,S,rfl,M,by decide,hS,rfl,fun o t ov H1 e1 M1 ht0 ho alo ho0 hot=>?_⟩
   have t1:=M.t e1
   have hp1:=(t1 p).1 _ hp
   have he1:=(M.a e1).2 _ _ nA he
   have ale1:Al (PrAt K H1) ev ar:=ale.mono (PrAt.same t1)
   obtain ⟨u1,us,rfl⟩:∃ u1 us,ov=u1 :: us:=by
    have hl:=alo.1
    match ov,hl with
    | u1 :: us,_=>exact ⟨u1,us,rfl⟩
   obtain ⟨_,ax,rfl,qx⟩:=alo.2 0 u1 _ rfl rfl
   walk_at "r"
   rw [A8,decide_eq_false (by decide +kernel)]
   walk_at "r"
   rw [A8,decide_eq_true (Eq.refl _)]
   walk_at "r"
   refine Bd (SqL.of ho) (Bh (j:=0) rfl) ?_
   walk_at "r"
   refine Ak qx rfl ?_
   walk_at "r"
   rw [A8,decide_eq_false hxt]
   walk_at "r"
   rw [A8,decide_eq_false (by decide +kernel)]
   walk_at "r"
   refine ⟨Bv,fun p2 h2=>?_⟩
   refine Ec (.inr (SqT.of Ad)) rfl rfl ?_
   have s3:Same H1 (upd H1 p2 (.tup [.str "plus",.str "minus",.str "less"])):=Same.upd h2
   rw [if_neg Po,show C9 (.str "if") [.str "plus",.str "minus",.str "less"]=decide (("if" : Str)∈(["plus", "minus", "less"]:List Str)) from Et (ws:=["plus", "minus", "less"]),decide_eq_false (by decide +kernel)]
   revert s3
   generalize upd H1 p2 (.tup [.str "plus",.str "minus",.str "less"])=H3
   intro s13
   have M3:=M1.new s13
   obtain ⟨tv,et,att⟩:=M3.things
   have htl:tv.length=th.length:=att.1
   have hthl:th.length + 1=S.things.length:=by rw [hS,Pi]; rfl
   have ho3:=s13 _ _ ho
   refine ⟨false,rfl,?_⟩
   refine iteF ?_
   walk_at "r"
   refine ⟨_,rfl,L.m,C,L.dx,_,_,rfl,M3.ins,O.cl,O.nt,Fk (L.with t) S.steps,?_⟩
   refine Bj (SqL.of et) ?_
   walk_at "r"
   refine ⟨_,rfl,L.m,C,L.dx,_,_,rfl,M3.ins,(Cr (L.with t) S.steps).2.1,MR,?_⟩
   walk_at "r"
   refine ⟨"if",p,o,e,pl,_,ev,[x],ar,HB,kvs,L.with t,_,rfl,M3,s13 _ _ hp1,SqL.of ho3,alo.mono (ThAt.same s13.t),SqL.of (s13 _ _ he1),ale1.mono (PrAt.same s13.t),by show S.rows.length < 10000; omega,fun v4 H4 e4 M4 t4=>?_⟩
   rw [if_pos (by decide +kernel)] at M4
   obtain ⟨tv4,et4,at4⟩:=M4.things
   have htl4:tv4.length=th.length:=at4.1
   walk_at "r"
   refine Bt et4 (by omega) ?_
   have M5:=M4.setThings (at4.snoc t4)
   walk_at "r"
   refine q _ t (e1.trans' (L':=L.with t) ((s13.m _).trans (e4.trans (SameM.upd (.inr (.inr (.inr rfl)))))) rfl rfl rfl (.inr ht0)) M5 ht0
  | @calls th k y r pl' wd' d' hwc hS hrk hf hpl' hs bk har' =>
   subst hwc
   obtain ⟨bt,hbt,qbt⟩:=(hpk "call").2 [1,0] (by decide +kernel)
   walk_at "r"
   refine ⟨ap,pk, "call",.ref bt,rfl,rfl,hpa,hbt,?_⟩
   walk_at "r"
   refine Fa (qbt _) ?_
   walk_at "r"
   refine ⟨2,th,[("row",.int (k:Nat)),y],HB,kvs,L,S,rfl,M,by decide,hS,rfl,fun o t ov H1 e1 M1 ht0 ho alo ho0 hot=>?_⟩
   have t1:=M.t e1
   have hfn:Cy S.rows ("row",.int (k:Nat))=true:=by
    show (decide (("row" : Str) = "row") && (match S.rows[((k:Nat):Int).toNat]? with | some r=>decide (r.wd∈(["fn", "rec"]:List Str)) | none=>false))=true
    rw [Q7,hrk]
    simp only [decide_eq_true hf,decide_true,Bool.and_self]
   have rok:Jc S.rows ("row",.int (k:Nat)):=fun _=>⟨k,rfl,(Pq.mp hrk).1⟩
   obtain ⟨u1,us,rfl⟩:∃ u1 us,ov=u1 :: us:=by
    have hl:=alo.1
    match ov,hl with
    | u1 :: us,_=>exact ⟨u1,us,rfl⟩
   have hx1:=alo.2 0 u1 _ rfl rfl
   walk_at "r"
   rw [A8,decide_eq_false (by decide +kernel)]
   walk_at "r"
   rw [A8,decide_eq_false (by decide +kernel)]
   walk_at "r"
   rw [A8,decide_eq_true (Eq.refl _)]
   walk_at "r"
   refine ⟨_,rfl,L.m,C,L.dx,_,_,rfl,M1.ins,(Ic (L.with t) S.steps).2.1,MI,?_⟩
   walk_at "r"
   refine Bd (SqL.of ho) (Bh (j:=0) rfl) ?_
   walk_at "r"
   refine ⟨_,("row",.int (k:Nat)),HB,kvs,L.with t,_,rfl,M1,hx1,rok,fun H2 s2=>?_⟩
   rw [show Cy ({ S with things:=th }:MS).rows ("row",.int (k:Nat))=true from hfn]
   refine ⟨true,rfl,?_⟩
   refine iteT ?_
   walk_at "r"
   have M2:=M1.new s2
   obtain ⟨hpl2,v',ts',hv',ht'⟩:=(FA.same t1).same s2.t pl' wd' d' hs
   refine ⟨_,rfl,L.m,C,L.dx,_,_,rfl,M2.ins,(Ic (L.with t) S.steps).2.2,MC,?_⟩
   walk_at "r"
   refine ⟨o,_,k,[y],r,pl',HB,kvs,L.with t,_,v',wd',d',ts',rfl,M2,s2 _ _ ho,alo.mono (ThAt.same s2.t),hrk,hpl',hv',ht',bk,hpl2,har',z2,by show 1<=1000; decide,fun H3 e3 M3=>?_⟩
   walk_at "r"
   exact q _ t (e1.trans' (L':=L.with t) ((s2.m _).trans e3) rfl rfl rfl (.inr ht0)) M3 ht0
  | @two th x y hw3 hS ok ox oy =>
  have hwd:Bg wd=some [1,0]/\¬ wd = "let" /\ ¬ wd = "if" /\ ¬ wd∈WA:=by
   rcases hw3 with h | ⟨rfl,_⟩
   ·unfold B7 at h
    simp only [Pm,P0,or_false] at h
    rcases h with rfl | rfl | rfl <;> exact ⟨by decide +kernel,by decide +kernel,by decide +kernel,by decide +kernel⟩
   ·exact ⟨by decide +kernel,by decide +kernel,by decide +kernel,by decide +kernel⟩
  obtain ⟨pw,w1,w2,w4⟩:=hwd
  obtain ⟨bt,hbt,qbt⟩:=(hpk wd).2 _ pw
  walk_at "r"
  refine ⟨ap,pk,wd,.ref bt,rfl,rfl,hpa,hbt,?_⟩
  walk_at "r"
  refine Fa (qbt _) ?_
  walk_at "r"
  refine ⟨2,th,[x,y],HB,kvs,L,S,rfl,M,by decide,hS,rfl,fun o t ov H1 e1 M1 ht0 ho alo ho0 hot=>?_⟩
  have t1:=M.t e1
  have hp1:=(t1 p).1 _ hp
  have he1:=(M.a e1).2 _ _ nA he
  have ale1:Al (PrAt K H1) ev ar:=ale.mono (PrAt.same t1)
  have nAo:¬ (L.with t).A o:=by
   obtain ⟨rv,er,_⟩:=M.rows
   obtain ⟨wv,ew,_⟩:=M.wait
   rintro (z | z | z)
   ·rw [z] at ho0; rw [show (L.with t).rd=L.rd from rfl,er] at ho0; cases ho0
   ·rw [z] at ho0; rw [show (L.with t).wd=L.wd from rfl,ew] at ho0; cases ho0
   ·exact hot z
  have hx:∃ ax ay,ov=[.ref ax,.ref ay]/\SqT K H1 ax [.str x.1,x.2]/\SqT K H1 ay [.str y.1,y.2]:=by
   have hl:=alo.1
   obtain ⟨u1,u2,rfl⟩:=lz2 (vs:=ov) hl
   obtain ⟨_,ax,e3,q3⟩:=alo.2 0 u1 x rfl rfl
   obtain ⟨_,ay,e4,q4⟩:=alo.2 1 u2 y rfl rfl
   exact ⟨ax,ay,by rw [e3,e4],q3,q4⟩
  obtain ⟨ax,ay,rfl,qx,qy⟩:=hx
  walk_at "r"
  rw [A8,decide_eq_false w1]
  walk_at "r"
  rw [A8,decide_eq_false w2]
  walk_at "r"
  rw [A8]
  by_cases w3:wd = "call"
  ·have hfn:Cy S.rows x=false:=by
    rcases hw3 with h | h
    ·rw [w3] at h; exact absurd h (by decide +kernel)
    ·exact h.2
   rw [decide_eq_true w3]
   walk_at "r"
   refine ⟨_,rfl,L.m,C,L.dx,_,_,rfl,M1.ins,(Ic (L.with t) S.steps).2.1,MI,?_⟩
   walk_at "r"
   refine Bd (SqL.of ho) rfl ?_
   walk_at "r"
   refine ⟨_,x,HB,kvs,L.with t,_,rfl,M1,⟨(alo.2 0 _ x rfl rfl).1,ax,rfl,qx⟩,ok,fun H2 s2=>?_⟩
   rw [show Cy ({ S with things:=th }:MS).rows x=false from hfn]
   refine ⟨false,rfl,?_⟩
   refine iteF ?_
   walk_at "r"
   refine ⟨Bv,fun p2 h2=>?_⟩
   refine Ec (.inr (SqT.of Ad)) rfl rfl ?_
   have s3:Same H2 (upd H2 p2 (.tup [.str "plus",.str "minus",.str "less"])):=Same.upd h2
   rw [if_neg Po,show C9 (.str wd) [.str "plus",.str "minus",.str "less"]=decide (wd∈(["plus", "minus", "less"]:List Str)) from Et (ws:=["plus", "minus", "less"]),decide_eq_false (by rw [w3]; decide +kernel)]
   revert s3
   generalize upd H2 p2 (.tup [.str "plus",.str "minus",.str "less"])=H3
   intro s3
   have s13:=s2.trans s3
   have M3:=M1.new s13
   obtain ⟨tv,et,att⟩:=M3.things
   have htl:tv.length=th.length:=att.1
   have hthl:th.length + 2=S.things.length:=by rw [hS,Pi]; rfl
   have ho3:=s13 _ _ ho
   have ef:Ew S wd pl th x y={ S with rows:=S.rows++[⟨wd,Ap pl,[x,y],[]⟩],things:=th++[(("row" : Str),V.int (S.rows.length:Nat))] }:=by
    unfold Ew
    rw [if_neg fun h=>absurd h.1 (by rw [w3]; decide +kernel)]
   rw [ef] at q
   refine ⟨false,rfl,?_⟩
   refine iteF ?_
   walk_at "r"
   refine ⟨_,rfl,L.m,C,L.dx,_,_,rfl,M3.ins,O.cl,O.nt,Fk (L.with t) S.steps,?_⟩
   refine Bj (SqL.of et) ?_
   walk_at "r"
   refine ⟨_,rfl,L.m,C,L.dx,_,_,rfl,M3.ins,(Cr (L.with t) S.steps).2.1,MR,?_⟩
   walk_at "r"
   refine ⟨wd,p,o,e,pl,_,ev,[x,y],ar,HB,kvs,L.with t,_,rfl,M3,s13 _ _ hp1,SqL.of ho3,alo.mono (ThAt.same s13.t),SqL.of (s13 _ _ he1),ale1.mono (PrAt.same s13.t),by show S.rows.length < 10000; omega,fun v4 H4 e4 M4 t4=>?_⟩
   rw [if_neg w4] at M4
   obtain ⟨tv4,et4,at4⟩:=M4.things
   have htl4:tv4.length=th.length:=at4.1
   walk_at "r"
   refine Bt et4 (by omega) ?_
   have M5:=M4.setThings (at4.snoc t4)
   walk_at "r"
   refine q _ t (e1.trans' (L':=L.with t) ((s13.m _).trans (e4.trans (SameM.upd (.inr (.inr (.inr rfl)))))) rfl rfl rfl (.inr ht0)) M5 ht0
  have hw3':wd∈(["plus", "minus", "less"]:List Str):=by
   rcases hw3 with h | h
   ·exact h
   ·exact absurd h.1 w3
  rw [decide_eq_false w3]
  walk_at "r"
  refine ⟨Bv,fun p2 h2=>?_⟩
  refine Ec (.inr (SqT.of Ad)) rfl rfl ?_
  have s2:Same H1 (upd H1 p2 (.tup [.str "plus",.str "minus",.str "less"])):=Same.upd h2
  rw [if_neg Po,show C9 (.str wd) [.str "plus",.str "minus",.str "less"]=decide (wd∈(["plus", "minus", "less"]:List Str)) from Et (ws:=["plus", "minus", "less"]),decide_eq_true hw3']
  revert s2
  generalize upd H1 p2 (.tup [.str "plus",.str "minus",.str "less"])=H2
  intro s2
  walk_at "r"
  refine ⟨o,_,[x,y],rfl,s2 _ _ ho,alo.mono (ThAt.same s2.t),by show 2<=1000; decide,fun H3 s3=>?_⟩
  have s13:=s2.trans s3
  have M3:=M1.new s13
  obtain ⟨tv,et,att⟩:=M3.things
  have htl:tv.length=th.length:=att.1
  have hthl:th.length + 2=S.things.length:=by rw [hS,Pi]; rfl
  have ho3:=s13 _ _ ho
  by_cases hnum:x.1 = "num" /\ y.1 = "num"
  ·have en:Hh [x,y]=true:=by
    unfold Hh
    rw [Rc,Rc,List.all_nil,decide_eq_true hnum.1,decide_eq_true hnum.2]
    rfl
   rw [en]
   obtain ⟨i,ei⟩:=ox hnum.1
   obtain ⟨j,ej⟩:=oy hnum.2
   rw [ei] at qx
   rw [ej] at qy
   have ef:Ew S wd pl th x y={ S with things:=th++[Ff wd i j] }:=by
    unfold Ew
    rw [if_pos ⟨hw3',hnum⟩,ei,ej]
    rfl
   rw [ef] at q
   refine ⟨true,rfl,?_⟩
   refine iteT ?_
   walk_at "r"
   refine ⟨_,rfl,L.m,C,L.dx,_,_,rfl,M3.ins,O.cl,O.nt,Fk (L.with t) S.steps,?_⟩
   refine Bj (SqL.of et) ?_
   walk_at "r"
   refine Bd (SqL.of ho3) rfl ?_
   walk_at "r"
   refine Ak (s13.tup qx) rfl ?_
   walk_at "r"
   refine Bd (SqL.of ho3) rfl ?_
   walk_at "r"
   refine Ak (s13.tup qy) rfl ?_
   walk_at "r"
   refine ⟨wd,i,j,rfl,fun v4 H4 s4 t4=>?_⟩
   have M4:=M3.new s4
   walk_at "r"
   refine Bt (s4 _ _ et) (by omega) ?_
   have M5:=M4.setThings ((att.mono (ThAt.same s4.t)).snoc t4)
   walk_at "r"
   refine q _ t (e1.trans' (L':=L.with t) (((s13.trans s4).m _).trans (SameM.upd (.inr (.inr (.inr rfl))))) rfl rfl rfl (.inr ht0)) M5 ht0
  ·have en:Hh [x,y]=false:=by
    unfold Hh
    rw [Rc,Rc,List.all_nil,Bool.and_true,<- Bool.not_eq_true,Rk,decide_eq_true_iff,decide_eq_true_iff]
    exact hnum
   rw [en]
   have ef:Ew S wd pl th x y={ S with rows:=S.rows++[⟨wd,Ap pl,[x,y],[]⟩],things:=th++[(("row" : Str),V.int (S.rows.length:Nat))] }:=by
    unfold Ew
    rw [if_neg fun h=>hnum h.2]
   rw [ef] at q
   refine ⟨false,rfl,?_⟩
   refine iteF ?_
   walk_at "r"
   refine ⟨_,rfl,L.m,C,L.dx,_,_,rfl,M3.ins,O.cl,O.nt,Fk (L.with t) S.steps,?_⟩
   refine Bj (SqL.of et) ?_
   walk_at "r"
   refine ⟨_,rfl,L.m,C,L.dx,_,_,rfl,M3.ins,(Cr (L.with t) S.steps).2.1,MR,?_⟩
   walk_at "r"
   refine ⟨wd,p,o,e,pl,_,ev,[x,y],ar,HB,kvs,L.with t,_,rfl,M3,s13 _ _ hp1,SqL.of ho3,alo.mono (ThAt.same s13.t),SqL.of (s13 _ _ he1),ale1.mono (PrAt.same s13.t),by show S.rows.length < 10000; omega,fun v4 H4 e4 M4 t4=>?_⟩
   rw [if_neg w4] at M4
   obtain ⟨tv4,et4,at4⟩:=M4.things
   have htl4:tv4.length=th.length:=at4.1
   walk_at "r"
   refine Bt et4 (by omega) ?_
   have M5:=M4.setThings (at4.snoc t4)
   walk_at "r"
   refine q _ t (e1.trans' (L':=L.with t) ((s13.m _).trans (e4.trans (SameM.upd (.inr (.inr (.inr rfl)))))) rfl rfl rfl (.inr ht0)) M5 ht0
inductive Kv (sub:List Nat->Option (Str×Dt)):MS->MS->Prop where
 | come {S:MS} {w:List Wt} {x:Wt} {wd:Str} {d:Dt} (hw:S.wait=w++[x]) (hc:x.came=false) (hs:sub x.pl=some (wd,d)) (hn:Ib wd d) (h5:wd ≠ "gap" -> S.steps + 1<=500):Kv sub S (Es { S with wait:=w } wd d x.pl x.ar)
 | further {S S2:MS} {w:List Wt} {x:Wt} {wd:Str} {d:Dt} (hw:S.wait=w++[x]) (hc:x.came=true) (hs:sub x.pl=some (wd,d)) (hf:E3 sub wd d x.pl x.ar { S with wait:=w } S2) (hr:x.ar.length<=9000):Kv sub S S2
structure Fj (S:MS):Prop where
 r:S.rows.length < 9000
 w:S.wait.length < 9000
 t:S.things.length < 9000
inductive RunM (sub:List Nat->Option (Str×Dt)):Nat->MS->MS->Prop where
 | nil {S:MS} (h:S.wait=[]):RunM sub 0 S S
 | cons {n:Nat} {S S1 S2:MS} (hs:Fj S) (h1:Kv sub S S1) (h2:RunM sub n S1 S2):RunM sub (n + 1) S S2
inductive RunL (sub:List Nat->Option (Str×Dt)):Nat->MS->Prop where
 | last {S:MS} {w:List Wt} {x:Wt} {wd:Str} {d:Dt} (hs:Fj S) (hw:S.wait=w++[x]) (hc:x.came=false) (hsub:sub x.pl=some (wd,d)) (hg:wd ≠ "gap") (h5:500 < S.steps + 1):RunL sub 0 S
 | cons {n:Nat} {S S1:MS} (hs:Fj S) (h1:Kv sub S S1) (h2:RunL sub n S1):RunL sub (n + 1) S
inductive D7 (sub:List Nat->Option (Str×Dt)):Nat->MS->Option MS->Prop where
 | nil {S:MS} (h:S.wait=[]):D7 sub 0 S (some S)
 | last {S:MS} {w:List Wt} {x:Wt} {wd:Str} {d:Dt} (hs:Fj S) (hw:S.wait=w++[x]) (hc:x.came=false) (hsub:sub x.pl=some (wd,d)) (hg:wd ≠ "gap") (h5:500 < S.steps + 1):D7 sub 0 S none
 | cons {n:Nat} {S S1:MS} {o:Option MS} (hs:Fj S) (h1:Kv sub S S1) (h2:D7 sub n S1 o):D7 sub (n + 1) S o
theorem RunM.x {sub:List Nat->Option (Str×Dt)} {n:Nat} {S S':MS} (h:RunM sub n S S'):D7 sub n S (some S'):=by
 induction h with
 | nil h=>exact .nil h
 | cons a b _ ih=>exact .cons a b ih
theorem RunL.x {sub:List Nat->Option (Str×Dt)} {n:Nat} {S:MS} (h:RunL sub n S):D7 sub n S none:=by
 induction h with
 | last a b c d e f=>exact .last a b c d e f
 | cons a b _ ih=>exact .cons a b ih
noncomputable def O7 (K:Pd) (C TL:Addr):Sp:=fun vs H Q E=>∃ (HB:Hp) (kvs:List (List Ao×V)) (L:Ml) (S:MS) (sub:List Nat->Option (Str×Dt)) (n:Nat) (o:Option MS),vs=[.ref L.m]/\MAt K HB C kvs L H S/\FormsAt K H kvs sub/\D7 sub n S o/\(∀ S',o=some S'->∃ (th:List (Str×V)) (x:Str×V),S'.things=th++[x]/\∀ v H' t,SameM L H H'->MAt K HB C kvs (L.with t) H' { S' with things:=th }->ThAt K H' v x->Q v H')/\(o=none->∀ H',Same HB H'->E (.ref TL) none H')
theorem sc_Machine_thing_at_the_end:A2 ["self", "place", "around", "parts_came"] ["self"] (Az J6):=by walk_at "sc"
theorem Zpa {C TL:Addr} {f:Addr} {fd:FuncData} (F:Fun K "thing_at_the_end" "Machine.thing_at_the_end" J6 f fd) (T:Txt K mg) (O:Mc K C) (MC:Ce (Bk P w) P w K mg base 3 C "come_to" ["self", "place", "around"] (fun vs H Q E=>Zek K C vs H Q E\/Zd8 K C TL vs H Q E)) (MG:Ce Ar P w K mg base 4 C "go_further" ["self", "place", "around"] (Zgd K C)):FnOk P w K mg base (Bk P w) 5 f fd ["self"] (O7 K C TL):=by
 refine F.okx sc_Machine_thing_at_the_end (fun vs H Q E h=>?_) (fun cdv A outer s H vs Q E hr h=>?_)
 ·obtain ⟨HB,kvs,L,S,sub,n,oo,rfl,_⟩:=h
  rfl
 ·obtain ⟨HB,kvs,L,S,sub,n,oo,rfl,M,FA,R,qS,qN⟩:=h
  refine ⟨_,Ae (Zff PassesOwn.leaving (Zam K (Bs K (qv 0)) (by intro _; rfl)) (Ae (Fe (Zba K Pt Vx Vy Oj (Bs K (qv 0))) (Dc K (n:=3) rfl (Bm (A9 (i:=1) sc_Machine_thing_at_the_end.nd rfl (Or.inl rfl)) (Bm (A9 (i:=2) sc_Machine_thing_at_the_end.nd rfl (Or.inl rfl)) (Bm (A9 (i:=3) sc_Machine_thing_at_the_end.nd rfl (Or.inl rfl)) (Di))))))
   (Ag (A0 (Zam K (qv 3) (by intro _; rfl)) (Ag (Be (Cs (k:=4) K Ar ["self", "place", "around"] (qv 0) hr.m C5 (Aa (qv 1) (Aa (qv 2) Ab))))) (Ag (Be (Cs (k:=3) K (Bk P w) ["self", "place", "around"] (qv 0) hr.m (Gy (fun _ _ _ h=>h)) (Aa (qv 1) (Aa (qv 2) Ab)))))))))
   (Ag (Au (Zba K Pt Vx Vy Oj (Bs K (qv 0))))),?_⟩
  have bg:=big
  walk_at "r"
  refine ⟨fun m σ' H'=>∃ v1 v2 v3 S1 t,σ'=[some (.ref L.m),v1,v2,v3]/\MAt K HB C kvs (L.with t) H' S1/\D7 sub m S1 oo/\SameM L H H'/\(t=L.td\/H t=none),⟨n,none,none,none,S,L.td,rfl,M,R,SameM.refl _ _,.inl rfl⟩,?_⟩
  rintro m σ' H1 ⟨v1,v2,v3,S1,t,rfl,M1,R1,e1,ht⟩
  obtain ⟨wv,ew,aw⟩:=M1.wait
  have FA1:=FA.same (M.t e1)
  walk_at "r"
  refine ⟨_,rfl,L.m,C,L.dx,_,_,rfl,M1.ins,O.cl,O.nw,Fp (L.with t) S1.steps,?_⟩
  refine Zfa (SqL.of ew) ?_
  cases R1 with
  | nil hw =>
   have hwv:wv=[]:=Qm (by rw [aw.1,hw]; rfl)
   subst hwv
   refine iteF ?_
   walk_at "r"
   obtain ⟨tv,et,att⟩:=M1.things
   obtain ⟨th,x,hx,q⟩:=qS _ rfl
   rw [hx] at att
   obtain ⟨tv',v,th',x',rfl,exx,at',hv⟩:=att.last (by intro z; rw [z] at att; have:=att.1; simp at this)
   obtain ⟨rfl,e2⟩:=R4 exx rfl
   cases e2
   refine ⟨_,rfl,L.m,C,L.dx,_,_,rfl,M1.ins,O.cl,O.nt,Fk (L.with t) S1.steps,?_⟩
   refine Bj (SqL.of et) ?_
   refine Lf et ?_
   have M2:=M1.setThings at'
   have e2:SameM (L.with t) H1 (upd H1 (L.with t).td (.lst tv')):=SameM.upd (.inr (.inr (.inr rfl)))
   refine q v _ t (e1.trans' (L':=L.with t) e2 rfl rfl rfl ht) M2 (ThAt.same (M1.t e2) _ _ hv)
  | @last _ w0 xw wd d hs hw hc hsub hg h5 =>
   rw [hw] at aw
   obtain ⟨wv',v,wl',xw',rfl,exx,aw',hvw⟩:=aw.last (by intro z; rw [z] at aw; have:=aw.1; simp at this)
   obtain ⟨rfl,e2⟩:=R4 exx rfl
   cases e2
   have hne:(!(wv'++[v]).isEmpty)=true:=by simp
   rw [hne]
   refine iteT ?_
   refine ⟨fun σ2 H2=>∃ m2,m2 < 0/\∃ v1 v2 v3 S1 t,σ2=[some (.ref L.m),v1,v2,v3]/\MAt K HB C kvs (L.with t) H2 S1/\D7 sub m2 S1 none/\SameM L H H2/\(t=L.td\/H t=none),fun _ _ h=>h,?_⟩
   walk_at "r"
   refine ⟨_,rfl,L.m,C,L.dx,_,_,rfl,M1.ins,O.cl,O.nw,Fp (L.with t) S1.steps,?_⟩
   refine Bj (SqL.of ew) ?_
   refine Lf ew ?_
   have M2:=M1.setWait aw'
   have e12:SameM (L.with t) H1 (upd H1 (L.with t).wd (.lst wv')):=SameM.upd (.inr (.inr (.inl rfl)))
   have hv2:=WtAt.same (M1.a e12) _ _ hvw
   have FA2:=FA1.same (M1.t e12)
   revert M2 e12 hv2 FA2
   generalize upd H1 (L.with t).wd (.lst wv')=H2
   intro M2 e12 hv2 FA2
   obtain ⟨a,p,e,ev,rfl,qa,hp,he,ale,nA⟩:=hv2
   have e02:SameM L H H2:=e1.trans' (L':=L.with t) e12 rfl rfl rfl ht
   walk_at "r"
   refine Db qa rfl ?_
   walk_at "r"
   refine ⟨xw.came,rfl,?_⟩
   rw [hc]
   refine iteF ?_
   walk_at "r"
   obtain ⟨hpl,vv,ts,hval,htr⟩:=FA2 _ _ _ hsub
   refine ⟨_,rfl,L.m,C,L.dx,_,_,rfl,M2.ins,(Cr (L.with t) S1.steps).2.2.2.1,MC,?_⟩
   walk_at "r"
   exact .inr ⟨p,e,xw.pl,ev,xw.ar,HB,kvs,L.with t,_,vv,wd,d,ts,rfl,M2,hp,he,ale,nA,hval,htr,hg,h5,fun H3 e3=>qN rfl _ (M2.outer e3)⟩
  | @cons m' _ S2 _ hs h1 h2 =>
   have key:∃ w x,S1.wait=w++[x]:=by
    cases h1 with
    | come hw=>exact ⟨_,_,hw⟩
    | further hw=>exact ⟨_,_,hw⟩
   obtain ⟨wl,xw,hwx⟩:=key
   rw [hwx] at aw
   obtain ⟨wv',v,wl',xw',rfl,exx,aw',hvw⟩:=aw.last (by intro z; rw [z] at aw; have:=aw.1; simp at this)
   obtain ⟨rfl,e2⟩:=R4 exx rfl
   cases e2
   have hne:(!(wv'++[v]).isEmpty)=true:=by simp
   rw [hne]
   refine iteT ?_
   refine ⟨fun σ2 H2=>∃ m2,m2 < m' + 1/\∃ v1 v2 v3 S1 t,σ2=[some (.ref L.m),v1,v2,v3]/\MAt K HB C kvs (L.with t) H2 S1/\D7 sub m2 S1 oo/\SameM L H H2/\(t=L.td\/H t=none),fun _ _ h=>h,?_⟩
   walk_at "r"
   refine ⟨_,rfl,L.m,C,L.dx,_,_,rfl,M1.ins,O.cl,O.nw,Fp (L.with t) S1.steps,?_⟩
   refine Bj (SqL.of ew) ?_
   refine Lf ew ?_
   have M2:=M1.setWait aw'
   have e12:SameM (L.with t) H1 (upd H1 (L.with t).wd (.lst wv')):=SameM.upd (.inr (.inr (.inl rfl)))
   have hv2:=WtAt.same (M1.a e12) _ _ hvw
   have FA2:=FA1.same (M1.t e12)
   revert M2 e12 hv2 FA2
   generalize upd H1 (L.with t).wd (.lst wv')=H2
   intro M2 e12 hv2 FA2
   obtain ⟨a,p,e,ev,rfl,qa,hp,he,ale,nA⟩:=hv2
   have e02:SameM L H H2:=e1.trans' (L':=L.with t) e12 rfl rfl rfl ht
   walk_at "r"
   refine Db qa rfl ?_
   walk_at "r"
   have hwl:wl.length < 9000:=by have:=hs.w; rw [hwx,Pi] at this; omega
   refine ⟨xw.came,rfl,?_⟩
   cases h1 with
   | @come w2 x2 wd d hw hc hsub hn h5 =>
    rw [hwx] at hw
    obtain ⟨rfl,e2⟩:=R4 hw rfl
    cases e2
    rw [hc]
    refine iteF ?_
    walk_at "r"
    obtain ⟨hpl,vv,ts,hval,htr⟩:=FA2 _ _ _ hsub
    refine ⟨_,rfl,L.m,C,L.dx,_,_,rfl,M2.ins,(Cr (L.with t) S1.steps).2.2.2.1,MC,?_⟩
    walk_at "r"
    refine .inl ⟨p,e,xw.pl,ev,xw.ar,HB,kvs,L.with t,_,vv,wd,d,ts,rfl,M2,hp,he,ale,nA,hval,htr,hn,hpl,hs.r,hwl,hs.t,h5,fun H3 e3 M3=>?_⟩
    walk_at "r"
    exact ⟨m',by omega,_,_,_,_,t,rfl,M3,h2,e02.trans' (L':=L.with t) e3 rfl rfl rfl ht,ht⟩
   | @further _ w2 x2 wd d hw hc hsub hf har =>
    rw [hwx] at hw
    obtain ⟨rfl,e2⟩:=R4 hw rfl
    cases e2
    rw [hc]
    refine iteT ?_
    walk_at "r"
    obtain ⟨hpl,vv,ts,hval,htr⟩:=FA2 _ _ _ hsub
    refine ⟨_,rfl,L.m,C,L.dx,_,_,rfl,M2.ins,(Cr (L.with t) S1.steps).2.2.2.2.1,MG,?_⟩
    walk_at "r"
    refine ⟨p,e,xw.pl,ev,xw.ar,HB,kvs,L.with t,_,_,vv,wd,d,ts,rfl,M2,hp,he,ale,nA,hval,htr,sub,FA2,hf,hs.r,hs.t,hwl,hpl,har,fun H3 t3 e3 M3 ht3=>?_⟩
    walk_at "r"
    refine ⟨m',by omega,_,_,_,_,t3,rfl,M3,h2,e02.trans' (L':=L.with t) e3 rfl rfl rfl ht,?_⟩
    by_cases z:t3=L.td
    ·exact .inl z
    ·refine .inr ?_
     cases hH:H t3 with
     | none=>rfl
     | some o =>
      exfalso
      obtain ⟨rv2,er2,_⟩:=M2.rows
      have n1:t3≠L.m:=fun y=>by rw [y,show H2 L.m=_ from M2.ins] at ht3; cases ht3
      have n2:¬ L.A t3:=by
       rintro (y | y | y)
       ·rw [y,show H2 L.rd=_ from er2] at ht3; cases ht3
       ·obtain ⟨wv2,ew2,_⟩:=M2.wait
        rw [y,show H2 L.wd=_ from ew2] at ht3; cases ht3
       ·exact z y
      rw [e02 _ _ n1 n2 hH] at ht3
      cases ht3
noncomputable def Zfg (K:Pd) (C:Addr):Sp:=fun vs H Q _=>∃ (p e:Addr) (pl:List Nat) (ev:List V) (ar:List (Str×Str×V)) (HB:Hp) (kvs:List (List Ao×V)) (L:Ml) (S S':MS) (sub:List Nat->Option (Str×Dt)) (n:Nat) (th:List (Str×V)) (x:Str×V),vs=[.ref L.m,.ref p,.ref e]/\MAt K HB C kvs L H S/\H p=some (.tup (A1 pl))/\H e=some (.lst ev)/\Al (PrAt K H) ev ar/\¬ L.A e/\FormsAt K H kvs sub/\S.wait.length < 9000/\RunM sub n { S with wait:=S.wait++[⟨pl,ar,false⟩] } S'/\S'.things=th++[x] /\
 ∀ v H' t,SameM L H H'->MAt K HB C kvs (L.with t) H' { S' with things:=th }->ThAt K H' v x->Q v H'
noncomputable def Ze1 (K:Pd) (C TL:Addr):Sp:=fun vs H _ E=>∃ (p e:Addr) (pl:List Nat) (ev:List V) (ar:List (Str×Str×V)) (HB:Hp) (kvs:List (List Ao×V)) (L:Ml) (S:MS) (sub:List Nat->Option (Str×Dt)) (n:Nat),vs=[.ref L.m,.ref p,.ref e]/\MAt K HB C kvs L H S/\H p=some (.tup (A1 pl))/\H e=some (.lst ev)/\Al (PrAt K H) ev ar/\¬ L.A e/\FormsAt K H kvs sub/\S.wait.length < 9000/\RunL sub n { S with wait:=S.wait++[⟨pl,ar,false⟩] }/\∀ H',Same HB H'->E (.ref TL) none H'
noncomputable def Zdj (K:Pd) (C TL:Addr):Sp:=fun vs H Q E=>∃ (p e:Addr) (pl:List Nat) (ev:List V) (ar:List (Str×Str×V)) (HB:Hp) (kvs:List (List Ao×V)) (L:Ml) (S:MS) (sub:List Nat->Option (Str×Dt)) (n:Nat) (oo:Option MS),vs=[.ref L.m,.ref p,.ref e]/\MAt K HB C kvs L H S/\H p=some (.tup (A1 pl))/\H e=some (.lst ev)/\Al (PrAt K H) ev ar/\¬ L.A e/\FormsAt K H kvs sub/\S.wait.length < 9000/\D7 sub n { S with wait:=S.wait++[⟨pl,ar,false⟩] } oo/\(∀ S',oo=some S'->∃ (th:List (Str×V)) (x:Str×V),S'.things=th++[x]/\∀ v H' t,SameM L H H'->MAt K HB C kvs (L.with t) H' { S' with things:=th }->ThAt K H' v x->Q v H')/\(oo=none->∀ H',Same HB H'->E (.ref TL) none H')
theorem Zrk:A2 ["self", "place", "around"] ["self", "place", "around"] (Az Ki):=by walk_at "sc"
theorem Zkd {C TL:Addr} {f:Addr} {fd:FuncData} (F:Fun K "thing_of_form" "Machine.thing_of_form" Ki f fd) (T:Txt K mg) (O:Mc K C) (ME:Ce (Bk P w) P w K mg base 5 C "thing_at_the_end" ["self"] (O7 K C TL)):FnOk P w K mg base (Bk P w) 6 f fd ["self", "place", "around"] (Zdj K C TL):=by
 refine F.okx Zrk (fun vs H Q E h=>?_) (fun cdv A outer s H vs Q E hr h=>?_)
 ·obtain ⟨p,e,pl,ev,ar,HB,kvs,L,S,sub,n,oo,rfl,_⟩:=h
  rfl
 ·obtain ⟨p,e,pl,ev,ar,HB,kvs,L,S,sub,n,oo,rfl,M,hp,he,ale,nA,FA,hwl,R,qS,qN⟩:=h
  refine ⟨_,Ae (Be (Bw K Pt P4 P5 Bz (Bs K (qv 0)) (Aa (An (Aa (qv 1) (Aa (qv 2) (Aa Dw Ab)))) Ab)))
   (Ag (Au (Zgh (k:=5) K (Bk P w) ["self"] (qv 0) hr.m (Gy (fun _ _ _ h=>h))))),?_⟩
  have bg:=big
  obtain ⟨wv,ew,aw⟩:=M.wait
  have hwv:=aw.1
  walk_at "r"
  refine ⟨_,rfl,L.m,C,L.dx,_,_,rfl,M.ins,O.cl,O.nw,Fp L S.steps,?_⟩
  refine Bj (SqL.of ew) ?_
  walk_at "r"
  refine ⟨Bv,fun r hr'=>?_⟩
  obtain ⟨H1,s1,e1,z9⟩:=Av hr' (.tup [.ref p,.ref e,.bl false])
  rw [z9]
  walk_at "r"
  refine Bt (s1 _ _ ew) (by omega) ?_
  have M1:=M.new s1
  have M2:=M1.setWait (wv:=wv++[.ref r]) (ws:=S.wait++[⟨pl,ar,false⟩]) ((aw.mono (WtAt.same s1.a)).snoc ⟨r,p,e,ev,rfl,SqT.of e1,s1 _ _ hp,s1 _ _ he,ale.mono (PrAt.same s1.t),nA⟩)
  have m12:SameM L H1 (upd H1 L.wd (.lst (wv++[.ref r]))):=SameM.upd (.inr (.inr (.inl rfl)))
  have m02:SameM L H (upd H1 L.wd (.lst (wv++[.ref r]))):=(s1.m L).trans m12
  have FA2:=FA.same (M.t m02)
  walk_at "r"
  refine ⟨_,rfl,L.m,C,L.dx,_,_,rfl,M2.ins,(Cr L S.steps).2.2.2.2.2.2.1,ME,?_⟩
  walk_at "r"
  exact ⟨HB,kvs,L,_,sub,n,oo,rfl,M2,FA2,R,fun S' z=>let ⟨th,x,hx,q⟩:=qS S' z; ⟨th,x,hx,fun v H' t e' M' t'=>q v H' t (m02.trans e') M' t'⟩,qN⟩
theorem Zkv {C TL:Addr} {k:Nat} {f:Addr} {fd:FuncData} (F:FnOk P w K mg base (Bk P w) k f fd ["self", "place", "around"] (Zdj K C TL)):FnOk P w K mg base (Bk P w) k f fd ["self", "place", "around"] (fun vs H Q E=>Zfg K C vs H Q E\/Ze1 K C TL vs H Q E):=F.imp fun vs H Q E h=>by
 rcases h with h | h
 ·obtain ⟨p,e,pl,ev,ar,HB,kvs,L,S,S',sub,n,th,x,rfl,M,hp,he,ale,nA,FA,hwl,R,hx,q⟩:=h
  exact ⟨p,e,pl,ev,ar,HB,kvs,L,S,sub,n,_,rfl,M,hp,he,ale,nA,FA,hwl,R.x,fun S2 z=>by cases z; exact ⟨th,x,hx,q⟩,fun z=>nomatch z⟩
 ·obtain ⟨p,e,pl,ev,ar,HB,kvs,L,S,sub,n,rfl,M,hp,he,ale,nA,FA,hwl,R,q⟩:=h
  exact ⟨p,e,pl,ev,ar,HB,kvs,L,S,sub,n,_,rfl,M,hp,he,ale,nA,FA,hwl,R.x,fun S2 z=>(nomatch z),fun _=>q⟩
noncomputable def Zd7 (K:Pd) (C:Addr):Sp:=fun vs H Q _=>∃ (p o e:Addr) (pl:List Nat) (ov ev:List V) (ops:List (Str×V)) (ar:List (Str×Str×V)) (HB:Hp) (kvs:List (List Ao×V)) (L:Ml) (S S':MS) (sub:List Nat->Option (Str×Dt)) (n:Nat) (th:List (Str×V)) (x:Str×V),vs=[.ref L.m,.ref p,.ref o,.ref e]/\MAt K HB C kvs L H S/\H p=some (.tup (A1 pl))/\H o=some (.lst ov)/\Al (ThAt K H) ov ops/\H e=some (.lst ev)/\Al (PrAt K H) ev ar/\¬ L.A e/\FormsAt K H kvs sub/\S.wait.length < 9000/\S.things.length + ops.length < 9000/\RunM sub n { S with things:=S.things++ops,wait:=S.wait++[⟨pl,ar,true⟩] } S'/\S'.things=th++[x] /\
 ∀ v H' t,SameM L H H'->MAt K HB C kvs (L.with t) H' { S' with things:=th }->ThAt K H' v x->Q v H'
noncomputable def Zc9 (K:Pd) (C TL:Addr):Sp:=fun vs H _ E=>∃ (p o e:Addr) (pl:List Nat) (ov ev:List V) (ops:List (Str×V)) (ar:List (Str×Str×V)) (HB:Hp) (kvs:List (List Ao×V)) (L:Ml) (S:MS) (sub:List Nat->Option (Str×Dt)) (n:Nat),vs=[.ref L.m,.ref p,.ref o,.ref e]/\MAt K HB C kvs L H S/\H p=some (.tup (A1 pl))/\H o=some (.lst ov)/\Al (ThAt K H) ov ops/\H e=some (.lst ev)/\Al (PrAt K H) ev ar/\¬ L.A e/\FormsAt K H kvs sub/\S.wait.length < 9000/\S.things.length + ops.length < 9000/\RunL sub n { S with things:=S.things++ops,wait:=S.wait++[⟨pl,ar,true⟩] }/\∀ H',Same HB H'->E (.ref TL) none H'
noncomputable def Zf3 (K:Pd) (C TL:Addr):Sp:=fun vs H Q E=>∃ (p o e:Addr) (pl:List Nat) (ov ev:List V) (ops:List (Str×V)) (ar:List (Str×Str×V)) (HB:Hp) (kvs:List (List Ao×V)) (L:Ml) (S:MS) (sub:List Nat->Option (Str×Dt)) (n:Nat) (oo:Option MS),vs=[.ref L.m,.ref p,.ref o,.ref e]/\MAt K HB C kvs L H S/\H p=some (.tup (A1 pl))/\H o=some (.lst ov)/\Al (ThAt K H) ov ops/\H e=some (.lst ev)/\Al (PrAt K H) ev ar/\¬ L.A e/\FormsAt K H kvs sub/\S.wait.length < 9000/\S.things.length + ops.length < 9000/\D7 sub n { S with things:=S.things++ops,wait:=S.wait++[⟨pl,ar,true⟩] } oo/\(∀ S',oo=some S'->∃ (th:List (Str×V)) (x:Str×V),S'.things=th++[x]/\∀ v H' t,SameM L H H'->MAt K HB C kvs (L.with t) H' { S' with things:=th }->ThAt K H' v x->Q v H')/\(oo=none->∀ H',Same HB H'->E (.ref TL) none H')
theorem Zpy:A2 ["self", "place", "operands", "around"] ["self", "place", "operands", "around"] (Az Im):=by walk_at "sc"
theorem Zog {C TL:Addr} {f:Addr} {fd:FuncData} (F:Fun K "thing_of_parts" "Machine.thing_of_parts" Im f fd) (T:Txt K mg) (O:Mc K C) (ME:Ce (Bk P w) P w K mg base 5 C "thing_at_the_end" ["self"] (O7 K C TL)):FnOk P w K mg base (Bk P w) 6 f fd ["self", "place", "operands", "around"] (Zf3 K C TL):=by
 refine F.okx Zpy (fun vs H Q E h=>?_) (fun cdv A outer s H vs Q E hr h=>?_)
 ·obtain ⟨p,o,e,pl,ov,ev,ops,ar,HB,kvs,L,S,sub,n,oo,rfl,_⟩:=h
  rfl
 ·obtain ⟨p,o,e,pl,ov,ev,ops,ar,HB,kvs,L,S,sub,n,oo,rfl,M,hp,ho,alo,he,ale,nA,FA,hwl,htl,R,qS,qN⟩:=h
  refine ⟨_,Ae (Be (Bw K Pt Vs Vt Ot (Bs K (qv 0)) (Aa (qv 2) Ab)))
   (Ae (Be (Bw K Pt P4 P5 Bz (Bs K (qv 0)) (Aa (An (Aa (qv 1) (Aa (qv 3) (Aa Dw Ab)))) Ab)))
   (Ag (Au (Zgh (k:=5) K (Bk P w) ["self"] (qv 0) hr.m (Gy (fun _ _ _ h=>h)))))),?_⟩
  have bg:=big
  obtain ⟨tv,et,att⟩:=M.things
  have hta:=att.1
  have hoa:=alo.1
  walk_at "r"
  refine ⟨_,rfl,L.m,C,L.dx,_,_,rfl,M.ins,O.cl,O.nt,Fk L S.steps,?_⟩
  refine Bj (SqL.of et) ?_
  walk_at "r"
  refine ⟨L.td,o,_,ov,rfl,rfl,et,ho,by omega,?_⟩
  have M0:=M.setThings (att.append alo)
  have m0:SameM L H (upd H L.td (.lst (tv++ov))):=SameM.upd (.inr (.inr (.inr rfl)))
  revert M0 m0
  generalize upd H L.td (.lst (tv++ov))=H0
  intro M0 m0
  have t0:=M.t m0
  have hp0:=(t0 p).1 _ hp
  have he0:=(M.a m0).2 _ _ nA he
  have ale0:Al (PrAt K H0) ev ar:=ale.mono (PrAt.same t0)
  obtain ⟨wv,ew,aw⟩:=M0.wait
  have hwv:=aw.1
  walk_at "r"
  refine ⟨_,rfl,L.m,C,L.dx,_,_,rfl,M0.ins,O.cl,O.nw,Fp L S.steps,?_⟩
  refine Bj (SqL.of ew) ?_
  walk_at "r"
  refine ⟨Bv,fun r hr'=>?_⟩
  obtain ⟨H1,s1,e1,z9⟩:=Av hr' (.tup [.ref p,.ref e,.bl true])
  rw [z9]
  walk_at "r"
  refine Bt (s1 _ _ ew) (by rw [hwv]; show S.wait.length + 1<=_; omega) ?_
  have M1:=M0.new s1
  have M2:=M1.setWait (wv:=wv++[.ref r]) (ws:=S.wait++[⟨pl,ar,true⟩]) ((aw.mono (WtAt.same s1.a)).snoc ⟨r,p,e,ev,rfl,SqT.of e1,s1 _ _ hp0,s1 _ _ he0,ale0.mono (PrAt.same s1.t),nA⟩)
  have m12:SameM L H1 (upd H1 L.wd (.lst (wv++[.ref r]))):=SameM.upd (.inr (.inr (.inl rfl)))
  have m02:SameM L H (upd H1 L.wd (.lst (wv++[.ref r]))):=m0.trans ((s1.m L).trans m12)
  have FA2:=FA.same (M.t m02)
  walk_at "r"
  refine ⟨_,rfl,L.m,C,L.dx,_,_,rfl,M2.ins,(Cr L S.steps).2.2.2.2.2.2.1,ME,?_⟩
  walk_at "r"
  exact ⟨HB,kvs,L,_,sub,n,oo,rfl,M2,FA2,R,fun S' z=>let ⟨th,x,hx,q⟩:=qS S' z; ⟨th,x,hx,fun v H' t e' M' t'=>q v H' t (m02.trans e') M' t'⟩,qN⟩
theorem Zhu {C TL:Addr} {k:Nat} {f:Addr} {fd:FuncData} (F:FnOk P w K mg base (Bk P w) k f fd ["self", "place", "operands", "around"] (Zf3 K C TL)):FnOk P w K mg base (Bk P w) k f fd ["self", "place", "operands", "around"] (fun vs H Q E=>Zd7 K C vs H Q E\/Zc9 K C TL vs H Q E):=F.imp fun vs H Q E h=>by
 rcases h with h | h
 ·obtain ⟨p,o,e,pl,ov,ev,ops,ar,HB,kvs,L,S,S',sub,n,th,x,rfl,M,hp,ho,alo,he,ale,nA,FA,hwl,htl,R,hx,q⟩:=h
  exact ⟨p,o,e,pl,ov,ev,ops,ar,HB,kvs,L,S,sub,n,_,rfl,M,hp,ho,alo,he,ale,nA,FA,hwl,htl,R.x,fun S2 z=>by cases z; exact ⟨th,x,hx,q⟩,fun z=>nomatch z⟩
 ·obtain ⟨p,o,e,pl,ov,ev,ops,ar,HB,kvs,L,S,sub,n,rfl,M,hp,ho,alo,he,ale,nA,FA,hwl,htl,R,q⟩:=h
  exact ⟨p,o,e,pl,ov,ev,ops,ar,HB,kvs,L,S,sub,n,_,rfl,M,hp,ho,alo,he,ale,nA,FA,hwl,htl,R.x,fun S2 z=>(nomatch z),fun _=>q⟩
noncomputable def Ct (bc ops:List (Str×V)):List (Str×V):=ops.map (A4 bc)
noncomputable def De (bc:List (Str×V)) (ar:List (Str×Str×V)):List (Str×Str×V):=ar.map fun y=>(y.1,A4 bc y.2)
inductive RowG (sub:List Nat->Option (Str×Dt)) (fl:List Nat) (bc:List (Str×V)) (r:Rx) (S:MS):MS->Str×V->Prop where
 | fill {n:Nat} {S':MS} {th:List (Str×V)} {x:Str×V} (hp:r.pl=Ap fl) (R:RunM sub n { S with wait:=S.wait++[⟨fl,De bc r.ar,false⟩] } S') (hx:S'.things=th++[x]):RowG sub fl bc r S { S' with things:=th } x
 | parts {pl:List Nat} {n:Nat} {S':MS} {th:List (Str×V)} {x:Str×V} (hp:r.pl=Ap pl) (hn:r.pl≠Ap fl) (hw:(Bg r.wd).isSome=true) (R:RunM sub n { S with things:=S.things++Ct bc r.ops,wait:=S.wait++[⟨pl,De bc r.ar,true⟩] } S') (hx:S'.things=th++[x]):RowG sub fl bc r S { S' with things:=th } x
 | new {pl:List Nat} (hp:r.pl=Ap pl) (hn:r.pl≠Ap fl) (hw:(Bg r.wd).isSome=false):RowG sub fl bc r S { S with rows:=S.rows++[⟨r.wd,Ap pl,Ct bc r.ops,if r.wd∈WA then De bc r.ar else []⟩] } ("row",.int (S.rows.length:Nat))
structure Kx (n:Nat) (r:Rx):Prop where
 o:∀ y∈r.ops,Kf n y
 a:∀ y∈r.ar,Kf n y.2
 lo:r.ops.length<=1000
 la:r.ar.length<=1000
inductive RowO (sub:List Nat->Option (Str×Dt)) (fl:List Nat) (bc:List (Str×V)) (r:Rx) (S:MS):Option (MS×(Str×V))->Prop where
 | ok {S2:MS} {x:Str×V} (h:RowG sub fl bc r S S2 x):RowO sub fl bc r S (some (S2,x))
 | lateF {n:Nat} (hp:r.pl=Ap fl) (R:RunL sub n { S with wait:=S.wait++[⟨fl,De bc r.ar,false⟩] }):RowO sub fl bc r S none
 | lateP {pl:List Nat} {n:Nat} (hp:r.pl=Ap pl) (hn:r.pl≠Ap fl) (hw:(Bg r.wd).isSome=true) (R:RunL sub n { S with things:=S.things++Ct bc r.ops,wait:=S.wait++[⟨pl,De bc r.ar,true⟩] }):RowO sub fl bc r S none
noncomputable def Zdf (K:Pd) (C TL:Addr):Sp:=fun vs H Q E=>∃ (a:V) (p b:Addr) (r:Rx) (fl:List Nat) (bv:List V) (bc:List (Str×V)) (HB:Hp) (kvs:List (List Ao×V)) (L:Ml) (S:MS) (sub:List Nat->Option (Str×Dt)) (o:Option (MS×(Str×V))),vs=[.ref L.m,a,.ref p,.ref b]/\MAt K HB C kvs L H S/\RwX K (fun _=>False) HB a r/\SqT K HB p (A1 fl)/\HB b=some (.lst bv)/\Al (ThAt K H) bv bc/\Kx bc.length r/\FormsAt K H kvs sub/\S.rows.length < 9000/\S.wait.length < 8000/\S.things.length < 8000/\RowO sub fl bc r S o /\
 (∀ S2 x,o=some (S2,x)->∀ v H' t,SameM L H H'->MAt K HB C kvs (L.with t) H' S2->ThAt K H' v x->Q v H')/\(o=none->∀ H',Same HB H'->E (.ref TL) none H')
theorem Zfm (L:Ml) (n:Int):(L.fs n).lookup ("thing_of_parts" : Str)=none:=rfl
theorem Zkg:(["thing", "became"]:List Str).Nodup:=by decide +kernel
theorem Zfe:(["name", "thing", "became"]:List Str).Nodup:=by decide +kernel
theorem sc_thing_of_row:A2 ["machine", "row", "filled", "became", "word", "place", "operands", "around"] ["machine", "row", "filled", "became"] (Az Jg):=by walk_at "sc"
theorem Zls {C TL:Addr} {f:Addr} {fd:FuncData} (F:Fun K "thing_of_row" "thing_of_row" Jg f fd) (T:Txt K mg) (O:Mc K C) {ap:Addr} {pk:List (Str×V)} (G_PARTS_AWAITED:En mg "PARTS_AWAITED" (.ref ap)) (hpa:F5 P w K ap pk) (hpk:∀ wd,(Cu pk wd).isSome=(Bg wd).isSome/\∀ ns,Bg wd=some ns->∃ b,Cu pk wd=some (.ref b)/\∀ H,SqT K H b (ns.map V.int))
  (C_thing_now:Bb P w K mg base 1 "thing_now" ["thing", "became"] (Jq K)) (MR:Ce Ar P w K mg base 1 C "new_row" ["self", "word", "place", "operands", "around"] (J2 K C)) (MF:Ce (Bk P w) P w K mg base 6 C "thing_of_form" ["self", "place", "around"] (fun vs H Q E=>Zfg K C vs H Q E\/Ze1 K C TL vs H Q E)) (MP:Ce (Bk P w) P w K mg base 6 C "thing_of_parts" ["self", "place", "operands", "around"] (fun vs H Q E=>Zd7 K C vs H Q E\/Zc9 K C TL vs H Q E)):FnOk P w K mg base (Bk P w) 7 f fd ["machine", "row", "filled", "became"] (Zdf K C TL):=by
 refine F.okx sc_thing_of_row (fun vs H Q E h=>?_) (fun cdv A outer s H vs Q E hr h=>?_)
 ·obtain ⟨a,p,b,r,fl,bv,bc,HB,kvs,L,S,sub,oo,rfl,_⟩:=h
  rfl
 ·obtain ⟨av,p,b,r,fl,bv,bc,HB,kvs,L,S,sub,oo,rfl,M,xr,hp,hb,alb,rok,FA,z1,z2,z3,G,q,qL⟩:=h
  refine ⟨_,Ae (Fe (Fb (Gs K) (qv 1) (Fs) (Ey Ac)) (Dc K (n:=2) rfl (Bm (A9 (i:=4) sc_thing_of_row.nd rfl (Or.inl rfl)) (Bm (A9 (i:=5) sc_thing_of_row.nd rfl (Or.inl rfl)) (Di)))))
   (Ae (M8 (i:=6) (N:=["thing", "became"]) (σ0:=Eh 1 [3]) rfl (Ga rfl (by decide +kernel) (by decide +kernel) (by decide +kernel)) (Eo K (Ah K (qv 1) Ac)) (Gj rfl (by rfl)) (fun _ _ _ _=>A9 (i:=0) Zkg rfl (Or.inl rfl)) (fun _ _ _ _=>Gu) (fun _ _ _ _=>A3 C_thing_now hr.m (Aa (qv 0) (Aa (qv 1) Ab))) sc_thing_of_row.nd rfl (Or.inl rfl))
   (Ae (M8 (i:=7) (N:=["name", "thing", "became"]) (σ0:=Eh 2 [3]) rfl (Ga rfl (by decide +kernel) (by decide +kernel) (by decide +kernel)) (Eo K (Ah K (qv 1) Ac)) (Gj rfl (by rfl)) (fun _ _ _ _=>Dc K (n:=2) rfl (Bm (A9 (i:=0) Zfe rfl (Or.inl rfl)) (Bm (A9 (i:=1) Zfe rfl (Or.inl rfl)) (Di)))) (fun _ _ _ _=>Gu) (fun _ _ _ _=>An (Aa (qv 0) (Aa (A3 C_thing_now hr.m (Aa (qv 1) (Aa (qv 2) Ab))) Ab))) sc_thing_of_row.nd rfl (Or.inl rfl))
   (Ae (A0 (Ax (N8 K hr.u200) (qv 5) (qv 2) (Aw _)) (Ag (Au (Cs (k:=6) K (Bk P w) ["self", "place", "around"] (qv 0) hr.m (Gy (fun _ _ _ h=>h)) (Aa (qv 5) (Aa (qv 7) Ab))))) A6)
   (Ae (A0 (Ax (O4 P w K) (qv 4) (E4 G_PARTS_AWAITED) (by rfl)) (Ag (Au (Cs (k:=6) K (Bk P w) ["self", "place", "operands", "around"] (qv 0) hr.m (Gy (fun _ _ _ h=>h)) (Aa (qv 5) (Aa (qv 6) (Aa (qv 7) Ab)))))) A6)
   (Ag (Au (Cs (k:=1) K Ar ["self", "word", "place", "operands", "around"] (qv 0) hr.m C5 (Aa (qv 4) (Aa (qv 5) (Aa (qv 6) (Aa (qv 7) Ab))))))))))),?_⟩
  have bg:=big
  have sB:=M.base
  obtain ⟨⟨a,p',o',e,ov,ev,rfl,qa,_,ho,alo,he,ale,_,_⟩,a2,p2,o2,e2,ea,qa2,hp2⟩:=RwX.same sB.a _ _ xr
  cases ea
  have hb1:=sB _ _ hb
  have lo:=rok.lo
  have la:=rok.la
  have hol:=alo.1
  have hel:=ale.1
  walk_at "r"
  refine .inr (.inr ⟨a,_,rfl,qa2,by show ¬(HT.sIx 4 0 none=0/\HT.sIx 4 4 (some 2)=4); decide,fun k1 h1=>?_⟩)
  rw [show B0 [V.str r.wd,.ref p2,.ref o2,.ref e2] none (some 2)=[V.str r.wd,.ref p2] from rfl]
  obtain ⟨H1,s1,e1,z9⟩:=Av h1 (.tup [.str r.wd,.ref p2])
  rw [z9]
  walk_at "r"
  refine Db (SqT.of e1) rfl ?_
  walk_at "r"
  refine Ak (s1.tup qa) rfl ?_
  refine .inl ⟨o',rfl,⟨_,SqL.of (s1 _ _ ho)⟩,fun D hD=>?_⟩
  refine Jw (K:=K) (a:=o') (xs:=ov) (Pv:=fun i ys σ' H'=>∃ kv,σ'=[kv,some (.ref b)]/\Al (ThAt K H') ys ((r.ops.take i).map (A4 bc))/\Same H1 H') ⟨none,rfl,.nil,Same.upd hD⟩ (fun i ys σ' H' _ ⟨_,_,_,s'⟩=>SqL.of (s' _ _ (s1 _ _ ho))) ?_ ?_
  ·rintro i y ys σ' H2 hy hys ⟨kv,rfl,al2,s2⟩
   obtain ⟨xo,hxo,txo⟩:=alo.get hy
   have s02:=s1.trans s2
   walk_at "r"
   refine ⟨y,b,bv,xo,bc,rfl,ThAt.same s02.t _ _ txo,SqL.of (s02 _ _ hb1),alb.mono (ThAt.same s02.t),rok.o _ (Qv hxo),fun v tv=>?_⟩
   have hyl:ys.length<=1000:=by rw [al2.1,Pp,Qe]; omega
   refine ⟨_,hys,by omega,_,Ad,?_⟩
   have sA:SameT H2 (upd H2 D (.lst (ys++[v]))):=SameT.set hys
   refine ⟨_,rfl,?_,s2.over hD⟩
   rw [Rj,hxo,Tj,Qy,Sd]
   exact (al2.mono (ThAt.same sA)).snoc (ThAt.same sA _ _ tv)
  ·rintro ys σ' H2 hys ⟨kv,rfl,al2,s2⟩
   rw [Qu (by omega)] at al2
   have al2:Al (ThAt K H2) ys (Ct bc r.ops):=al2
   have s02:=s1.trans s2
   walk_at "r"
   refine Ak (s02.tup qa) rfl ?_
   refine .inl ⟨e,rfl,⟨_,SqL.of (s02 _ _ he)⟩,fun D2 hD2=>?_⟩
   refine Jw (K:=K) (a:=e) (xs:=ev) (Pv:=fun i zs σ' H'=>∃ k1 k2,σ'=[k1,k2,some (.ref b)]/\Al (PrAt K H') zs ((r.ar.take i).map fun y=>(y.1,A4 bc y.2))/\Same H2 H') ⟨none,none,rfl,.nil,Same.upd hD2⟩ (fun i zs σ' H' _ ⟨_,_,_,_,s'⟩=>SqL.of (s' _ _ (s02 _ _ he))) ?_ ?_
   ·rintro i y zs σ' H3 hy hzs ⟨k1,k2,rfl,al3,s3⟩
    obtain ⟨xa,hxa,pa,u,rfl,qp,tu⟩:=ale.get hy
    have s03:=s02.trans s3
    walk_at "r"
    refine Db (s03.tup qp) rfl ?_
    walk_at "r"
    refine ⟨u,b,bv,xa.2,bc,rfl,ThAt.same s03.t _ _ tu,SqL.of (s03 _ _ hb1),alb.mono (ThAt.same s03.t),rok.a _ (Qv hxa),fun v tv=>?_⟩
    walk_at "r"
    refine ⟨A7,fun k hk=>?_⟩
    obtain ⟨H4,s4,e4,z9⟩:=Av hk (.tup [.str xa.1,v])
    rw [z9]
    have hyl:zs.length<=1000:=by rw [al3.1,Pp,Qe]; omega
    refine ⟨_,s4 _ _ hzs,by omega,_,Ad,?_⟩
    have sA:SameT H4 (upd H4 D2 (.lst (zs++[.ref k]))):=SameT.set (s4 _ _ hzs)
    refine ⟨_,_,rfl,?_,(s3.trans s4).over hD2⟩
    rw [Rj,hxa,Tj,Qy,Sd]
    exact (al3.mono (PrAt.same (s4.t.trans sA))).snoc ⟨k,v,rfl,sA.tup (SqT.of e4),ThAt.same (s4.t.trans sA) _ _ tv⟩
   ·rintro zs σ' H3 hzs ⟨k1,k2,rfl,al3,s3⟩
    rw [Qu (by omega)] at al3
    have al3:Al (PrAt K H3) zs (De bc r.ar):=al3
    have s03:=s02.trans s3
    have M3:=M.new s03
    have FA3:=FA.same s03.t
    have hys3:=s3 _ _ hys
    have al23:=al2.mono (ThAt.same s3.t)
    have nA2:¬ L.A D2:=by
     have M2:=M.new s02
     obtain ⟨rv,er,_⟩:=M2.rows
     obtain ⟨wv',ew',_⟩:=M2.wait
     obtain ⟨tv,et,_⟩:=M2.things
     rintro (y | y | y)
     ·rw [y,er] at hD2; cases hD2
     ·rw [y,ew'] at hD2; cases hD2
     ·rw [y,et] at hD2; cases hD2
    walk_at "r"
    refine Zc5 (xs:=r.pl) (ys:=Ap fl) (SqT.of (s03 _ _ hp2)) (by rw [B9]; exact (sB.trans s03).tup hp) ?_
    walk_at "r"
    cases G with
    | ok G =>
     cases G with
     | @fill n S' th x hpl R hx =>
      rw [decide_eq_true hpl]
      walk_at "r"
      have hp3:H3 p2=some (.tup (A1 fl)):=by rw [<- B9,<- hpl]; exact s03 _ _ hp2
      refine ⟨_,rfl,L.m,C,L.dx,_,_,rfl,M3.ins,(Cr L S.steps).2.2.2.2.2.2.2,MF,?_⟩
      walk_at "r"
      exact Or.inl ⟨p2,D2,fl,zs,De bc r.ar,HB,kvs,L,S,S',sub,n,th,_,rfl,M3,hp3,hzs,al3,nA2,FA3,by omega,R,hx,fun v H' t e' M' t'=>q _ _ rfl v H' t ((s03.m L).trans e') M' t'⟩
     | @parts pl n S' th x hpl hn hw R hx =>
      rw [decide_eq_false hn]
      walk_at "r"
      have hp3:H3 p2=some (.tup (A1 pl)):=by rw [<- B9,<- hpl]; exact s03 _ _ hp2
      refine ⟨r.wd,ap,pk,rfl,rfl,hpa,?_⟩
      rw [(hpk r.wd).1,hw]
      walk_at "r"
      refine ⟨_,rfl,L.m,C,L.dx,_,_,rfl,M3.ins,Zfm L S.steps,MP,?_⟩
      walk_at "r"
      exact Or.inl ⟨p2,D,D2,pl,ys,zs,Ct bc r.ops,De bc r.ar,HB,kvs,L,S,S',sub,n,th,_,rfl,M3,hp3,hys3,al23,hzs,al3,nA2,FA3,by omega,by unfold Ct; rw [Pp]; omega,R,hx,fun v H' t e' M' t'=>q _ _ rfl v H' t ((s03.m L).trans e') M' t'⟩
     | @new pl hpl hn hw =>
      rw [decide_eq_false hn]
      walk_at "r"
      have hp3:H3 p2=some (.tup (A1 pl)):=by rw [<- B9,<- hpl]; exact s03 _ _ hp2
      refine ⟨r.wd,ap,pk,rfl,rfl,hpa,?_⟩
      rw [(hpk r.wd).1,hw]
      walk_at "r"
      refine ⟨_,rfl,L.m,C,L.dx,_,_,rfl,M3.ins,(Cr L S.steps).2.1,MR,?_⟩
      walk_at "r"
      exact ⟨r.wd,p2,D,D2,pl,ys,zs,Ct bc r.ops,De bc r.ar,HB,kvs,L,S,rfl,M3,hp3,SqL.of hys3,al23,SqL.of hzs,al3,by omega,fun v H' e' M' t'=>q _ _ rfl v H' L.td ((s03.m L).trans e') M' t'⟩
    | @lateF n hpl R =>
     rw [decide_eq_true hpl]
     walk_at "r"
     have hp3:H3 p2=some (.tup (A1 fl)):=by rw [<- B9,<- hpl]; exact s03 _ _ hp2
     refine ⟨_,rfl,L.m,C,L.dx,_,_,rfl,M3.ins,(Cr L S.steps).2.2.2.2.2.2.2,MF,?_⟩
     walk_at "r"
     exact Or.inr ⟨p2,D2,fl,zs,De bc r.ar,HB,kvs,L,S,sub,n,rfl,M3,hp3,hzs,al3,nA2,FA3,by omega,R,qL rfl⟩
    | @lateP pl n hpl hn hw R =>
     rw [decide_eq_false hn]
     walk_at "r"
     have hp3:H3 p2=some (.tup (A1 pl)):=by rw [<- B9,<- hpl]; exact s03 _ _ hp2
     refine ⟨r.wd,ap,pk,rfl,rfl,hpa,?_⟩
     rw [(hpk r.wd).1,hw]
     walk_at "r"
     refine ⟨_,rfl,L.m,C,L.dx,_,_,rfl,M3.ins,Zfm L S.steps,MP,?_⟩
     walk_at "r"
     exact Or.inr ⟨p2,D,D2,pl,ys,zs,Ct bc r.ops,De bc r.ar,HB,kvs,L,S,sub,n,rfl,M3,hp3,hys3,al23,hzs,al3,nA2,FA3,by omega,by unfold Ct; rw [Pp]; omega,R,qL rfl⟩
noncomputable def Zf2 (K:Pd):Sp:=fun vs H Q _=>∃ (v:V) (t:Tr),vs=[v]/\TrAt K H v t/\t.size<=2000/\∀ (p:Addr) (rows:List V) (H':Hp),Same H H'->H p=none->H' p=some (.lst rows)->Al (RowT K H') rows (walk [] t)->Q (.ref p) H'
theorem sc_placed_forms:A2 ["tree", "told", "waiting", "pair", "number", "part"] ["tree"] (Az Jj):=by walk_at "sc"
noncomputable def PlJ (K:Pd) (H:Hp) (v:V) (t:Tr) (pt pw:Addr) (m:Nat) (σ:St) (H':Hp):Prop:=∃ (v3 v4 v5:Option V) (tv wv:List V) (dn st:List (List Nat×Tr)),σ=[some v,some (.ref pt),some (.ref pw),v3,v4,v5]/\H' pt=some (.lst tv)/\H' pw=some (.lst wv) /\
 Al (RowT K H') tv dn/\Al (RowT K H') wv st/\dn++Fx st=walk [] t/\m=Ej st/\Same H H'
theorem Zqe {f:Addr} {fd:FuncData} (F:Fun K "placed_forms" "placed_forms" Jj f fd) (T:Txt K mg):FnOk P w K mg base Ar 1 f fd ["tree"] (Zf2 K):=by
 refine F.okq sc_placed_forms (fun vs H Q E h=>?_) (fun cdv A outer s H vs Q E hr h=>?_)
 ·obtain ⟨v,t,rfl,_⟩:=h
  rfl
 ·obtain ⟨v,t,rfl,ht,hz,q⟩:=h
  refine ⟨_,Ae (Ay 1 sc_placed_forms (Bc Ab))
   (Ae (Ay 2 sc_placed_forms (Bc (Aa (An (Aa (An Ab) (Aa (qv 0) Ab))) Ab)))
   (Ae (Zff Qp (Zam K (qv 2) (by intro _; rfl)) (Ae (Ay 3 sc_placed_forms (Zba K Pt Vx Vy Oj (qv 2)))
   (Ae (Be (Bw K Pt P4 P5 Bz (qv 1) (Aa (qv 3) Ab)))
   (Ag (Dz Qp rfl (L8 K rfl T.reversed (Aa (Zp4 K (by rfl) T.list (by rfl) T.enumerate (Aa (Ah K (Ah K (qv 3) Ac) Ac) Ab)) Ab)) (Dc K (n:=2) rfl (Bm (A9 (i:=4) sc_placed_forms.nd rfl (Or.inl rfl)) (Bm (A9 (i:=5) sc_placed_forms.nd rfl (Or.inl rfl)) (Di)))) (Ag (Be (Bw K Pt P4 P5 Bz (qv 2) (Aa (An (Aa (Aj (Ir K) (Ah K (qv 3) Ac) (An (Aa (qv 4) Ab))) (Aa (qv 5) Ab))) Ab)))))))))
   (Ag (Au (qv 1))))),?_⟩
  have bg:=big
  walk_at "r"
  refine ⟨Bf,fun pt hpt=>?_⟩
  walk_at "r"
  refine ⟨Bf,fun p0 hp0=>?_⟩
  walk_at "r"
  refine ⟨A7,fun p1 hp1=>?_⟩
  walk_at "r"
  refine ⟨Cw,fun pw hpw=>?_⟩
  walk_at "r"
  have s0:Same (upd H pt (.lst [])) _:=((Same.upd (o:=.tup []) hp0).put (o:=.tup [.ref p0,v]) hp1).put (o:=.lst [.ref p1]) hpw
  have s1:Same (upd (upd H pt (.lst [])) p0 (.tup [])) _:=(Same.upd (o:=.tup [.ref p0,v]) hp1).put (o:=.lst [.ref p1]) hpw
  have s2:=Same.upd (o:=.lst [.ref p1]) hpw
  have sH:=(Same.upd (o:=.lst []) hpt).trans s0
  have ept:=s0 pt _ Ad
  have epw:upd (upd (upd (upd H pt (.lst [])) p0 (.tup [])) p1 (.tup [.ref p0,v])) pw (.lst [.ref p1]) pw=some (.lst [.ref p1]):=Ad
  have ep0:=s1 p0 _ Ad
  have ep1:=s2 p1 _ Ad
  have npw:pt≠pw:=fun z=>by rw [z] at ept; rw [Ad] at ept; cases ept
  have hpw0:H pw=none:=((Same.upd (o:=.lst []) hpt).trans ((Same.upd (o:=.tup []) hp0).put (o:=.tup [.ref p0,v]) hp1)).free hpw
  refine ⟨PlJ K H v t pt pw,⟨_,none,none,none,[],[.ref p1],[],[([],t)],rfl,ept,epw,.nil,Al.nil.snoc ⟨p1,p0,v,rfl,SqT.of ep1,ep0,ht.same sH⟩,by simp [Fx],rfl,sH⟩,?_⟩
  rintro m σ' H' ⟨v3,v4,v5,tv,wv,dn,st,rfl,et,ew,al1,al2,hw,rfl,sm⟩
  have hdl:dn.length + Ej st=t.size:=by
   have:=congrArg Sz hw
   rw [Pi,N4] at this
   exact this
  have htl:tv.length=dn.length:=al1.1
  walk_at "r"
  refine Zfa (SqL.of ew) ?_
  by_cases hwv:wv=[]
  ·subst hwv
   have hst:st=[]:=Qm al2.1.symm
   subst hst
   refine iteF ?_
   walk_at "r"
   rw [Ziq,Qo] at hw
   rw [hw] at al1
   exact q pt tv H' sm hpt et al1
  obtain ⟨wv',tp,st',x,rfl,rfl,al3,hrow⟩:=al2.last hwv
  have hne:(!(wv'++[tp]).isEmpty)=true:=by simp
  rw [hne]
  refine iteT ?_
  obtain ⟨pl,tx⟩:=x
  have hx:(pl,tx)∈walk [] t:=by rw [<- hw,Zap]; simp
  have hpl:pl.length<=2000:=by have:=Zbd [] t _ hx; simp at this; omega
  have hload:=Zlo st' (pl,tx)
  have hll:=Ziw (st'++(B6 pl 0 tx.ps).reverse)
  refine ⟨fun σ2 H2=>∃ m',m' < Ej (st'++[(pl,tx)])/\PlJ K H v t pt pw m' σ2 H2,fun _ _ h=>h,?_⟩
  walk_at "r"
  refine Bj (SqL.of ew) ?_
  refine Lf ew ?_
  have t1:SameT H' (upd H' pw (.lst wv')):=SameT.set ew
  have et2:upd H' pw (.lst wv') pt=some (.lst tv):=by rw [Af npw]; exact et
  walk_at "r"
  refine Bj (SqL.of et2) ?_
  walk_at "r"
  refine Bt et2 (by omega) ?_
  have t2:SameT H' (upd (upd H' pw (.lst wv')) pt (.lst (tv++[tp]))):=t1.trans (SameT.set et2)
  have et3:upd (upd H' pw (.lst wv')) pt (.lst (tv++[tp])) pt=some (.lst (tv++[tp])):=Ad
  have ew3:upd (upd H' pw (.lst wv')) pt (.lst (tv++[tp])) pw=some (.lst wv'):=by rw [Af npw.symm,Ad]
  have sm3:Same H (upd (upd H' pw (.lst wv')) pt (.lst (tv++[tp]))):=(sm.over hpw0).over hpt
  revert t2 et3 ew3 sm3
  generalize upd (upd H' pw (.lst wv')) pt (.lst (tv++[tp]))=H3
  intro t2 et3 ew3 sm3
  have hrow3:=RowT.same t2 _ _ hrow
  obtain ⟨a,p,u,rfl,qa,qp,hu⟩:=id hrow3
  cases hu with
  | @mk b pp wd nv n vs ts qb hn qpp hl hch =>
  walk_at "r"
  refine Ak qa rfl ?_
  walk_at "r"
  refine Ak qb rfl ?_
  walk_at "r"
  refine ⟨pp,vs,rfl,qpp,fun S ys H4 hS s4 hl4 hpairs hS4=>?_⟩
  walk_at "r"
  refine ⟨S,ys,rfl,SqL.of hS4,?_⟩
  have nSp:pw≠S:=Ca ew3 hS
  have nSt:pt≠S:=Ca et3 hS
  have al4:Al (RowT K H4) wv' st':=al3.mono (RowT.same (t2.trans s4.t))
  have hkl:(B6 pl 0 ts).length=ys.length:=by rw [Zd3]; omega
  refine Lz (K:=K) (a:=S) (xs:=ys) (fun j σ5 H5=>∃ (v4 v5:Option V) (wv5:List V),σ5=[some v,some (.ref pt),some (.ref pw),some (.ref a),v4,v5]/\H5 pt=some (.lst (tv++[.ref a]))/\H5 pw=some (.lst wv5)/\H5 S=some (.lst ys)/\Al (RowT K H5) wv5 (st'++((B6 pl 0 ts).drop (ys.length - j)).reverse)/\SameT H4 H5/\Same H H5)
   ⟨_,_,wv',rfl,s4 _ _ et3,s4 _ _ ew3,hS4,by rw [T6,Rg (by omega)]; simpa using al4,SameT.refl _,sm3.trans s4⟩ ?_ ?_ ?_
  ·rintro j σ5 H5 _ ⟨_,_,_,_,_,_,e,_⟩
   exact SqL.of e
  ·rintro i y σ5 H5 hi hy ⟨v4',v5',wv5,rfl,e5t,e5w,e5s,al5,t5,sm5⟩
   obtain ⟨tt,xw,rfl,hxw,htt⟩:=hpairs _ _ hy
   have htt5:=(t5 tt).1 _ htt
   walk_at "r"
   refine Db (SqT.of htt5) rfl ?_
   walk_at "r"
   refine Bj (SqL.of e5w) ?_
   walk_at "r"
   have T5:SameT H3 H5:=s4.t.trans t5
   refine Ak (T5.tup qa) rfl ?_
   walk_at "r"
   refine ⟨Cw,fun p6 h6=>?_⟩
   refine Ma (((T5.trans (SameT.new h6)) p).1 _ qp) Ad (by show (A1 pl).length + 1<=sizeLine; unfold A1; rw [Pp]; omega) fun r H7 s7 q7=>?_
   walk_at "r"
   refine ⟨A7,fun p7 h7=>?_⟩
   walk_at "r"
   have s57:Same H5 H7:=(Same.upd h6).trans s7
   have s58:=s57.put (o:=.tup [.ref r,xw]) h7
   have hlw:wv5.length=st'.length + ((B6 pl 0 ts).drop (ys.length - i)).length:=by have:=al5.1; simp at this ⊢; omega
   have hlk:(st'++(B6 pl 0 ts).reverse).length=st'.length + ys.length:=by rw [Pi,List.length_reverse,hkl]
   have hll':(st'++(B6 pl 0 ts).reverse).length<=2000:=by
    have h1:Ej (st'++(B6 pl 0 (Tr.mk wd n ts).ps).reverse) < Ej (st'++[(pl,Tr.mk wd n ts)]):=hload
    have h2:(st'++(B6 pl 0 (Tr.mk wd n ts).ps).reverse).length<=Ej (st'++(B6 pl 0 (Tr.mk wd n ts).ps).reverse):=hll
    have h3:(Tr.mk wd n ts).ps=ts:=rfl
    rw [h3] at h1 h2
    omega
   have hdr:((B6 pl 0 ts).drop (ys.length - i)).length<=ys.length:=by rw [Se]; omega
   refine Bt (s58 _ _ e5w) (by omega) ?_
   have e8w:=s58 _ _ e5w
   have t9:SameT H5 (upd (upd H7 p7 (.tup [.ref r,xw])) pw (.lst (wv5++[.ref p7]))):=s58.t.trans (SameT.set e8w)
   obtain ⟨tk,htk,hat⟩:∃ tk,ts[ys.length - 1 - i]?=some tk/\TrAt K H3 xw tk:=by
    have hj:=(Pq.mp hxw).1
    have hj':ys.length - 1 - i < ts.length:=by omega
    exact ⟨_,Pg hj',hch _ _ _ hxw (Pg hj')⟩
   have hkid:(B6 pl 0 ts)[ys.length - 1 - i]?=some (pl++[ys.length - 1 - i],tk):=by
    rw [Zfy,htk]
    simp
   refine ⟨_,_,wv5++[.ref p7],rfl,?_,Ad,?_,?_,t5.trans t9,(sm5.trans s58).over hpw0⟩
   ·rw [Af npw]; exact s58 _ _ e5t
   ·rw [Af nSp.symm]; exact s58 _ _ e5s
   ·rw [Zmu hkl hi hkid,<- Rs]
    refine (al5.mono (RowT.same t9)).snoc ⟨p7,r,xw,rfl,(SameT.set e8w).tup (SqT.of Ad),?_,hat.sameT (T5.trans t9)⟩
    have q9:=(((SameT.new (o:=.tup [.ref r,xw]) h7).trans (SameT.set (o:=.lst (wv5++[.ref p7])) e8w)) r).1 _ q7
    have e:A1 (pl++[ys.length - 1 - i])=A1 pl++[.int ((ys.length - 1 - i:Nat):Int)]:=by unfold A1; rw [Qy]; rfl
    show upd _ _ _ r=some (.tup (A1 (pl++[ys.length - 1 - i])))
    rw [e]
    exact q9
  ·rintro σ5 H5 ⟨v4',v5',wv5,rfl,e5t,e5w,e5s,al5,t5,sm5⟩
   rw [R7,List.drop_zero] at al5
   refine ⟨_,hload,_,_,_,tv++[.ref a],wv5,dn++[(pl,.mk wd n ts)],_,rfl,e5t,e5w,?_,al5,?_,rfl,sm5⟩
   ·exact (al1.mono (RowT.same (t2.trans (s4.t.trans t5)))).snoc (RowT.same (s4.t.trans t5) _ _ hrow3)
   ·rw [<- hw,Zap,Rs]
    rfl
noncomputable def Eb (t:Tr) (pl:List Nat):Option (Str×Dt):=(B8 (walk [] t) pl).map fun u=>(u.wd,Ek u)
theorem Ju {H:Hp} {a C dx:Addr} {fs:List (Str×V)} (ha:H a=some (.ins C dx fs)) (o:HO):SameT H (upd H a o):=fun b=>⟨fun xs h=>by
 have:b≠a:=fun z=>by rw [z,ha] at h; cases h
 rw [Af this]; exact h,fun o u h=>by
 have:b≠a:=fun z=>by rw [z,ha] at h; cases h
 rw [Af this]; exact h⟩
noncomputable def Zbg (K:Pd) (C:Addr):Sp:=fun vs H Q _=>∃ (m dx:Addr) (HB:Hp) (tv:V) (t:Tr) (n:Int),vs=[.ref m,tv,.int n]/\n<=500/\HB m=none/\HB dx=none/\dx≠m/\H=upd (upd HB dx (.own m)) m (.ins C dx [])/\TrAt K HB tv t/\t.size<=2000 /\
 ∀ H' L kvs,L.m=m->MAt K HB C kvs L H' ⟨[],[],[],n⟩->FormsAt K H' kvs (Eb t)->Q .non H'
theorem Zo6:A2 ["self", "tree", "steps"] ["self", "tree", "steps"] (Az J7):=by walk_at "sc"
theorem Ku {K:Pd} {ta tv:TE} {f:Str} {D:C7} {σ:St} {H:Hp} (h:tv σ H fun y H1=>ta σ H1 fun x H2=>∃ a C dx fs,x=.ref a/\H2 a=some (.ins C dx fs)/\Cls K C/\NoAttr K C f/\fs.length < 1000/\D.nx σ (upd H2 a (.ins C dx (Ai f y fs)))):Ld K ta tv f D σ H:=h
theorem Zgz {C:Addr} {f:Addr} {fd:FuncData} (F:Fun K "__init__" "Machine.__init__" J7 f fd) (T:Txt K mg) (O:Mc K C) (C_placed_forms:Bb P w K mg base 1 "placed_forms" ["tree"] (Zf2 K)) (MS_:Ce Ar P w K mg base 1 C "make_steps" ["self", "many"] (Zab K C)):FnOk P w K mg base Ar 2 f fd ["self", "tree", "steps"] (Zbg K C):=by
 refine F.okq Zo6 (fun vs H Q E h=>?_) (fun cdv A outer s H vs Q E hr h=>?_)
 ·obtain ⟨m,dx,HB,tv,t,n,rfl,_⟩:=h
  rfl
 ·obtain ⟨m,dx,HB,tv,t,n,rfl,hn5,bm,bd,ndm,hH,ht,hz,q⟩:=h
  refine ⟨_,Ae (G6 K (qv 0) (Dk (Zfx K hr.u200 rfl) (by rfl) T.dict (by decide +kernel) (Aa (A3 C_placed_forms hr.m (Aa (qv 1) Ab)) Ab)))
   (Ae (G6 K (qv 0) (Bc Ab))
   (Ae (G6 K (qv 0) (Bc Ab))
   (Ae (G6 K (qv 0) (Bc Ab))
   (Ae (G6 K (qv 0) Ac)
   (Ag (Be (Cs (k:=1) K Ar ["self", "many"] (qv 0) hr.m C5 (Aa (qv 2) Ab)))))))),?_⟩
  have bg:=big
  have sB:Same HB H:=by
   rw [hH]
   exact (Same.upd bd).trans (Same.upd (by rw [Af (Ps ndm)]; exact bm))
  have im:H m=some (.ins C dx []):=by rw [hH]; exact Ad
  clear hH
  walk_at "r"
  refine Ku ?_
  walk_at "r"
  refine ⟨tv,t,rfl,ht.same sB,hz,fun p rows H1 s1 hp1 e1 al1=>?_⟩
  walk_at "r"
  obtain ⟨kvs,alk,look⟩:=Zkq (K:=K) (H:=H1) rows _ al1
  refine ⟨p,rows,rfl,SqL.of e1,.inr ⟨kvs,alk,fun fd hfd=>?_⟩⟩
  have s2:Same H1 (upd H1 fd (.dT (Br [] kvs))):=Same.upd hfd
  have e2:upd H1 fd (.dT (Br [] kvs)) fd=some (.dT (Br [] kvs)):=Ad
  have s02:=s1.trans s2
  have FA:FormsAt K (upd H1 fd (.dT (Br [] kvs))) (Br [] kvs) (Eb t):=by
   intro pl wd d hs
   unfold Eb at hs
   obtain ⟨u,hu,e⟩:=Rz.mp hs
   cases e
   rcases look pl with ⟨_,l2⟩ | ⟨v,u',l1,l2,tr⟩
   ·rw [hu] at l2; cases l2
   ·rw [hu] at l2
    cases l2
    have hm:=Zbd [] t _ (Zom hu)
    simp only [Q9,T7] at hm
    refine ⟨by omega,v,u.ps,by rw [Zbb]; exact l1,?_⟩
    rw [<- Zpq]
    exact tr.same s2
  have nfm:fd≠m:=fun z=>by rw [z,s1 _ _ im] at hfd; cases hfd
  revert s02 e2 FA
  generalize upd H1 fd (.dT (Br [] kvs))=H2
  intro e2 s02 FA
  generalize hkv:Br [] kvs=kv at *
  have sB2:=sB.trans s02
  have im2:=s02 _ _ im
  refine ⟨_,rfl,m,C,dx,_,rfl,im2,O.cl,O.nf,by show 0 < 1000; decide,?_⟩
  have FA3:=FA.same (Ju im2 (.ins C dx (Ai "forms" (.ref fd) [])))
  have sB3:Same HB (upd H2 m (.ins C dx (Ai "forms" (.ref fd) []))):=sB2.over bm
  have im3:upd H2 m (.ins C dx (Ai "forms" (.ref fd) [])) m=some (.ins C dx (Ai "forms" (.ref fd) [])):=Ad
  have ef3:upd H2 m (.ins C dx (Ai "forms" (.ref fd) [])) fd=some (.dT kv):=(Af nfm).trans e2
  revert FA3 sB3 im3 ef3
  generalize upd H2 m (.ins C dx (Ai "forms" (.ref fd) []))=H3
  intro FA3 sB3 im3 ef3
  walk_at "r"
  refine Ku ?_
  walk_at "r"
  refine ⟨Bf,fun rd hrd=>?_⟩
  have s4:Same H3 (upd H3 rd (.lst [])):=Same.upd hrd
  have er4:upd H3 rd (.lst []) rd=some (.lst []):=Ad
  have nrm:rd≠m:=fun z=>by rw [z,im3] at hrd; cases hrd
  have nrf:fd≠rd:=fun z=>by rw [<- z,ef3] at hrd; cases hrd
  have br:HB rd=none:=sB3.free hrd
  revert s4 er4
  generalize upd H3 rd (.lst [])=H4
  intro s4 er4
  have FA4:=FA3.same s4.t
  have sB4:=sB3.trans s4
  have im4:=s4 _ _ im3
  have ef4:=s4 _ _ ef3
  refine ⟨_,rfl,m,C,dx,_,rfl,im4,O.cl,O.nr,by show 1 < 1000; decide,?_⟩
  have FA5:=FA4.same (Ju im4 (.ins C dx (Ai "rows" (.ref rd) (Ai "forms" (.ref fd) []))))
  have sB5:Same HB (upd H4 m (.ins C dx (Ai "rows" (.ref rd) (Ai "forms" (.ref fd) [])))):=sB4.over bm
  have im5:upd H4 m (.ins C dx (Ai "rows" (.ref rd) (Ai "forms" (.ref fd) []))) m=some (.ins C dx (Ai "rows" (.ref rd) (Ai "forms" (.ref fd) []))):=Ad
  have ef5:upd H4 m (.ins C dx (Ai "rows" (.ref rd) (Ai "forms" (.ref fd) []))) fd=some (.dT kv):=(Af nfm).trans ef4
  have er5:upd H4 m (.ins C dx (Ai "rows" (.ref rd) (Ai "forms" (.ref fd) []))) rd=some (.lst []):=(Af nrm).trans er4
  revert FA5 sB5 im5 ef5 er5
  generalize upd H4 m (.ins C dx (Ai "rows" (.ref rd) (Ai "forms" (.ref fd) [])))=H5
  intro FA5 sB5 im5 ef5 er5
  walk_at "r"
  refine Ku ?_
  walk_at "r"
  refine ⟨Bf,fun wd hwd=>?_⟩
  have s6:Same H5 (upd H5 wd (.lst [])):=Same.upd hwd
  have ew6:upd H5 wd (.lst []) wd=some (.lst []):=Ad
  have nwm:wd≠m:=fun z=>by rw [z,im5] at hwd; cases hwd
  have nwr:rd≠wd:=fun z=>by rw [<- z,er5] at hwd; cases hwd
  have bw:HB wd=none:=sB5.free hwd
  revert s6 ew6
  generalize upd H5 wd (.lst [])=H6
  intro s6 ew6
  have FA6:=FA5.same s6.t
  have sB6:=sB5.trans s6
  have im6:=s6 _ _ im5
  have ef6:=s6 _ _ ef5
  have er6:=s6 _ _ er5
  refine ⟨_,rfl,m,C,dx,_,rfl,im6,O.cl,O.nw,by show 2 < 1000; decide,?_⟩
  have FA7:=FA6.same (Ju im6 (.ins C dx (Ai "waiting" (.ref wd) (Ai "rows" (.ref rd) (Ai "forms" (.ref fd) [])))))
  have sB7:Same HB (upd H6 m (.ins C dx (Ai "waiting" (.ref wd) (Ai "rows" (.ref rd) (Ai "forms" (.ref fd) []))))):=sB6.over bm
  have im7:upd H6 m (.ins C dx (Ai "waiting" (.ref wd) (Ai "rows" (.ref rd) (Ai "forms" (.ref fd) [])))) m=some (.ins C dx (Ai "waiting" (.ref wd) (Ai "rows" (.ref rd) (Ai "forms" (.ref fd) [])))):=Ad
  have ef7:upd H6 m (.ins C dx (Ai "waiting" (.ref wd) (Ai "rows" (.ref rd) (Ai "forms" (.ref fd) [])))) fd=some (.dT kv):=(Af nfm).trans ef6
  have er7:upd H6 m (.ins C dx (Ai "waiting" (.ref wd) (Ai "rows" (.ref rd) (Ai "forms" (.ref fd) [])))) rd=some (.lst []):=(Af nrm).trans er6
  have ew7:upd H6 m (.ins C dx (Ai "waiting" (.ref wd) (Ai "rows" (.ref rd) (Ai "forms" (.ref fd) [])))) wd=some (.lst []):=(Af nwm).trans ew6
  revert FA7 sB7 im7 ef7 er7 ew7
  generalize upd H6 m (.ins C dx (Ai "waiting" (.ref wd) (Ai "rows" (.ref rd) (Ai "forms" (.ref fd) []))))=H7
  intro FA7 sB7 im7 ef7 er7 ew7
  walk_at "r"
  refine Ku ?_
  walk_at "r"
  refine ⟨Bf,fun td htd=>?_⟩
  have s8:Same H7 (upd H7 td (.lst [])):=Same.upd htd
  have et8:upd H7 td (.lst []) td=some (.lst []):=Ad
  have ntm:td≠m:=fun z=>by rw [z,im7] at htd; cases htd
  have ntr:rd≠td:=fun z=>by rw [<- z,er7] at htd; cases htd
  have ntw:wd≠td:=fun z=>by rw [<- z,ew7] at htd; cases htd
  have bt:HB td=none:=sB7.free htd
  revert s8 et8
  generalize upd H7 td (.lst [])=H8
  intro s8 et8
  have FA8:=FA7.same s8.t
  have sB8:=sB7.trans s8
  have im8:=s8 _ _ im7
  have ef8:=s8 _ _ ef7
  have er8:=s8 _ _ er7
  have ew8:=s8 _ _ ew7
  refine ⟨_,rfl,m,C,dx,_,rfl,im8,O.cl,O.nt,by show 3 < 1000; decide,?_⟩
  have FA9:=FA8.same (Ju im8 (.ins C dx (Ai "things" (.ref td) (Ai "waiting" (.ref wd) (Ai "rows" (.ref rd) (Ai "forms" (.ref fd) []))))))
  have sB9:Same HB (upd H8 m (.ins C dx (Ai "things" (.ref td) (Ai "waiting" (.ref wd) (Ai "rows" (.ref rd) (Ai "forms" (.ref fd) [])))))):=sB8.over bm
  have im9:upd H8 m (.ins C dx (Ai "things" (.ref td) (Ai "waiting" (.ref wd) (Ai "rows" (.ref rd) (Ai "forms" (.ref fd) []))))) m=some (.ins C dx (Ai "things" (.ref td) (Ai "waiting" (.ref wd) (Ai "rows" (.ref rd) (Ai "forms" (.ref fd) []))))):=Ad
  have ef9:upd H8 m (.ins C dx (Ai "things" (.ref td) (Ai "waiting" (.ref wd) (Ai "rows" (.ref rd) (Ai "forms" (.ref fd) []))))) fd=some (.dT kv):=(Af nfm).trans ef8
  have er9:upd H8 m (.ins C dx (Ai "things" (.ref td) (Ai "waiting" (.ref wd) (Ai "rows" (.ref rd) (Ai "forms" (.ref fd) []))))) rd=some (.lst []):=(Af nrm).trans er8
  have ew9:upd H8 m (.ins C dx (Ai "things" (.ref td) (Ai "waiting" (.ref wd) (Ai "rows" (.ref rd) (Ai "forms" (.ref fd) []))))) wd=some (.lst []):=(Af nwm).trans ew8
  have et9:upd H8 m (.ins C dx (Ai "things" (.ref td) (Ai "waiting" (.ref wd) (Ai "rows" (.ref rd) (Ai "forms" (.ref fd) []))))) td=some (.lst []):=(Af ntm).trans et8
  revert FA9 sB9 im9 ef9 er9 ew9 et9
  generalize upd H8 m (.ins C dx (Ai "things" (.ref td) (Ai "waiting" (.ref wd) (Ai "rows" (.ref rd) (Ai "forms" (.ref fd) [])))))=H9
  intro FA9 sB9 im9 ef9 er9 ew9 et9
  walk_at "r"
  refine Ku ?_
  walk_at "r"
  refine ⟨m,C,dx,_,rfl,im9,O.cl,O.ns,by show 4 < 1000; decide,?_⟩
  obtain ⟨L,hL⟩:∃ L:Ml,L=⟨m,dx,fd,rd,wd,td⟩:=⟨_,rfl⟩
  have M:MAt K HB C kv L (upd H9 m (.ins C dx (L.fs 0))) ⟨[],[],[],0⟩:=by
   subst hL
   exact ⟨sB9.over bm,bm,br,bw,bt,Ad,(Af nfm).trans ef9,nwr,ntr,ntw,⟨[],(Af nrm).trans er9,.nil,SepR.nil⟩,⟨[],(Af nwm).trans ew9,.nil⟩,⟨[],(Af ntm).trans et9,.nil⟩⟩
  have FA10:=FA9.same (Ju im9 (.ins C dx (L.fs 0)))
  rw [show Ai "steps" (.int 0) (Ai "things" (.ref td) (Ai "waiting" (.ref wd) (Ai "rows" (.ref rd) (Ai "forms" (.ref fd) []))))=L.fs 0 by subst hL; rfl]
  revert M FA10
  generalize upd H9 m (.ins C dx (L.fs 0))=H10
  intro M FA10
  have hm:L.m=m:=by rw [hL]
  walk_at "r"
  refine ⟨_,rfl,m,C,L.dx,_,_,rfl,(by rw [<- hm]; exact M.ins),(Cr L 0).1,MS_,?_⟩
  walk_at "r"
  refine ⟨n,HB,kv,L,_,by rw [hm],M,by show (0:Int) + n<=500; omega,fun H' e' M'=>?_⟩
  walk_at "r"
  have M':MAt K HB C kv L H' ⟨[],[],[],(0:Int) + n⟩:=M'
  rw [Int.zero_add] at M'
  exact q H' L kv hm M' (FA10.same (M.t e'))
end
end K52
namespace K52
open PySem L2 K19
section
variable {P:Program} {w:World} {K:Pd} {mg:Str->Option Value} {base:Heap}
noncomputable def Zf0:Sp:=fun vs H Q _=>∃ k:Int,vs=[.int k]/\Q (.bl true) H
theorem Zj5:A2 ["thing"] ["thing"] (Az Ka):=by walk_at "sc"
theorem Zgr {f:Addr} {fd:FuncData} (F:Fun K "is_whole" "is_whole" Ka f fd) (T:Txt K mg):FnOk P w K mg base Ar 1 f fd ["thing"] Zf0:=by
 refine F.okq Zj5 (fun vs H Q E h=>?_) (fun cdv A outer s H vs Q E hr h=>?_)
 ·obtain ⟨k,rfl,_⟩:=h
  rfl
 ·obtain ⟨k,rfl,q⟩:=h
  refine ⟨_,Ag (Au (Fl (Bp (Cz K "int") (by rfl) T.isinstance (by decide +kernel) (Aa (qv 0) (Aa (C2 (v:=.ty "int") (by rfl) T.int (by decide +kernel) rfl) Ab))) (Fd (Zp6 (Bp (Cz K "bool") (by rfl) T.isinstance (by decide +kernel) (Aa (qv 0) (Aa (C2 (v:=.ty "bool") (by rfl) T.bool (by decide +kernel) rfl) Ab))))))),?_⟩
  walk_at "r"
  refine B5 (.int _) Zoa ?_
  walk_at "r"
  refine B5 (.int _) Zqi ?_
  walk_at "r"
  exact q
end
end K52
namespace K52
open PySem L2 K19
section
variable {P:Program} {w:World} {K:Pd} {mg:Str->Option Value} {base:Heap}
noncomputable def Zeh (K:Pd):Sp:=fun vs H Q _=>∃ (v:V) (w:Str) (n:Dt) (ps:List Tr) (k:Nat),vs=[v,.int (k:Nat)]/\TrAt K H v (.mk w n ps)/\k < ps.length/\Q (.bl true) H
theorem Zjv:A2 ["form", "number"] ["form", "number"] (Az J3):=by walk_at "sc"
theorem Zq2 {f:Addr} {fd:FuncData} (F:Fun K "has_part" "has_part" J3 f fd) (T:Txt K mg) (C_is_whole:Bb P w K mg base 1 "is_whole" ["thing"] Zf0):FnOk P w K mg base Ar 2 f fd ["form", "number"] (Zeh K):=by
 refine F.okq Zjv (fun vs H Q E h=>?_) (fun cdv A outer s H vs Q E hr h=>?_)
 ·obtain ⟨v,w,n,ps,k,rfl,_⟩:=h
  rfl
 ·obtain ⟨v,w,n,ps,k,rfl,ht,hk,q⟩:=h
  refine ⟨_,Ag (Au (Fl (A3 C_is_whole hr.m (Aa (qv 1) Ab)) (Fd (Zpg Zku Ia Ac (qv 1) (Bp (C6 K) (by rfl) T.len (by decide +kernel) (Aa (Ah K (qv 0) Ac) Ab)))))),?_⟩
  cases ht with
  | @mk b pp _ nv _ us _ qb hn qp l hch =>
  walk_at "r"
  refine ⟨_,rfl,?_⟩
  walk_at "r"
  refine B4 (fun _=>?_) (fun c=>absurd (decide_eq_true (by omega)) c)
  walk_at "r"
  refine Ak qb rfl ?_
  walk_at "r"
  refine Fa qp ?_
  walk_at "r"
  have e:decide ((k:Int) < (us.length:Int))=true:=decide_eq_true (by omega)
  rw [e]
  exact q
end
end K52
namespace K52
open PySem L2 K19
section
variable {P:Program} {w:World} {K:Pd} {mg:Str->Option Value} {base:Heap}
theorem Ze9 {α:Type} {xs:List α} {x:α} (h:xs[xs.length - 1]?=some x):Cf xs (-1)=some x:=by
 have hl:=(Pq.mp h).1
 unfold Cf Fm
 rw [if_neg (by omega),if_pos (by omega)]
 have e:((-1:Int) + (xs.length:Int)).toNat=xs.length - 1:=by omega
 simpa [e] using h
theorem Zqa {α:Type} {xs:List α} {i:Int} {x:α} (j:Nat) (hj:(j:Int)=i) (h:xs[j]?=some x):Cf xs i=some x:=by
 have hl:=(Pq.mp h).1
 subst hj
 unfold Cf Fm
 rw [if_pos (by omega),if_pos (by omega)]
 simpa using h
theorem Zgc {pl:List Nat} {i:Nat} {v:V} (h:(A1 pl)[i]?=some v):∃ k,v=.int (k:Nat)/\pl[i]?=some k:=by
 unfold A1 at h
 rw [Qh] at h
 cases e:pl[i]? with
 | none=>rw [e] at h; cases h
 | some x=>rw [e] at h; exact ⟨x,(Qi h).symm,rfl⟩
theorem Zey (pl:List Nat):(A1 pl).length=pl.length:=by unfold A1; simp
noncomputable def Ov (K:Pd):Sp:=fun vs H Q _=>∃ (v:V) (t:Tr) (p:Addr) (pl:List Nat),vs=[v,.ref p]/\TrAt K H v t/\SqT K H p (A1 pl)/\Sub t pl/\pl.length<=1000 /\
 ∀ (q:Addr) (ws:List V) (H':Hp),H q=none->Same H H'->H' q=some (.lst ws)->Al (TrAt K H') ws (B2 t pl)->Q (.ref q) H'
theorem sc_forms_down_to:A2 ["tree", "place", "passed", "number"] ["tree", "place"] (Az K6):=by walk_at "sc"
theorem Zgu {f:Addr} {fd:FuncData} (F:Fun K "forms_down_to" "forms_down_to" K6 f fd) (T:Txt K mg) (C_has_part:Bb P w K mg base 2 "has_part" ["form", "number"] (Zeh K)):FnOk P w K mg base Ar 3 f fd ["tree", "place"] (Ov K):=by
 refine F.okq sc_forms_down_to (fun vs H Q E h=>?_) (fun cdv A outer s H vs Q E hr h=>?_)
 ·obtain ⟨v,t,p,pl,rfl,_⟩:=h
  rfl
 ·obtain ⟨v,t,p,pl,rfl,ht,hp,hs,hl,q⟩:=h
  refine ⟨_,Ae (Ay 2 sc_forms_down_to (Bc (Aa (qv 0) Ab)))
   (Ae (Dz Qp rfl (Eo K (qv 1)) (A9 (i:=3) sc_forms_down_to.nd rfl (Or.inl rfl)) (Ae (A0 (Kj (Dm (A3 C_has_part hr.m (Aa (Ah K (qv 2) (K2 Jz Ac)) (Aa (qv 3) Ab))))) (Ag Ng) A6)
   (Ag (Be (Bw K Pt P4 P5 Bz (qv 2) (Aa (Ah K (Ah K (Ah K (qv 2) (K2 Jz Ac)) Ac) (qv 3)) Ab))))))
   (Ag (Au (qv 2)))),?_⟩
  have bg:=big
  walk_at "r"
  refine ⟨Cw,fun q0 hq0=>?_⟩
  obtain ⟨H1,s1,e1,z9⟩:=Av hq0 (.lst [v])
  rw [z9]
  walk_at "r"
  refine .inr (.inl ⟨p,rfl,⟨_,s1.tup hp⟩,?_⟩)
  have p0:(B2 t pl).take 1=[t]:=by
   have:=Zbk t pl
   cases e:B2 t pl with
   | nil=>rw [e] at this; cases this
   | cons a r =>
    rw [e] at this
    have h:a=t:=by simpa using this
    rw [h]
    rfl
  refine Zrq (K:=K) (a:=p) (xs:=A1 pl) (fun i σ' H'=>∃ w3 ws,σ'=[some v,some (.ref p),some (.ref q0),w3]/\H' q0=some (.lst ws)/\Al (TrAt K H') ws ((B2 t pl).take (i + 1))/\Same H H') ⟨none,[v],rfl,e1,by rw [p0]; exact Al.nil.snoc (ht.same s1),s1⟩ ?_ ?_ ?_
  ·rintro i σ' H' _ ⟨_,_,_,_,_,sm⟩
   exact sm.tup hp
  ·rintro i x σ' H' hx ⟨w3,ws,rfl,e2,al,sm⟩
   obtain ⟨k,rfl,hk⟩:=Zgc hx
   obtain ⟨w',n',ps,u,a1,a2,a3⟩:=Nr hs i k hk
   have hi:=(Pq.mp hk).1
   have hpl:=Lq hs
   have hwl:ws.length=i + 1:=by rw [al.1,Qe]; omega
   have hx1:((B2 t pl).take (i + 1))[i]?=some (.mk w' n' ps):=by rw [List.getElem?_take,if_pos (by omega)]; exact a1
   obtain ⟨vi,hvi,hti⟩:=al.get' hx1
   have hlast:Cf ws (-1)=some vi:=Ze9 (by rw [hwl]; exact hvi)
   cases hti with
   | @mk b pp _ nv _ us _ qb hn qp l hch =>
   have hku:k < us.length:=by rw [l]; exact (Pq.mp a2).1
   walk_at "r"
   refine Bd (SqL.of e2) hlast ?_
   walk_at "r"
   refine ⟨_,w',n',ps,k,rfl,.mk qb hn qp l hch,by omega,?_⟩
   walk_at "r"
   refine Bj (SqL.of e2) ?_
   walk_at "r"
   refine Bd (SqL.of e2) hlast ?_
   walk_at "r"
   refine Ak qb rfl ?_
   walk_at "r"
   refine Ak qp (Zqa k rfl (Pg hku)) ?_
   walk_at "r"
   refine Bt e2 (by omega) ?_
   walk_at "r"
   have t3:SameT H' (upd H' q0 (.lst (ws++[us[k]]))):=SameT.set e2
   refine ⟨_,ws++[us[k]],rfl,Ad,?_,sm.over hq0⟩
   have e3:(B2 t pl).take (i + 1 + 1)=(B2 t pl).take (i + 1)++[u]:=by rw [Rj,a3]; rfl
   rw [e3]
   exact (al.mono fun _ _ z=>z.sameT t3).snoc ((hch k _ u (Pg hku) a2).sameT t3)
  ·rintro σ' H' ⟨w3,ws,rfl,e2,al,sm⟩
   rw [Zey,Qu (by rw [Lq hs]; omega)] at al
   walk_at "r"
   exact q q0 ws H' hq0 sm e2 al
end
end K52
namespace K52
open PySem L2 K19
section
variable {P:Program} {w:World} {K:Pd} {mg:Str->Option Value} {base:Heap}
noncomputable def Zgb (K:Pd):Sp:=fun vs H Q _=>∃ (v u:V) (w:Str) (n:Dt) (ps:List Tr) (tu:Tr) (k:Nat),vs=[v,.int (k:Nat),u]/\TrAt K H v (.mk w n ps)/\TrAt K H u tu/\k < ps.length/\ps.length<=1000 /\
 ∀ (v':V) (H':Hp),Same H H'->TrAt K H' v' (.mk w n (ps.set k tu))->Q v' H'
theorem Zmp {α:Type} {xs:List α} {k:Nat} {x:α} (h:k < xs.length):xs.take k++[x]++xs.drop (k + 1)=xs.set k x:=by
 rw [List.set_eq_take_append_cons_drop,if_pos h,Rs]
 rfl
theorem Zfd:A2 ["form", "number", "part", "parts"] ["form", "number", "part"] (Az Kh):=by walk_at "sc"
theorem Zhl {f:Addr} {fd:FuncData} (F:Fun K "with_part" "with_part" Kh f fd) (T:Txt K mg):FnOk P w K mg base Ar 1 f fd ["form", "number", "part"] (Zgb K):=by
 refine F.okq Zfd (fun vs H Q E h=>?_) (fun cdv A outer s H vs Q E hr h=>?_)
 ·obtain ⟨v,u,w,n,ps,tu,k,rfl,_⟩:=h
  rfl
 ·obtain ⟨v,u,w,n,ps,tu,k,rfl,ht,hu,hk,hl,q⟩:=h
  refine ⟨_,Ae (Ay 3 Zfd (Ah K (qv 0) Ac))
   (Ag (Au (An (Aa (Ah K (qv 0) Ac) (Aa (Ah K (qv 0) Ac) (Aa (Aj (Cg K) (Aj (Cg K) (Fb (Zc4 K) (qv 3) (Fs) (Ey (qv 1))) (An (Aa (qv 2) Ab))) (Fb (Zc4 K) (qv 3) (Ey (Aj (Cg K) (qv 1) Ac)) (Fs))) Ab)))))),?_⟩
  have bg:=big
  cases ht with
  | @mk b pp _ nv _ us _ qb hn qp l hch =>
  walk_at "r"
  refine Ak qb rfl ?_
  walk_at "r"
  refine Ak qb rfl ?_
  walk_at "r"
  refine Ak qb rfl ?_
  walk_at "r"
  refine Zfn qp fun r1 H1 s1 q1=>?_
  rw [Zj9] at q1
  walk_at "r"
  refine ⟨Cw,fun p2 h2=>?_⟩
  have s2:=Same.upd (o:=.tup [u]) h2
  refine Zch (s2.tup q1) (SqT.of Ad) (by rw [Qe]; show _ + 1<=sizeLine; omega) fun r3 H3 s3 q3=>?_
  have s13:=s1.trans (s2.trans s3)
  walk_at "r"
  refine Zfn (s13.tup qp) fun r4 H4 s4 q4=>?_
  have ek:(k:Int) + 1=((k + 1:Nat):Int):=by omega
  rw [ek,Zes] at q4
  refine Zch (s4.tup q3) q4 (by rw [Pi,Qe,Se]; show _ + 1 + _<=sizeLine; omega) fun r5 H5 s5 q5=>?_
  rw [Zmp (by omega)] at q5
  walk_at "r"
  refine ⟨Bv,fun p6 h6=>?_⟩
  have s6:=Same.upd (o:=.tup [.str w,nv,.ref r5]) h6
  have sm:=s13.trans (s4.trans (s5.trans s6))
  refine q (.ref p6) _ sm (.mk (SqT.of Ad) (hn.same sm.t) (s6.tup q5) (by rw [List.length_set,List.length_set]; exact l) fun j x y g1 g2=>?_)
  by_cases e:k=j
  ·subst e
   rw [Vu (by omega)] at g1 g2
   cases g1
   cases g2
   exact hu.same sm
  ·rw [Vz e] at g1 g2
   exact (hch j x y g1 g2).same sm
end
end K52
namespace K52
open PySem L2 K19
section
variable {P:Program} {w:World} {K:Pd} {mg:Str->Option Value} {base:Heap}
noncomputable def Zep (K:Pd):Sp:=fun vs H Q _=>∃ (v u:V) (t tu:Tr) (p:Addr) (pl:List Nat),vs=[v,.ref p,u]/\TrAt K H v t/\SqT K H p (A1 pl)/\Sub t pl/\pl.length<=1000/\t.size<=1000/\TrAt K H u tu /\
 ∀ (v':V) (H':Hp),Same H H'->TrAt K H' v' (withAt t pl tu)->Q v' H'
theorem Zq9 {t:Tr} {pl:List Nat} (s:Sub t pl):∀ u∈B2 t pl,u.size<=t.size:=by
 induction s with
 | nil t=>intro u hu; cases t; rw [B2,P8] at hu; rw [hu]; exact Ph _
 | cons hj _ ih =>
  intro u hu
  rw [Ox hj] at hu
  rcases Pm.mp hu with rfl | hu
  ·exact Ph _
  ·have:=ih u hu
   have:=Zl9 hj
   rw [Tr.size]
   omega
theorem sc_with_at:A2 ["tree", "place", "form", "made", "number", "above"] ["tree", "place", "form"] (Az Kd):=by walk_at "sc"
theorem Zl7 {f:Addr} {fd:FuncData} (F:Fun K "with_at" "with_at" Kd f fd) (T:Txt K mg) (C_forms_down_to:Bb P w K mg base 3 "forms_down_to" ["tree", "place"] (Ov K)) (C_with_part:Bb P w K mg base 1 "with_part" ["form", "number", "part"] (Zgb K)):FnOk P w K mg base Ar 4 f fd ["tree", "place", "form"] (Zep K):=by
 refine F.okq sc_with_at (fun vs H Q E h=>?_) (fun cdv A outer s H vs Q E hr h=>?_)
 ·obtain ⟨v,u,t,tu,p,pl,rfl,_⟩:=h
  rfl
 ·obtain ⟨v,u,t,tu,p,pl,rfl,ht,hp,hs,hl,hz,hu,q⟩:=h
  refine ⟨_,Ae (Ay 3 sc_with_at (qv 2))
   (Ae (Dz Qp rfl (L8 K rfl T.reversed (Aa (Zjx K (by rfl) T.list (by rfl) T.zip (Aa (qv 1) (Aa (A3 C_forms_down_to hr.m (Aa (qv 0) (Aa (qv 1) Ab))) Ab))) Ab)) (Dc K (n:=2) rfl (Bm (A9 (i:=4) sc_with_at.nd rfl (Or.inl rfl)) (Bm (A9 (i:=5) sc_with_at.nd rfl (Or.inl rfl)) (Di)))) (Ag (Ay 3 sc_with_at (A3 C_with_part hr.m (Aa (qv 5) (Aa (qv 4) (Aa (qv 3) Ab)))))))
   (Ag (Au (qv 3)))),?_⟩
  have hpl:=Lq hs
  walk_at "r"
  refine ⟨v,t,p,pl,rfl,ht,hp,hs,hl,fun q1 ws H1 hq1 s1 e1 al=>?_⟩
  walk_at "r"
  refine ⟨p,q1,_,ws,rfl,s1.tup hp,SqL.of e1,fun S zs H2 hS s2 hzl hpairs hS2=>?_⟩
  have hzl:zs.length=pl.length:=by rw [hzl,Zey,al.1,hpl]; omega
  walk_at "r"
  refine ⟨S,zs,rfl,SqL.of hS2,?_⟩
  have s12:=s1.trans s2
  have hlastp:(B2 t pl)[pl.length]?=some ((B2 t pl)[pl.length]'(by omega)):=Pg (by omega)
  refine Lz (K:=K) (a:=S) (xs:=zs) (fun j σ' H'=>∃ w4 w5 m tm,σ'=[some v,some (.ref p),some u,some m,w4,w5]/\(B2 t pl)[pl.length - j]?=some tm/\TrAt K H' m (withAt tm (pl.drop (pl.length - j)) tu)/\Same H2 H') ⟨none,none,u,_,rfl,hlastp,by rw [T6,Rg (Ph _),Zh2]; exact hu.same s12,Same.refl _⟩ ?_ ?_ ?_
  ·rintro j σ' H' _ ⟨_,_,_,_,_,_,_,sm⟩
   exact SqL.of (sm _ _ hS2)
  ·rintro j z σ' H' hj hz1 ⟨w4,w5,m,tm,rfl,htm,hm,sm⟩
   obtain ⟨tt,x,y,rfl,hx,hy,htt⟩:=hpairs _ _ hz1
   obtain ⟨k,rfl,hk⟩:=Zgc hx
   obtain ⟨w',n',ps,u',a1,a2,a3⟩:=Nr hs _ k hk
   rw [hzl] at hk a1 a3 hy hj
   obtain ⟨ty,hty,hat⟩:=al.get hy
   rw [a1] at hty
   cases hty
   have e2:pl.length - 1 - j + 1=pl.length - j:=by omega
   rw [e2,htm] at a3
   cases a3
   have hps:ps.length<=1000:=by
    have:=Zq9 hs _ (Qv a1)
    rw [Tr.size] at this
    have:=Zox ps
    omega
   walk_at "r"
   refine Db (SqT.of (sm _ _ htt)) rfl ?_
   walk_at "r"
   refine ⟨y,m,w',n',ps,_,k,rfl,hat.same (s2.trans sm),hm,(Pq.mp a2).1,hps,fun v' H3 s3 hv'=>?_⟩
   walk_at "r"
   have e3:pl.length - (j + 1)=pl.length - 1 - j:=by omega
   refine ⟨_,_,v',_,rfl,by rw [e3]; exact a1,?_,sm.trans s3⟩
   rw [e3,Zh0 hs _ k w' n' ps tm hk a1 (by rw [e2]; exact htm),e2]
   exact hv'
  ·rintro σ' H' ⟨w4,w5,m,tm,rfl,htm,hm,sm⟩
   rw [hzl,R7] at htm hm
   rw [Zbk] at htm
   cases htm
   walk_at "r"
   exact q m H' (s12.trans sm) hm
end
end K52
namespace K52
open PySem L2 K19
section
variable {P:Program} {w:World} {K:Pd} {mg:Str->Option Value} {base:Heap}
noncomputable def Zen (K:Pd):Sp:=fun vs H Q _=>∃ (v:V) (t:Tr) (p:Addr) (pl:List Nat) (tx:Tr),vs=[v,.ref p]/\TrAt K H v t/\SqT K H p (A1 pl)/\Sub t pl/\pl.length<=1000/\(B2 t pl)[pl.length]?=some tx /\
 ∀ (u:V) (H':Hp),Same H H'->TrAt K H' u tx->Q u H'
theorem Zo1:A2 ["tree", "place"] ["tree", "place"] (Az J0):=by walk_at "sc"
theorem Zh1 {f:Addr} {fd:FuncData} (F:Fun K "form_at" "form_at" J0 f fd) (T:Txt K mg) (C_forms_down_to:Bb P w K mg base 3 "forms_down_to" ["tree", "place"] (Ov K)):FnOk P w K mg base Ar 4 f fd ["tree", "place"] (Zen K):=by
 refine F.okq Zo1 (fun vs H Q E h=>?_) (fun cdv A outer s H vs Q E hr h=>?_)
 ·obtain ⟨v,t,p,pl,tx,rfl,_⟩:=h
  rfl
 ·obtain ⟨v,t,p,pl,tx,rfl,ht,hp,hs,hl,hx,q⟩:=h
  refine ⟨_,Ag (Au (Ah K (A3 C_forms_down_to hr.m (Aa (qv 0) (Aa (qv 1) Ab))) (K2 Jz Ac))),?_⟩
  have hpl:=Lq hs
  walk_at "r"
  refine ⟨v,t,p,pl,rfl,ht,hp,hs,hl,fun q1 ws H1 hq1 s1 e1 al=>?_⟩
  obtain ⟨u,hu,hat⟩:=al.get' hx
  have hwl:ws.length - 1=pl.length:=by rw [al.1,hpl]; omega
  walk_at "r"
  refine Bd (SqL.of e1) (Ze9 (by rw [hwl]; exact hu)) ?_
  exact q u H1 s1 hat
noncomputable def Zcj (K:Pd):Sp:=fun vs H Q _=>∃ (v:V) (d:Dt) (ts:List Tr),vs=[v]/\TrAt K H v (.mk "gap" d ts)/\Q .non H
theorem Zkj:A2 ["form"] ["form"] (Az Kl):=by walk_at "sc"
theorem Zlz {f:Addr} {fd:FuncData} (F:Fun K "refuse_no_gap" "refuse_no_gap" Kl f fd) (T:Txt K mg):FnOk P w K mg base Ar 1 f fd ["form"] (Zcj K):=by
 refine F.okq Zkj (fun vs H Q E h=>?_) (fun cdv A outer s H vs Q E hr h=>?_)
 ·obtain ⟨v,d,ts,rfl,_⟩:=h
  rfl
 ·obtain ⟨v,d,ts,rfl,ht,q⟩:=h
  refine ⟨_,Ag (A0 (Ax (Ei K hr.u200) (Ah K (qv 0) Ac) As (Aw _)) (Ag Ng) A6),?_⟩
  cases ht with
  | @mk b pp _ nv _ us _ qb hn qp l hch =>
  walk_at "r"
  refine Ak qb rfl ?_
  walk_at "r"
  rw [decide_eq_true (Eq.refl _)]
  walk_at "r"
  exact q
open K19 in
inductive Fh (sub:List Nat->Option (Str×Dt)) (fl:List Nat):List Rx->List (Str×V)->MS->Option (List (Str×V)×MS)->Prop where
 | nil {bc:List (Str×V)} {S:MS}:Fh sub fl [] bc S (some (bc,S))
 | cons {r:Rx} {rs:List Rx} {bc:List (Str×V)} {S S1:MS} {x:Str×V} {o:Option (List (Str×V)×MS)} (hs:S.rows.length < 9000) (ht:S.things.length < 8000) (ok:Kx bc.length r) (h1:RowG sub fl bc r S S1 x) (h2:Fh sub fl rs (bc++[x]) S1 o):Fh sub fl (r :: rs) bc S o
 | late {r:Rx} {rs:List Rx} {bc:List (Str×V)} {S:MS} (hs:S.rows.length < 9000) (ht:S.things.length < 8000) (ok:Kx bc.length r) (h1:RowO sub fl bc r S none):Fh sub fl (r :: rs) bc S none
theorem RunM.wait {sub:List Nat->Option (Str×Dt)} {n:Nat} {S S':MS} (h:RunM sub n S S'):S'.wait=[]:=by
 induction h with
 | nil h=>exact h
 | cons _ _ _ ih=>exact ih
theorem RowG.wait {sub:List Nat->Option (Str×Dt)} {fl:List Nat} {bc:List (Str×V)} {r:Rx} {S S':MS} {x:Str×V} (h:RowG sub fl bc r S S' x) (hw:S.wait=[]):S'.wait=[]:=by
 cases h with
 | fill _ R _=>exact R.wait
 | parts _ _ _ R _=>exact R.wait
 | new _ _ _=>exact hw
theorem Gb (H:Hp) (b:Addr) (o o':HO):upd (upd H b o) b o'=upd H b o':=by
 funext c
 by_cases e:c=b
 ·rw [e,Ad,Ad]
 ·rw [Af e,Af e,Af e]
theorem _root_.L2.MAt.re {K:Pd} {HB H:Hp} {C:Addr} {kvs:List (List Ao×V)} {L:Ml} {S:MS} (M:MAt K HB C kvs L H S) {b:Addr} {xs:List V} (hb:H b=none\/∃ ys,HB b=some (.lst ys)) (hw:S.wait=[]):MAt K (upd HB b (.lst xs)) C kvs L (upd H b (.lst xs)) S:=by
 obtain ⟨rv,er,ar,sp⟩:=M.rows
 obtain ⟨wv,ew,aw⟩:=M.wait
 obtain ⟨tv,et,att⟩:=M.things
 have ewv:wv=[]:=Qm (by rw [aw.1,hw]; rfl)
 subst ewv
 have n1:L.m≠b:=by
  rintro rfl
  rcases hb with h | ⟨ys,h⟩
  ·rw [M.ins] at h; cases h
  ·rw [M.nm] at h; cases h
 have n2:L.rd≠b:=by
  rintro rfl
  rcases hb with h | ⟨ys,h⟩
  ·rw [er] at h; cases h
  ·rw [M.nr] at h; cases h
 have n3:L.wd≠b:=by
  rintro rfl
  rcases hb with h | ⟨ys,h⟩
  ·rw [ew] at h; cases h
  ·rw [M.nw] at h; cases h
 have n4:L.td≠b:=by
  rintro rfl
  rcases hb with h | ⟨ys,h⟩
  ·rw [et] at h; cases h
  ·rw [M.nt] at h; cases h
 have n5:L.fd≠b:=by
  rintro rfl
  rcases hb with h | ⟨ys,h⟩
  ·rw [M.frm] at h; cases h
  ·have:=M.frm; rw [M.base _ _ h] at this; cases this
 have sA:SameA (fun c=>L.A c\/upd HB b (.lst xs) c≠none) H (upd H b (.lst xs)):=by
  rcases hb with h | ⟨ys,h⟩
  ·exact (Same.upd h).a
  ·exact SameA.set (M.base _ _ h) (.inr (by rw [Ad]; simp))
 have mo:∀ c,(L.A c\/upd HB b (.lst xs) c≠none)->H c≠none->(L.A c\/HB c≠none):=by
  intro c hc hn
  rcases hc with z | z
  ·exact .inl z
  ·refine .inr ?_
   by_cases e:c=b
   ·rcases hb with h | ⟨ys,h⟩
    ·rw [e,h] at hn; exact absurd rfl hn
    ·rw [e,h]; simp
   ·rw [Af e] at z; exact z
 refine ⟨fun c o h=>?_,(Af n1).trans M.nm,(Af n2).trans M.nr,(Af n3).trans M.nw,(Af n4).trans M.nt,(Af n1).trans M.ins,(Af n5).trans M.frm,M.rw,M.rt,M.wt,⟨rv,(Af n2).trans er,(ar.mono (RwX.mono mo)).mono (RwX.same sA),(sp.mono mo).same sA⟩,⟨[],(Af n3).trans ew,by rw [hw]; exact .nil⟩,⟨tv,(Af n4).trans et,att.mono (ThAt.same sA.1)⟩⟩
 by_cases e:c=b
 ·rw [e] at h ⊢
  rw [Ad] at h ⊢
  exact h
 ·rw [Af e] at h ⊢
  exact M.base _ _ h
open K19 in
noncomputable def Js (K:Pd) (TL:Addr):Sp:=fun vs H Q E=>∃ (tv fv av:V) (t tf:Tr) (p q0 rd:Addr) (fl:List Nat) (d:Dt) (gs:List Tr) (n:Int) (rv:List V) (rs:List Rx) (xa:Str×V) (oo:Option (List (Str×V)×MS)),vs=[tv,.ref q0,.ref p,fv]/\TrAt K H tv t/\t.size<=1000/\SqT K H p (A1 fl)/\Sub t fl/\fl.length<=1000/\(B2 t fl)[fl.length]?=some (.mk "gap" d gs)/\TrAt K H fv tf/\(withAt t fl tf).size<=2000/\SqT K H q0 [av,.ref rd,.int n]/\n<=500/\H rd=some (.lst rv)/\Al (RwX K (fun b=>b=rd) H) rv rs/\rs.length<=9000/\ThAt K H av xa/\Fh (Eb (withAt t fl tf)) fl rs [] ⟨[],[],[],n⟩ oo /\
 (∀ bc S',oo=some (bc,S')->Kf bc.length xa/\∀ (r' rd':Addr) (av':V) (rv':List V) (H':Hp),Same H H'->SqT K H' r' [av',.ref rd',.int S'.steps]->ThAt K H' av' (A4 bc xa)->H' rd'=some (.lst rv')->Al (RwX K (fun b=>b=rd'\/H b≠none) H') rv' S'.rows->SepR K (fun b=>b=rd'\/H b≠none) H' rv' S'.rows->H rd'=none->Q (.ref r') H')/\(oo=none->∀ H',Same H H'->E (.ref TL) none H')
theorem sc_go_on:A2 ["tree", "record", "place", "form", "answer", "rows", "steps", "machine", "became", "row"] ["tree", "record", "place", "form"] (Az Jk):=by walk_at "sc"
open K19 in
theorem Zq7 {C TL:Addr} {f:Addr} {fd:FuncData} (F:Fun K "go_on" "go_on" Jk f fd) (T:Txt K mg) (O:Mc K C) (C_refuse_no_gap:Bb P w K mg base 1 "refuse_no_gap" ["form"] (Zcj K)) (C_form_at:Bb P w K mg base 4 "form_at" ["tree", "place"] (Zen K)) (C_with_at:Bb P w K mg base 4 "with_at" ["tree", "place", "form"] (Zep K)) (C_thing_now:Bb P w K mg base 1 "thing_now" ["thing", "became"] (Jq K)) (C_thing_of_row:Hd P w K mg base 7 "thing_of_row" ["machine", "row", "filled", "became"] (Zdf K C TL)) (MK_Machine:Og Ar P w K mg base 2 "Machine" C ["self", "tree", "steps"] (Zbg K C)):FnOk P w K mg base (Bk P w) 8 f fd ["tree", "record", "place", "form"] (Js K TL):=by
 refine F.okx sc_go_on (fun vs H Q E h=>?_) (fun cdv A outer s H vs Q E hr h=>?_)
 ·obtain ⟨tv,fv,av,t,tf,p,q0,rd,fl,d,gs,n,rv,rs,xa,oo,rfl,_⟩:=h
  rfl
 ·obtain ⟨tv,fv,av,t,tf,p,q0,rd,fl,d,gs,n,rv,rs,xa,oo,rfl,ht,hz,hp,hs,hl,hg,hf,hz2,hq,hn,hrd,alr,hrl,hav,G,q,qL⟩:=h
  refine ⟨_,Ae (Be (A3 C_refuse_no_gap hr.m (Aa (A3 C_form_at hr.m (Aa (qv 0) (Aa (qv 2) Ab))) Ab)))
   (Ae (Fe (qv 1) (Dc K (n:=3) rfl (Bm (A9 (i:=4) sc_go_on.nd rfl (Or.inl rfl)) (Bm (A9 (i:=5) sc_go_on.nd rfl (Or.inl rfl)) (Bm (A9 (i:=6) sc_go_on.nd rfl (Or.inl rfl)) (Di))))))
   (Ae (Ay 7 sc_go_on (Znf MK_Machine hr.m C5 (Aa (A3 C_with_at hr.m (Aa (qv 0) (Aa (qv 2) (Aa (qv 3) Ab)))) (Aa (qv 6) Ab))))
   (Ae (Ay 8 sc_go_on (Bc Ab))
   (Ae (Dz PassesOwn.leaving rfl (Eo K (qv 5)) (A9 (i:=9) sc_go_on.nd rfl (Or.inl rfl)) (Ag (Be (Bw K Pt P4 P5 Bz (qv 8) (Aa (Zlf C_thing_of_row hr.m (Gy (fun _ _ _ h=>h)) (Aa (qv 7) (Aa (qv 9) (Aa (qv 2) (Aa (qv 8) Ab))))) Ab)))))
   (Ag (Au (An (Aa (A3 C_thing_now hr.m (Aa (qv 4) (Aa (qv 8) Ab))) (Aa (Bs K (qv 7)) (Aa (Bs K (qv 7)) Ab)))))))))),?_⟩
  have bg:=big
  walk_at "r"
  refine ⟨tv,t,p,fl,_,rfl,ht,hp,hs,hl,hg,fun u H1 s1 tu=>?_⟩
  walk_at "r"
  refine ⟨u,d,gs,rfl,tu,?_⟩
  walk_at "r"
  refine Db (s1.tup hq) rfl ?_
  walk_at "r"
  unfold tNew
  walk_at "r"
  refine ⟨tv,fv,t,tf,p,fl,rfl,ht.same s1,s1.tup hp,hs,hl,hz,hf.same s1,fun v' H2 s2 hv'=>?_⟩
  have s02:=s1.trans s2
  walk_at "r"
  intro m dx h1 h2 h3
  refine ⟨m,dx,H2,v',_,n,rfl,hn,h1,h2,h3,rfl,hv',hz2,fun H3 L kvs hm M FA=>⟨rfl,?_⟩⟩
  subst hm
  walk_at "r"
  refine ⟨Bf,fun b hb=>?_⟩
  have M0:=M.re (xs:=[]) (.inl hb) rfl
  have nb2:H2 b=none:=by
   cases h:H2 b with
   | none=>rfl
   | some o=>rw [M.base _ _ h] at hb; cases hb
  have sB:Same H2 (upd H2 b (.lst [])):=Same.upd nb2
  have FA0:=FA.same (Same.upd (o:=.lst []) hb).t
  have nrb:rd≠b:=fun z=>by rw [<- z,s02 _ _ hrd] at nb2; cases nb2
  have hpB:=s02.tup hp
  have alr2:=alr.mono (RwX.same s02.a)
  have alr2:Al (RwX K (fun _=>False) H2) rv rs:=alr2.mono (RwX.mono fun b hb _=>hb.elim)
  have hall:∀ xs,Al (RwX K (fun _=>False) (upd H2 b (.lst xs))) rv rs:=fun xs=>alr2.mono (RwX.same (Same.upd nb2).a)
  walk_at "r"
  refine .inl ⟨rd,rfl,⟨_,SqL.of (((M.base.trans (Same.upd hb))) _ _ (s02 _ _ hrd))⟩,?_⟩
  refine O2 (K:=K) (a:=rd) (xs:=rv) (fun i σ' H'=>∃ v9 bv bci Si t',σ'=[some tv,some (.ref q0),some (.ref p),some fv,some av,some (.ref rd),some (.int n),some (.ref L.m),some (.ref b),v9]/\MAt K (upd H2 b (.lst bv)) C kvs (L.with t') H' Si/\Al (ThAt K H') bv bci/\FormsAt K H' kvs (Eb (withAt t fl tf))/\Si.wait=[]/\bci.length=i/\Fh (Eb (withAt t fl tf)) fl (rs.drop i) bci Si oo) ⟨none,[],[],_,L.td,rfl,M0,.nil,FA0,rfl,rfl,G⟩ ?_ ?_ ?_
  ·rintro i σ' H' _ ⟨_,bv,_,_,_,_,M',_⟩
   exact SqL.of (M'.base _ _ ((Af nrb).trans (s02 _ _ hrd)))
  ·rintro i y σ' H4 hy ⟨v9,bv,bci,Si,t',rfl,Mi,albi,FAi,hwi,hli,Gi⟩
   obtain ⟨r,hr1,hr2⟩:=(hall bv).get hy
   have hri:=(Pq.mp hr1).1
   have dr:rs.drop i=r :: rs.drop (i + 1):=by
    rw [Ry hri]
    congr 1
    rw [Pg hri] at hr1
    exact Qi hr1
   rw [dr] at Gi
   have hbl:=albi.1
   have ex:∃ o,RowO (Eb (withAt t fl tf)) fl bci r Si o/\Si.rows.length < 9000/\Si.things.length < 8000/\Kx bci.length r/\(o=none->oo=none)/\∀ S1 x,o=some (S1,x)->S1.wait=[]/\Fh (Eb (withAt t fl tf)) fl (rs.drop (i + 1)) (bci++[x]) S1 oo:=by
    cases Gi with
    | @cons _ _ _ _ S1 x _ hs9 ht8 ok G1 G2 =>
     refine ⟨_,.ok G1,hs9,ht8,ok,⟨fun z=>?_,fun S2 x2 e=>?_⟩⟩
     ·cases z
     ·cases e; exact ⟨G1.wait hwi,G2⟩
    | late hs9 ht8 ok R1 =>
     refine ⟨_,R1,hs9,ht8,ok,⟨fun _=>rfl,fun S2 x2 e=>?_⟩⟩
     cases e
   obtain ⟨o,G1,hs9,ht8,ok,oN,oS⟩:=ex
   walk_at "r"
   refine Bj (SqL.of (Mi.base _ _ Ad)) ?_
   walk_at "r"
   refine ⟨y,p,b,r,fl,bv,bci,_,kvs,L.with t',Si,_,o,rfl,Mi,hr2,(Same.upd nb2).tup hpB,Ad,albi,ok,FAi,hs9,by rw [hwi]; decide,ht8,G1,fun S1 x eo v H5 t5 e5 M5 tv5=>?_,fun eo H' e'=>qL (oN eo) H' (s02.trans ((Same.upd nb2).trans e'))⟩
   obtain ⟨hw1,G2⟩:=oS _ _ eo
   walk_at "r"
   refine Bt (M5.base _ _ Ad) (by omega) ?_
   have M6:=M5.re (b:=b) (xs:=bv++[v]) (.inr ⟨bv,Ad⟩) hw1
   rw [Gb] at M6
   have t56:SameT H5 (upd H5 b (.lst (bv++[v]))):=SameT.set (M5.base _ _ Ad)
   have t46:=(Mi.t e5).trans t56
   refine ⟨_,bv++[v],bci++[x],S1,t5,rfl,M6,(albi.mono (ThAt.same t46)).snoc (ThAt.same t56 _ _ tv5),FAi.same t46,hw1,by rw [Pi,hli]; rfl,G2⟩
  ·rintro σ' H4 ⟨v9,bv,bci,Si,t',rfl,Mi,albi,FAi,hwi,hli,Gi⟩
   rw [Rg (by rw [alr.1]; exact Ph _)] at Gi
   cases Gi
   obtain ⟨nok,q⟩:=q _ _ rfl
   have s24:Same H2 H4:=(Same.upd nb2).trans Mi.base
   have s04:=s02.trans s24
   walk_at "r"
   refine ⟨av,b,bv,xa,_,rfl,ThAt.same s04.t _ _ hav,SqL.of (Mi.base _ _ Ad),albi,nok,fun v5 tv5=>?_⟩
   obtain ⟨rv5,er5,ar5,spr5⟩:=Mi.rows
   walk_at "r"
   refine ⟨_,rfl,L.m,C,L.dx,_,_,rfl,Mi.ins,O.cl,O.nr,Jf (L.with t') _,?_⟩
   walk_at "r"
   refine ⟨_,rfl,L.m,C,L.dx,_,_,rfl,Mi.ins,O.cl,O.ns,Iu (L.with t') _,?_⟩
   walk_at "r"
   refine ⟨Bv,fun r' hr'=>?_⟩
   have s5:Same H4 (upd H4 r' (.tup [v5,.ref L.rd,.int Si.steps])):=Same.upd hr'
   have mo:∀ c,(c=L.rd\/H c≠none)->H4 c≠none->((L.with t').A c\/upd H2 b (.lst bv) c≠none):=by
    intro c hc _
    rcases hc with z | z
    ·exact .inl (.inl z)
    ·refine .inr ?_
     cases h:H c with
     | none=>exact absurd h z
     | some o=>rw [(s02.trans (Same.upd nb2)) _ _ h]; simp
   refine q r' L.rd v5 rv5 _ (s04.trans s5) (SqT.of Ad) (ThAt.same s5.t _ _ tv5) (s5 _ _ er5) ((ar5.mono (RwX.mono mo)).mono (RwX.same s5.a)) ((spr5.mono mo).same s5.a) ?_
   cases h:H L.rd with
   | none=>rfl
   | some o=>have:=(s02.trans (Same.upd (o:=.lst bv) nb2)) _ _ h; rw [show upd H2 b (.lst bv) L.rd=none from Mi.nr] at this; cases this
end
end K52
namespace K52
open PySem L2
noncomputable def LeafOk (wd:Str) (nv:V):Prop:=(wd = "num" /\ ∃ i,nv=.int i)\/(wd = "truth" /\ ∃ b,nv=.bl b)\/(wd = "name" /\ ∃ z,nv=.str z)\/(wd = "odd" /\ ∃ z,nv=.str z)\/(wd = "gap" /\ nv=.non)
theorem LeafOk.flat {wd:Str} {nv:V} (h:LeafOk wd nv):Cb nv=true:=by
 rcases h with ⟨_,_,rfl⟩ | ⟨_,_,rfl⟩ | ⟨_,_,rfl⟩ | ⟨_,_,rfl⟩ | ⟨_,rfl⟩ <;> rfl
noncomputable def Ep (wd:Str) (nv:V) (ar:List (Str×Str×V)):Option (Str×V):=match nv with
 | .str z=>if wd = "name" then C4 ar z else none
 | _=>none
noncomputable def B1 (wd:Str) (nv:V) (k:Nat) (pl:List Nat) (ar:List (Str×Str×V)):(Str×V)×List Rx:=if wd∈(["num", "truth"]:List Str) then ((wd,nv),[]) else match Ep wd nv ar with
 | some th=>(th,[])
 | none=>(("row",.int (k:Nat)),[⟨wd,Ap pl,[],if wd = "gap" then ar else []⟩])
theorem Zd1 (S:MS) (wd:Str) (nv:V) (pl:List Nat) (ar:List (Str×Str×V)):Cj S wd nv pl ar=if wd∈(["num", "truth"]:List Str) then ((wd,nv),S) else match Ep wd nv ar with
  | some th=>(th,S)
  | none=>(("row",.int (S.rows.length:Nat)),{ S with rows:=S.rows++[⟨wd,Ap pl,[],if wd∈WA then ar else []⟩] }):=by
 unfold Cj
 cases nv <;> rfl
theorem LeafOk.word {wd:Str} {nv:V} (h:LeafOk wd nv):Bg wd=none/\Ib wd (.flat nv)/\(wd∈WA↔wd = "gap"):=by
 rcases h with ⟨rfl,_,rfl⟩ | ⟨rfl,_,rfl⟩ | ⟨rfl,_,rfl⟩ | ⟨rfl,_,rfl⟩ | ⟨rfl,rfl⟩
 ·exact ⟨by decide +kernel,⟨fun _=>⟨_,rfl⟩,fun h=>absurd h (by decide +kernel)⟩,by decide +kernel⟩
 ·exact ⟨by decide +kernel,⟨fun _=>⟨_,rfl⟩,fun h=>absurd h (by decide +kernel)⟩,by decide +kernel⟩
 ·exact ⟨by decide +kernel,⟨fun _=>⟨_,rfl⟩,fun _=>⟨_,rfl⟩⟩,by decide +kernel⟩
 ·exact ⟨by decide +kernel,⟨fun _=>⟨_,rfl⟩,fun _=>⟨_,rfl⟩⟩,by decide +kernel⟩
 ·exact ⟨by decide +kernel,⟨fun _=>⟨_,rfl⟩,fun h=>absurd h (by decide +kernel)⟩,by decide +kernel⟩
theorem Zea (S:MS) {wd:Str} {nv:V} (h:LeafOk wd nv) (pl:List Nat) (ar:List (Str×Str×V)):Cj S wd nv pl ar=((B1 wd nv S.rows.length pl ar).1,{ S with rows:=S.rows++(B1 wd nv S.rows.length pl ar).2 }):=by
 have hw:=h.word.2.2
 rw [Zd1]
 unfold B1
 by_cases h:wd∈(["num", "truth"]:List Str)
 ·rw [if_pos h,if_pos h]
  simp
 ·rw [if_neg h,if_neg h]
  cases Ep wd nv ar with
  | some th=>simp
  | none =>
   by_cases hg:wd = "gap"
   ·simp only [if_pos hg,if_pos (hw.mpr hg)]
   ·simp only [if_neg hg,if_neg fun x=>hg (hw.mp x)]
end K52
namespace K52
open PySem L2
mutual
theorem N9:∀ (pl:List Nat) (t:Tr) (x:List Nat×Tr),x∈walk pl t->∃ q,x.1=pl++q
 | pl,.mk w n ps,x,h=>by
  rw [walk] at h
  rcases Pm.mp h with rfl | h
  ·exact ⟨[],by simp⟩
  ·exact Zcq pl 0 ps x h
theorem Zcq:∀ (pl:List Nat) (i:Nat) (ts:List Tr) (x:List Nat×Tr),x∈Cc pl i ts->∃ q,x.1=pl++q
 | _,_,[],x,h=>by rw [Cc] at h; exact nomatch h
 | pl,i,t :: r,x,h=>by
  rw [Cc] at h
  rcases Rl.mp h with h | h
  ·obtain ⟨q,e⟩:=N9 (pl++[i]) t x h
   exact ⟨[i]++q,by rw [e,Rs]⟩
  ·exact Zcq pl (i + 1) r x h
end
theorem Ze4 (x:List Nat×Tr) (l:List (List Nat×Tr)) (pl:List Nat):B8 (x :: l) pl=(B8 l pl).or (if x.1=pl then some x.2 else none):=by
 unfold B8
 rw [V7,List.find?_append]
 cases h:l.reverse.find? fun x=>decide (x.1=pl) with
 | some y=>simp
 | none =>
  by_cases e:x.1=pl
  ·simp [e]
  ·simp [e]
theorem Zdx {ws:List (List Nat×Tr)} {pl:List Nat} (h:∀ x∈ws,x.1≠pl):B8 ws pl=none:=by
 unfold B8
 rw [List.find?_eq_none.mpr]
 ·rfl
 ·intro x hx
  rw [decide_eq_true_iff]
  exact h x (U1.mp hx)
noncomputable def Cn (wd:Str):Int:=if wd = "gap" then 0 else 1
theorem Nl (wd:Str):0<=Cn wd/\Cn wd<=1:=by unfold Cn; split <;> decide
theorem Zg6 (wd:Str) (nv:V) (k:Nat) (pl:List Nat) (ar:List (Str×Str×V)):(B1 wd nv k pl ar).2.length<=1:=by
 unfold B1
 split
 ·exact Pn _
 ·split
  ·exact Pn _
  ·exact Ph _
theorem Zhp {S:MS} {wd:Str} {nv:V} (h:LeafOk wd nv) (pl:List Nat) (ar:List (Str×Str×V)):Es S wd (.flat nv) pl ar=⟨S.rows++(B1 wd nv S.rows.length pl ar).2,S.wait,S.things++[(B1 wd nv S.rows.length pl ar).1],S.steps + Cn wd⟩:=by
 unfold Es
 rw [h.word.1]
 by_cases g:wd = "gap"
 ·simp only [if_pos g,Zea _ h,Eu,Cn,Vk]
 ·simp only [if_neg g,Zea _ h,Eu,Cn]
noncomputable def Ck (wd:Str) (pl:List Nat) (k:Nat) (x y:Str×V):(Str×V)×List Rx:=if wd∈B7/\x.1 = "num" /\ y.1 = "num" then (Ff wd (G9 x.2) (G9 y.2),[]) else (("row",.int (k:Nat)),[⟨wd,Ap pl,[x,y],[]⟩])
noncomputable def E9:Tr->List Nat->Option Tr
 | t,[]=>some t
 | .mk _ _ ts,i :: r=>match ts[i]? with
  | some t=>E9 t r
  | none=>none
termination_by _ pl=>pl.length
theorem Md (t:Tr):E9 t []=some t:=by rw [E9]
theorem My (w:Str) (n:Dt) (ts:List Tr) (i:Nat) (r:List Nat):E9 (.mk w n ts) (i :: r)=(ts[i]?).bind fun t=>E9 t r:=by
 rw [E9]
 cases ts[i]? <;> rfl
theorem Zro (a b:List (List Nat×Tr)) (pl:List Nat):B8 (a++b) pl=(B8 b pl).or (B8 a pl):=by
 unfold B8
 rw [Sc,List.find?_append]
 cases b.reverse.find? fun x=>decide (x.1=pl) <;> simp
theorem Zee:∀ (pl:List Nat) (i:Nat) (ts:List Tr) (x:List Nat×Tr),x∈Cc pl i ts->∃ k q,i<=k/\x.1=pl++k :: q
 | _,_,[],x,h=>by rw [Cc] at h; exact nomatch h
 | pl,i,t :: r,x,h=>by
  rw [Cc] at h
  rcases Rl.mp h with h | h
  ·obtain ⟨q,e⟩:=N9 (pl++[i]) t x h
   exact ⟨i,q,Ph _,by rw [e,Rs]; rfl⟩
  ·obtain ⟨k,q,hk,e⟩:=Zee pl (i + 1) r x h
   exact ⟨k,q,by omega,e⟩
mutual
theorem Zdv:∀ (p:List Nat) (t:Tr) (q:List Nat),B8 (walk p t) (p++q)=E9 t q
 | p,.mk w n ps,[]=>by
  rw [walk,Ze4,Zdx,Md,if_pos (by simp)]
  ·rfl
  ·intro x hx
   obtain ⟨k,q,_,e⟩:=Zee p 0 ps x hx
   rw [e]
   intro z
   have:=congrArg Sz z
   simp at this
 | p,.mk w n ps,k :: r=>by
  rw [walk,Ze4,Zdi p 0 ps k r,if_pos (Pn _),My,if_neg (fun z=>by have:=congrArg Sz z; simp at this),Option.or_none,T6]
theorem Zdi:∀ (p:List Nat) (i:Nat) (ts:List Tr) (k:Nat) (r:List Nat),B8 (Cc p i ts) (p++k :: r)=if i<=k then (ts[k - i]?).bind (fun t=>E9 t r) else none
 | p,i,[],k,r=>by
  rw [Cc]
  split <;> simp [B8]
 | p,i,t :: ts,k,r=>by
  rw [Cc,Zro,Zdi p (i + 1) ts k r]
  by_cases hk:k=i
  ·subst hk
   rw [if_neg (by omega),if_pos (Ph _),R7,Option.none_or]
   have:=Zdv (p++[k]) t r
   rw [Rs] at this
   rw [show p++k :: r=p++([k]++r) from rfl,this]
   rfl
  ·have e:B8 (walk (p++[i]) t) (p++k :: r)=none:=Zdx fun x hx z=>by
    obtain ⟨q,e⟩:=N9 _ _ _ hx
    rw [e,Rs] at z
    have:=List.append_cancel_left z
    simp at this
    exact hk this.1.symm
   rw [e,Option.or_none]
   by_cases hlt:i<=k
   ·rw [if_pos (by omega),if_pos hlt,show k - i=(k - (i + 1)) + 1 by omega]
    rfl
   ·rw [if_neg (by omega),if_neg hlt]
end
theorem Zcc (t:Tr) (pl:List Nat):Eb t pl=(E9 t pl).map fun u=>(u.wd,Ek u):=by
 unfold Eb
 rw [<- Zdv [] t pl]
 rfl
inductive StepU (sub:List Nat->Option (Str×Dt)):MS->MS->Prop where
 | come {S:MS} {w:List Wt} {x:Wt} {wd:Str} {d:Dt} (hw:S.wait=w++[x]) (hc:x.came=false) (hs:sub x.pl=some (wd,d)) (hn:Ib wd d):StepU sub S (Es { S with wait:=w } wd d x.pl x.ar)
 | further {S S2:MS} {w:List Wt} {x:Wt} {wd:Str} {d:Dt} (hw:S.wait=w++[x]) (hc:x.came=true) (hs:sub x.pl=some (wd,d)) (hf:E3 sub wd d x.pl x.ar { S with wait:=w } S2) (hr:x.ar.length<=9000):StepU sub S S2
inductive ChU (sub:List Nat->Option (Str×Dt)):MS->MS->Prop where
 | nil {S:MS}:ChU sub S S
 | cons {S S1 S2:MS} (hs:Fj S) (h1:StepU sub S S1) (h2:ChU sub S1 S2):ChU sub S S2
theorem ChU.trans {sub:List Nat->Option (Str×Dt)} {S S1 S2:MS} (h:ChU sub S S1) (h':ChU sub S1 S2):ChU sub S S2:=by
 induction h with
 | nil=>exact h'
 | cons a b _ ih=>exact .cons a b (ih h')
theorem Zb7 (S:MS) (wd:Str) (nv:V) (pl:List Nat) (ar:List (Str×Str×V)):(Cj S wd nv pl ar).2.steps=S.steps:=by
 unfold Cj
 split
 ·rfl
 split <;> rfl
theorem Zay (S:MS) (wd:Str) (d:Dt) (pl:List Nat) (ar:List (Str×Str×V)):(Es S wd d pl ar).steps=S.steps + Cn wd:=by
 unfold Es Cn
 by_cases g:wd = "gap"
 ·simp only [if_pos g]
  cases Bg wd with
  | some ns=>simp
  | none=>simp [Zb7]
 ·simp only [if_neg g]
  cases Bg wd with
  | some ns=>rfl
  | none=>exact Zb7 _ _ _ _ _
theorem Zeg {sub:List Nat->Option (Str×Dt)} {wd:Str} {d:Dt} {pl:List Nat} {ar:List (Str×Str×V)} {S S2:MS} (h:E3 sub wd d pl ar S S2):S2.steps=S.steps:=by
 cases h with
 | two=>unfold Ew; split <;> rfl
 | calls=>rfl
 | ifs=>rfl
 | lets=>rfl
 | ifr=>rfl
theorem StepU.le {sub:List Nat->Option (Str×Dt)} {S S1:MS} (h:StepU sub S S1):S.steps<=S1.steps:=by
 cases h with
 | come hw hc hs hn=>rw [Zay]; have:=Nl (by assumption:Str); have:=(Nl ‹Str›).1; show S.steps<=S.steps + _; omega
 | further hw hc hs hf hr=>rw [Zeg hf]; exact R8 _
theorem ChU.le {sub:List Nat->Option (Str×Dt)} {S S1:MS} (h:ChU sub S S1):S.steps<=S1.steps:=by
 induction h with
 | nil=>exact R8 _
 | cons _ b _ ih=>exact Int.le_trans b.le ih
theorem ChU.fine {sub:List Nat->Option (Str×Dt)} {S S1:MS} (h:ChU sub S S1) (hw:S1.wait=[]) (h5:S1.steps<=500):∃ n,RunM sub n S S1:=by
 induction h with
 | nil=>exact ⟨0,.nil hw⟩
 | @cons S S1 S2 a b c ih =>
  obtain ⟨n,R⟩:=ih hw h5
  refine ⟨n + 1,.cons a ?_ R⟩
  cases b with
  | further hw hc hs hf hr=>exact .further hw hc hs hf hr
  | @come w x wd d hw hc hs hn =>
   refine .come hw hc hs hn fun hg=>?_
   have h1:=c.le
   rw [Zay] at h1
   have:Cn wd=1:=if_neg hg
   have h1:S.steps + Cn wd<=S2.steps:=h1
   omega
theorem ChU.late {sub:List Nat->Option (Str×Dt)} {S S1:MS} (h:ChU sub S S1) (h0:S.steps<=500) (h5:500 < S1.steps):∃ n,RunL sub n S:=by
 induction h with
 | nil=>omega
 | @cons S S1 S2 a b c ih =>
  cases b with
  | further hw hc hs hf hr =>
   obtain ⟨n,R⟩:=ih (by rw [Zeg hf]; exact h0) h5
   exact ⟨n + 1,.cons a (.further hw hc hs hf hr) R⟩
  | @come w x wd d hw hc hs hn =>
   by_cases hg:wd ≠ "gap" /\ 500 < S.steps + 1
   ·exact ⟨0,.last a hw hc hs hg.1 hg.2⟩
   ·have h6:wd ≠ "gap" -> S.steps + 1<=500:=fun z=>by
     rcases Int.lt_or_le 500 (S.steps + 1) with h | h
     ·exact absurd ⟨z,h⟩ hg
     ·exact h
    obtain ⟨n,R⟩:=ih (by
     rw [Zay]
     show S.steps + Cn wd<=500
     unfold Cn
     by_cases z:wd = "gap"
     ·rw [if_pos z]; omega
     ·rw [if_neg z]; exact h6 z) h5
    exact ⟨n + 1,.cons a (.come hw hc hs hn h6) R⟩
end K52
namespace K52
open PySem L2
noncomputable abbrev tr (b:Bool):Str×V:=("truth",.bl b)
noncomputable abbrev C1 (k:Nat):Str×V:=("row",.int (k:Nat))
noncomputable abbrev fm (w:Str) (d:Dt):Option (Str×Dt):=some (w,d)
section
variable {sub:List Nat->Option (Str×Dt)} {rs:List Rx} {w:List Wt} {th:List (Str×V)} {st:Int} {pl:List Nat} {ar:List (Str×Str×V)} {wd:Str} {nv:V} {d:Dt}
theorem one (hz:Fj S) (h:StepU sub S S'):ChU sub S S':=.cons hz h .nil
theorem sm (h:rs.length + (w.length + th.length)<=8900) {x:Wt}:Fj ⟨rs,w++[x],th,st⟩:=⟨by show rs.length < 9000; omega,by show (w++[x]).length < 9000; rw [Pi,Pr]; omega,by show th.length < 9000; omega⟩
theorem K8 (hs:sub pl=some (wd,.flat nv)) (ok:LeafOk wd nv) (hz:rs.length + (w.length + th.length)<=8900):ChU sub ⟨rs,w++[⟨pl,ar,false⟩],th,st⟩ ⟨rs++(B1 wd nv rs.length pl ar).2,w,th++[(B1 wd nv rs.length pl ar).1],st + Cn wd⟩:=by
 refine one (sm hz) ?_
 have:=StepU.come (sub:=sub) (S:=⟨rs,w++[⟨pl,ar,false⟩],th,st⟩) (w:=w) (x:=⟨pl,ar,false⟩) rfl rfl hs ok.word.2.1
 rw [Zhp ok] at this
 exact this
theorem Zp7 (h1:¬ wd∈(["num", "truth"]:List Str)) (h2:¬ wd = "name"):Ib wd d:=⟨fun h=>absurd h h1,fun h=>absurd h h2⟩
theorem sm2 (h:rs.length + (w.length + th.length)<=8900) {x:Wt} {a b:Str×V}:Fj ⟨rs,w++[x],th++[a]++[b],st⟩:=⟨by show rs.length < 9000; omega,by show (w++[x]).length < 9000; rw [Pi,Pr]; omega,by show (th++[a]++[b]).length < 9000; simp only [Pi,Pr]; omega⟩
theorem u_if {b:Bool} (hs:sub pl=fm "if" (.flat .non)) (ha:ar.length<=9000) (hz:rs.length + (w.length + th.length)<=8900):ChU sub ⟨rs,w++[⟨pl,ar,true⟩],th++[tr b],st⟩ ⟨rs,w++[⟨pl++[if b then 1 else 2],ar,false⟩],th,st⟩:=by
 refine one ⟨by show rs.length < 9000; omega,by show (w++[_]).length < 9000; rw [Pi,Pr]; omega,by show (th++[_]).length < 9000; simp only [Pi,Pr]; omega⟩ ?_
 have:=StepU.further (sub:=sub) (S:=⟨rs,w++[⟨pl,ar,true⟩],th++[tr b],st⟩) (w:=w) (x:=⟨pl,ar,true⟩) rfl rfl hs (.ifs (th:=th) (b:=b) rfl rfl ⟨fun h=>absurd h (by decide +kernel),fun h=>absurd h (by decide +kernel)⟩) ha
 have e:E5 { ({ (⟨rs,w++[⟨pl,ar,true⟩],th++[tr b],st⟩:MS) with wait:=w }:MS) with things:=th } "if" (.flat .non) pl (if b then 1 else 2) ar []=⟨rs,w++[⟨pl++[if b then 1 else 2],ar,false⟩],th,st⟩:=by
  unfold E5 Gg
  simp
 rw [e] at this
 exact this
end
end K52
namespace K52
open PySem L2
section
variable {P:Program} {w:World} {K:Pd} {mg:Str->Option Value} {base:Heap}
noncomputable def SameR (r:Addr) (H H':Hp):Prop:=∀ b o,b≠r->H b=some o->H' b=some o
theorem SameR.trans {r:Addr} {H H1 H2:Hp} (a:SameR r H H1) (b:SameR r H1 H2):SameR r H H2:=fun c o n h=>b c o n (a c o n h)
theorem _root_.L2.Same.r {H H':Hp} (e:Same H H') (r:Addr):SameR r H H':=fun b o _ h=>e b o h
theorem SameR.upd {r:Addr} {H:Hp} {o:HO}:SameR r H (upd H r o):=fun b o' n h=>by rw [Af n]; exact h
theorem SameR.a {r:Addr} {H H':Hp} {rv:List V} (e:SameR r H H') (h:H r=some (.lst rv)):SameA (fun b=>b=r) H H':=⟨fun b=>⟨fun xs hb=>e b _ (fun z=>by rw [z,h] at hb; cases hb) hb,fun o u hb=>e b _ (fun z=>by rw [z,h] at hb; cases hb) hb⟩,fun b xs n hb=>e b _ n hb⟩
structure DueAt (K:Pd) (HZ H:Hp) (r:Addr) (rs:List Rx):Prop where
 ex:∃ rv,H r=some (.lst rv)/\Al (RwX K (fun b=>b=r\/HZ b≠none) H) rv rs
theorem DueAt.same {K:Pd} {HZ H H':Hp} {r:Addr} {rs:List Rx} (h:DueAt K HZ H r rs) (e:Same H H'):DueAt K HZ H' r rs:=by
 obtain ⟨rv,h1,h2⟩:=h.ex
 exact ⟨rv,e _ _ h1,h2.mono (RwX.same e.a)⟩
theorem DueAt.add {K:Pd} {HZ H:Hp} {r:Addr} {rs:List Rx} {rv:List V} {v:V} {x:Rx} (h1:H r=some (.lst rv)) (h2:Al (RwX K (fun b=>b=r\/HZ b≠none) H) rv rs) (hv:RwX K (fun b=>b=r\/HZ b≠none) H v x):DueAt K HZ (upd H r (.lst (rv++[v]))) r (rs++[x]):=by
 have e:SameR r H (L2.upd H r (.lst (rv++[v]))):=SameR.upd
 exact ⟨_,Ad,(h2.snoc hv).mono (RwX.same ((e.a h1).mono fun _ h=>.inl h))⟩
theorem Zmj {z:Str} {x:Str×Str×V} (ar:List (Str×Str×V)):∀ i:Nat,ar[i]?=some x->x.1=z->(∀ (j:Nat) (y:Str×Str×V),ar[j]?=some y->i < j->y.1≠z)->C4 ar z=some x.2:=by
 refine Lg (P:=fun ar=>∀ i:Nat,ar[i]?=some x->x.1=z->(∀ (j:Nat) (y:Str×Str×V),ar[j]?=some y->i < j->y.1≠z)->C4 ar z=some x.2) (fun i h=>by simp at h) (fun l y ih i hi hx hj=>?_) ar
 rw [Zca]
 by_cases hl:i < l.length
 ·have hy:y.1≠z:=hj l.length y (by simp) hl
  rw [if_neg hy]
  refine ih i ?_ hx fun j u hu hij=>hj j u ?_ hij
  ·rw [Qa hl] at hi; exact hi
  ·rw [Qa (Pq.mp hu).1]; exact hu
 ·have:i < (l++[y]).length:=(Pq.mp hi).1
  rw [Pi,Pr] at this
  have e:i=l.length:=by omega
  rw [e] at hi
  simp at hi
  rw [hi,if_pos hx]
theorem Zjc {z:Str} {ar:List (Str×Str×V)} (h:∀ x∈ar,x.1≠z):C4 ar z=none:=by
 unfold C4
 rw [List.find?_eq_none.mpr]
 ·rfl
 ·intro x hx
  rw [decide_eq_true_iff]
  exact h x (U1.mp hx)
theorem fr {HZ H:Hp} {r o:Addr} {rv:List V} (s:Same HZ H) (er:H r=some (.lst rv)) (ho:H o=none):¬ (o=r\/HZ o≠none):=by
 rintro (z | z)
 ·rw [z,er] at ho; cases ho
 ·exact z (s.free ho)
noncomputable def Zbx (K:Pd):Sp:=fun vs H Q _=>∃ (fv:V) (wd:Str) (nv:V) (p e r:Addr) (pl:List Nat) (rs:List Rx) (ev:List V) (ar:List (Str×Str×V)) (HZ:Hp),vs=[fv,.ref p,.ref e,.ref r]/\Same HZ H/\TrAt K H fv (.mk wd (.flat nv) [])/\LeafOk wd nv/\H p=some (.tup (A1 pl))/\H e=some (.lst ev)/\Al (PrAt K H) ev ar/\e≠r/\DueAt K HZ H r rs/\rs.length<=100 /\
 ∀ v H',SameR r H H'->DueAt K HZ H' r (rs++(B1 wd nv rs.length pl ar).2)->ThAt K H' v (B1 wd nv rs.length pl ar).1->Q v H'
theorem sc_law_comes:A2 ["_law_form", "_law_place", "_law_around", "_law_rows", "_law_word", "_law_note", "_law_parts", "_law_name", "_law_thing_here"] ["_law_form", "_law_place", "_law_around", "_law_rows"] (Az Ht):=by walk_at "sc"
theorem Zll {f:Addr} {fd:FuncData} (F:Fun K "_law_comes" "_law_comes" Ht f fd) (T:Txt K mg):FnOk P w K mg base Ar 1 f fd ["_law_form", "_law_place", "_law_around", "_law_rows"] (Zbx K):=by
 refine F.okq sc_law_comes (fun vs H Q E h=>?_) (fun cdv A outer s H vs Q E hr h=>?_)
 ·obtain ⟨fv,wd,nv,p,e,r,pl,rs,ev,ar,HZ,rfl,_⟩:=h
  rfl
 ·obtain ⟨fv,wd,nv,p,e,r,pl,rs,ev,an,HZ,rfl,sZ,ht,ok,hp,he,ale,ner,D,hl,q⟩:=h
  refine ⟨_,Ae (Fe (qv 0) (Dc K (n:=3) rfl (Bm (A9 (i:=4) sc_law_comes.nd rfl (Or.inl rfl)) (Bm (A9 (i:=5) sc_law_comes.nd rfl (Or.inl rfl)) (Bm (A9 (i:=6) sc_law_comes.nd rfl (Or.inl rfl)) (Di))))))
   (Ae (A0 (Ax (E7 K) (qv 4) (An (Aa As (Aa As Ab))) (by rfl)) (Ag (Au (An (Aa (qv 4) (Aa (qv 5) Ab))))) A6)
   (Ae (Dz Qp rfl (L8 K rfl T.reversed (Aa (qv 2) Ab)) (Dc K (n:=2) rfl (Bm (A9 (i:=7) sc_law_comes.nd rfl (Or.inl rfl)) (Bm (A9 (i:=8) sc_law_comes.nd rfl (Or.inl rfl)) (Di)))) (Ag (A0 (QW.qt (Da (Ax (Ba K hr.u200) (qv 4) As (Aw _)) (Dp (Ax (Ba K hr.u200) (qv 7) (qv 5) (Aw _))))) (Ag (Au (qv 8))) A6)))
   (Ae (A0 (Ax (Ba K hr.u200) (qv 4) As (Aw _)) (Ag (Be (Bw K Pt P4 P5 Bz (qv 3) (Aa (An (Aa (qv 4) (Aa (qv 1) (Aa (Bc Ab) (Aa (Dk (Gr K) (by rfl) T.list (by decide +kernel) (Aa (qv 2) Ab)) Ab))))) Ab)))) (Ag (Be (Bw K Pt P4 P5 Bz (qv 3) (Aa (An (Aa (qv 4) (Aa (qv 1) (Aa (Bc Ab) (Aa (Bc Ab) Ab))))) Ab)))))
   (Ag (Au (An (Aa As (Aa (Aj D8 (Bp (C6 K) (by rfl) T.len (by decide +kernel) (Aa (qv 3) Ab)) Ac) Ab)))))))),?_⟩
  have bg:=big
  cases ht with
  | @mk b pp _ nv' _ vs _ qb hn qpp hl2 hch =>
  have env':nv'=nv:=by
   rcases hn with ⟨_,h⟩ | ⟨_,_,_,_,_,h⟩
   ·injection h with h; exact h.symm
   ·cases h
  subst env'
  unfold B1 at q
  walk_at "r"
  refine Db qb rfl ?_
  walk_at "r"
  refine ⟨A7,fun p1 h1=>?_⟩
  refine Ec (.inr (SqT.of Ad)) rfl rfl ?_
  have s1:Same H (upd H p1 (.tup [.str "num",.str "truth"])):=Same.upd h1
  rw [if_neg Po,show C9 (.str wd) [.str "num",.str "truth"]=decide (wd∈(["num", "truth"]:List Str)) from Et (ws:=["num", "truth"])]
  revert s1
  generalize upd H p1 (.tup [.str "num",.str "truth"])=H1
  intro s1
  walk_at "r"
  refine B4 (fun h=>?_) (fun h=>?_)
  ·have h:wd∈(["num", "truth"]:List Str):=of_decide_eq_true h
   rw [if_pos h] at q
   walk_at "r"
   refine ⟨A7,fun p2 h2=>?_⟩
   have s2:=s1.put (o:=.tup [.str wd,nv']) h2
   exact q _ _ (s2.r r) (by rw [Qo]; exact D.same s2) ⟨ok.flat,p2,rfl,SqT.of Ad⟩
  have h:¬ wd∈(["num", "truth"]:List Str):=fun x=>h (decide_eq_true x)
  rw [if_neg h] at q
  walk_at "r"
  refine ⟨e,ev,rfl,SqL.of (s1 _ _ he),?_⟩
  have ale1:Al (PrAt K H1) ev an:=ale.mono (PrAt.same s1.t)
  have hel:=ale.1
  refine Lz (K:=K) (a:=e) (xs:=ev) (fun j σ' H'=>∃ v7 v8,σ'=[some (.ref b),some (.ref p),some (.ref e),some (.ref r),some (.str wd),some nv',some (.ref pp),v7,v8]/\H'=H1/\∀ z,wd = "name" -> nv'=.str z->∀ (i:Nat) (y:Str×Str×V),an[i]?=some y->an.length - j<=i->y.1≠z) ⟨none,none,rfl,rfl,fun z _ _ i y hi hj=>absurd (Pq.mp hi).1 (by omega)⟩ ?_ ?_ ?_
  ·rintro j σ' H' _ ⟨_,_,_,rfl,_⟩
   exact SqL.of (s1 _ _ he)
  ·rintro i y σ' H' hi hy ⟨v7,v8,rfl,rfl,inv⟩
   obtain ⟨x,hx,a,u,rfl,qa,tu⟩:=ale1.get hy
   walk_at "r"
   refine Db qa rfl ?_
   walk_at "r"
   rw [A8]
   by_cases hnm:wd = "name"
   ·rw [decide_eq_true hnm]
    obtain ⟨z,rfl⟩:∃ z,nv'=.str z:=by
     rcases ok with ⟨h,_⟩ | ⟨h,_⟩ | ⟨_,h⟩ | ⟨_,h⟩ | ⟨h,_⟩
     ·rw [hnm] at h; exact absurd h (by decide +kernel)
     ·rw [hnm] at h; exact absurd h (by decide +kernel)
     ·exact h
     ·exact h
     ·rw [hnm] at h; exact absurd h (by decide +kernel)
    walk_at "r"
    rw [A8]
    by_cases hz:x.1=z
    ·rw [decide_eq_true hz]
     walk_at "r"
     have hk:Ep wd (.str z) an=some x.2:=(if_pos hnm).trans <| Zmj an _ hx hz fun j y hj hlt=>inv z hnm rfl j y hj (by omega)
     simp only [hk] at q
     exact q _ _ (s1.r r) (by rw [Qo]; exact D.same s1) tu
    ·rw [decide_eq_false hz]
     walk_at "r"
     refine ⟨_,_,rfl,rfl,fun z' h1 h2 j y hj hij=>?_⟩
     cases h2
     by_cases hjj:an.length - i<=j
     ·exact inv z hnm rfl j y hj hjj
     ·have:j=ev.length - 1 - i:=by omega
      rw [this,hx] at hj
      cases hj
      exact hz
   ·rw [decide_eq_false hnm]
    walk_at "r"
    exact ⟨_,_,rfl,rfl,fun z' h1=>absurd h1 hnm⟩
  ·rintro σ' H' ⟨v7,v8,rfl,rfl,inv⟩
   have miss:Ep wd nv' an=none:=by
    unfold Ep
    split
    ·rename_i z
     by_cases hnm:wd = "name"
     ·rw [if_pos hnm]
      refine Zjc fun x hx=>?_
      obtain ⟨j,hj⟩:=List.mem_iff_getElem?.mp hx
      exact inv z hnm rfl j x hj (by have:=ale.1; omega)
     ·rw [if_neg hnm]
    ·rfl
   simp only [miss] at q
   obtain ⟨rv,er,ar⟩:=(D.same s1).ex
   have hrl:=ar.1
   walk_at "r"
   rw [A8]
   refine B4 (fun hg=>?_) (fun hg=>?_)
   ·have hg:wd = "gap" := of_decide_eq_true hg
    rw [if_pos hg] at q
    walk_at "r"
    refine Bj (SqL.of er) ?_
    walk_at "r"
    refine ⟨Bf,fun o ho=>?_⟩
    obtain ⟨H2,s2,e2,z9⟩:=Av ho (.lst [])
    rw [z9]
    walk_at "r"
    refine ⟨e,ev,rfl,.inl (SqL.of (s2 _ _ (s1 _ _ he))),fun k hk=>?_⟩
    obtain ⟨H3,s3,e3,z9⟩:=Av hk (.lst ev)
    rw [z9]
    walk_at "r"
    refine ⟨Dn,fun u hu=>?_⟩
    obtain ⟨H4,s4,e4,z9⟩:=Av hu (.tup [.str wd,.ref p,.ref o,.ref k])
    rw [z9]
    have s24:=s2.trans (s3.trans s4)
    have s04:=s1.trans s24
    have er4:=s24 _ _ er
    walk_at "r"
    refine Bt er4 (by omega) ?_
    have nor:=fr (sZ.trans s1) er ho
    have nkr:=fr (sZ.trans (s1.trans s2)) (s2 _ _ er) hk
    have D5:=DueAt.add (x:=⟨wd,Ap pl,[],an⟩) er4 (ar.mono (RwX.same s24.a)) ⟨⟨u,p,o,k,[],ev,rfl,SqT.of e4,by rw [B9]; exact SqT.of (s04 _ _ hp),s4 _ _ (s3 _ _ e2),.nil,s4 _ _ e3,ale.mono (PrAt.same s04.t),nor,nkr⟩,u,p,o,k,rfl,SqT.of e4,by rw [B9]; exact s04 _ _ hp⟩
    have r5:SameR r H (upd H4 r (.lst (rv++[.ref u]))):=(s04.r r).trans SameR.upd
    have er5:upd H4 r (.lst (rv++[.ref u])) r=some (.lst (rv++[.ref u])):=Ad
    revert D5 r5 er5
    generalize upd H4 r (.lst (rv++[.ref u]))=H5
    intro D5 r5 er5
    walk_at "r"
    refine Cm (SqL.of er5) ?_
    walk_at "r"
    refine ⟨A7,fun t ht=>?_⟩
    have e6:(((rv++[V.ref u]).length:Nat):Int) - 1=((rs.length:Nat):Int):=by rw [Pi,Pr]; omega
    rw [e6]
    have s6:Same H5 (upd H5 t (.tup [.str "row",.int (rs.length:Nat)])):=Same.upd ht
    exact q _ _ (r5.trans (s6.r r)) (D5.same s6) ⟨rfl,t,rfl,SqT.of Ad⟩
   ·have hg:¬ wd = "gap" := fun x=>hg (decide_eq_true x)
    rw [if_neg hg] at q
    walk_at "r"
    refine Bj (SqL.of er) ?_
    walk_at "r"
    refine ⟨Bf,fun o ho=>?_⟩
    obtain ⟨H2,s2,e2,z9⟩:=Av ho (.lst [])
    rw [z9]
    walk_at "r"
    refine ⟨Bf,fun k hk=>?_⟩
    obtain ⟨H3,s3,e3,z9⟩:=Av hk (.lst [])
    rw [z9]
    walk_at "r"
    refine ⟨Dn,fun u hu=>?_⟩
    obtain ⟨H4,s4,e4,z9⟩:=Av hu (.tup [.str wd,.ref p,.ref o,.ref k])
    rw [z9]
    have s24:=s2.trans (s3.trans s4)
    have s04:=s1.trans s24
    have er4:=s24 _ _ er
    walk_at "r"
    refine Bt er4 (by omega) ?_
    have nor:=fr (sZ.trans s1) er ho
    have nkr:=fr (sZ.trans (s1.trans s2)) (s2 _ _ er) hk
    have D5:=DueAt.add (x:=⟨wd,Ap pl,[],[]⟩) er4 (ar.mono (RwX.same s24.a)) ⟨⟨u,p,o,k,[],[],rfl,SqT.of e4,by rw [B9]; exact SqT.of (s04 _ _ hp),s4 _ _ (s3 _ _ e2),.nil,s4 _ _ e3,.nil,nor,nkr⟩,u,p,o,k,rfl,SqT.of e4,by rw [B9]; exact s04 _ _ hp⟩
    have r5:SameR r H (upd H4 r (.lst (rv++[.ref u]))):=(s04.r r).trans SameR.upd
    have er5:upd H4 r (.lst (rv++[.ref u])) r=some (.lst (rv++[.ref u])):=Ad
    revert D5 r5 er5
    generalize upd H4 r (.lst (rv++[.ref u]))=H5
    intro D5 r5 er5
    walk_at "r"
    refine Cm (SqL.of er5) ?_
    walk_at "r"
    refine ⟨A7,fun t ht=>?_⟩
    have e6:(((rv++[V.ref u]).length:Nat):Int) - 1=((rs.length:Nat):Int):=by rw [Pi,Pr]; omega
    rw [e6]
    have s6:Same H5 (upd H5 t (.tup [.str "row",.int (rs.length:Nat)])):=Same.upd ht
    exact q _ _ (r5.trans (s6.r r)) (D5.same s6) ⟨rfl,t,rfl,SqT.of Ad⟩
noncomputable def Zdy (K:Pd):Sp:=fun vs H Q _=>∃ (wd:Str) (p r:Addr) (xv yv:V) (x y:Str×V) (pl:List Nat) (rs:List Rx) (HZ:Hp),vs=[.str wd,.ref p,xv,yv,.ref r]/\Same HZ H/\(wd∈B7\/wd = "call")/\H p=some (.tup (A1 pl))/\ThAt K H xv x/\ThAt K H yv y/\Gn x/\Gn y/\DueAt K HZ H r rs/\rs.length<=100 /\
 ∀ v H',SameR r H H'->DueAt K HZ H' r (rs++(Ck wd pl rs.length x y).2)->ThAt K H' v (Ck wd pl rs.length x y).1->Q v H'
theorem Zpc:A2 ["_law_word", "_law_place", "_law_one", "_law_other", "_law_rows"] ["_law_word", "_law_place", "_law_one", "_law_other", "_law_rows"] (Az Iy):=by walk_at "sc"
theorem Zi7 {f:Addr} {fd:FuncData} (F:Fun K "_law_joined" "_law_joined" Iy f fd) (T:Txt K mg):FnOk P w K mg base Ar 1 f fd ["_law_word", "_law_place", "_law_one", "_law_other", "_law_rows"] (Zdy K):=by
 refine F.okq Zpc (fun vs H Q E h=>?_) (fun cdv A outer s H vs Q E hr h=>?_)
 ·obtain ⟨wd,p,r,xv,yv,x,y,pl,rs,HZ,rfl,_⟩:=h
  rfl
 ·obtain ⟨wd,p,r,xv,yv,x,y,pl,rs,HZ,rfl,sZ,hw,hp,hx,hy,ox,oy,D,hl,q⟩:=h
  refine ⟨_,Ae (A0 (QW.qt (Da (Ax (Ei K hr.u200) (qv 0) As (Aw _)) (Da (Ax (Ba K hr.u200) (Ah K (qv 2) Ac) As (Aw _)) (Dp (Ax (Ba K hr.u200) (Ah K (qv 3) Ac) As (Aw _)))))) (Ae (A0 (Ax (Ba K hr.u200) (qv 0) As (Aw _)) (Ag (Au (An (Aa As (Aa (Aj (Cg K) (Ah K (qv 2) Ac) (Ah K (qv 3) Ac)) Ab))))) A6)
   (Ae (A0 (Ax (Ba K hr.u200) (qv 0) As (Aw _)) (Ag (Au (An (Aa As (Aa (Aj D8 (Ah K (qv 2) Ac) (Ah K (qv 3) Ac)) Ab))))) A6)
   (Ag (Au (An (Aa As (Aa (C3 Ia (Ah K (qv 2) Ac) (Ah K (qv 3) Ac) (Aw _)) Ab))))))) A6)
   (Ae (Be (Bw K Pt P4 P5 Bz (qv 4) (Aa (An (Aa (qv 0) (Aa (qv 1) (Aa (Bc (Aa (qv 2) (Aa (qv 3) Ab))) (Aa (Bc Ab) Ab))))) Ab)))
   (Ag (Au (An (Aa As (Aa (Aj D8 (Bp (C6 K) (by rfl) T.len (by decide +kernel) (Aa (qv 4) Ab)) Ac) Ab)))))),?_⟩
  have bg:=big
  obtain ⟨ax,ex,qx⟩:=hx.2
  obtain ⟨ay,ey,qy⟩:=hy.2
  subst ex ey
  obtain ⟨rv,er,ar⟩:=D.ex
  have hrl:=ar.1
  have row:∀ o,H o=none->∀ k,upd H o (.lst [.ref ax,.ref ay]) k=none->∀ u,upd (upd H o (.lst [.ref ax,.ref ay])) k (.lst []) u=none ->
    ∃ H5,H5=upd (upd (upd (upd H o (.lst [.ref ax,.ref ay])) k (.lst [])) u (.tup [.str wd,.ref p,.ref o,.ref k])) r (.lst (rv++[.ref u]))/\upd (upd (upd H o (.lst [.ref ax,.ref ay])) k (.lst [])) u (.tup [.str wd,.ref p,.ref o,.ref k]) r=some (.lst rv)/\H5 r=some (.lst (rv++[.ref u]))/\SameR r H H5/\DueAt K HZ H5 r (rs++[⟨wd,Ap pl,[x,y],[]⟩]):=by
   intro o ho k hk u hu
   have s2:Same H (upd H o (.lst [.ref ax,.ref ay])):=Same.upd ho
   have s3:Same (upd H o (.lst [.ref ax,.ref ay])) (upd (upd H o (.lst [.ref ax,.ref ay])) k (.lst [])):=Same.upd hk
   have s4:Same (upd (upd H o (.lst [.ref ax,.ref ay])) k (.lst [])) (upd (upd (upd H o (.lst [.ref ax,.ref ay])) k (.lst [])) u (.tup [.str wd,.ref p,.ref o,.ref k])):=Same.upd hu
   have e2:=s4 _ _ (s3 _ _ (Ad (H:=H) (a:=o) (o:=.lst [.ref ax,.ref ay])))
   have e3:=s4 _ _ (Ad (H:=upd H o (.lst [.ref ax,.ref ay])) (a:=k) (o:=.lst []))
   have e4:upd (upd (upd H o (.lst [.ref ax,.ref ay])) k (.lst [])) u (.tup [.str wd,.ref p,.ref o,.ref k]) u=some (.tup [.str wd,.ref p,.ref o,.ref k]):=Ad
   have nor:=fr sZ er ho
   have nkr:=fr (sZ.trans s2) (s2 _ _ er) hk
   have s04:=s2.trans (s3.trans s4)
   revert s04 e2 e3 e4
   generalize upd (upd (upd H o (.lst [.ref ax,.ref ay])) k (.lst [])) u (.tup [.str wd,.ref p,.ref o,.ref k])=H4
   intro e2 e3 e4 s04
   have er4:=s04 _ _ er
   refine ⟨_,rfl,er4,Ad,(s04.r r).trans SameR.upd,DueAt.add (x:=⟨wd,Ap pl,[x,y],[]⟩) er4 (ar.mono (RwX.same s04.a)) ⟨⟨u,p,o,k,[.ref ax,.ref ay],[],rfl,SqT.of e4,by rw [B9]; exact SqT.of (s04 _ _ hp),e2,?_,e3,.nil,nor,nkr⟩,u,p,o,k,rfl,SqT.of e4,by rw [B9]; exact s04 _ _ hp⟩⟩
   exact (Al.nil.snoc (ThAt.same s04.t _ _ hx)).snoc (ThAt.same s04.t _ _ hy)
  unfold Ck at q
  walk_at "r"
  rw [A8]
  by_cases wc:wd = "call"
  ·rw [decide_eq_true wc]
   have hn:¬ (wd∈B7/\x.1 = "num" /\ y.1 = "num"):=fun h=>absurd h.1 (by rw [wc]; decide +kernel)
   rw [if_neg hn] at q
   walk_at "r"
   refine Bj (SqL.of er) ?_
   walk_at "r"
   refine ⟨A7,fun o ho=>?_⟩
   walk_at "r"
   refine ⟨Bf,fun k hk=>?_⟩
   walk_at "r"
   refine ⟨Dn,fun u hu=>?_⟩
   walk_at "r"
   obtain ⟨H5,hH5,er4,er5,r5,D5⟩:=row o ho k hk u hu
   refine Bt er4 (by omega) ?_
   rw [<- hH5]
   walk_at "r"
   refine Cm (SqL.of er5) ?_
   walk_at "r"
   refine ⟨A7,fun t ht=>?_⟩
   have e6:(((rv++[V.ref u]).length:Nat):Int) - 1=((rs.length:Nat):Int):=by rw [Pi,Pr]; omega
   rw [e6]
   have s6:Same H5 (upd H5 t (.tup [.str "row",.int (rs.length:Nat)])):=Same.upd ht
   exact q _ _ (r5.trans (s6.r r)) (D5.same s6) ⟨rfl,t,rfl,SqT.of Ad⟩
  have hwo:wd∈B7:=by
   rcases hw with h | h
   ·exact h
   ·exact absurd h wc
  rw [decide_eq_false wc]
  walk_at "r"
  refine Ak qx rfl ?_
  walk_at "r"
  rw [A8]
  by_cases hx1:x.1 = "num"
  ·rw [decide_eq_true hx1]
   walk_at "r"
   refine Ak qy rfl ?_
   walk_at "r"
   rw [A8]
   by_cases hy1:y.1 = "num"
   ·rw [decide_eq_true hy1]
    rw [if_pos ⟨hwo,hx1,hy1⟩] at q
    obtain ⟨i,ei⟩:=ox hx1
    obtain ⟨j,ej⟩:=oy hy1
    rw [ei] at qx
    rw [ej] at qy
    rw [show G9 x.2=i by rw [ei]; rfl,show G9 y.2=j by rw [ej]; rfl] at q
    have ret:∀ v,ThAt K H v (Ff wd i j)->True:=fun _ _=>trivial
    unfold Ff at q
    walk_at "r"
    rw [A8]
    refine B4 (fun h=>?_) (fun h=>?_)
    ·have h:wd = "plus" := of_decide_eq_true h
     rw [if_pos h] at q
     walk_at "r"
     refine Ak qx rfl ?_
     walk_at "r"
     refine Ak qy rfl ?_
     walk_at "r"
     refine ⟨A7,fun t ht=>?_⟩
     have s6:=Same.upd (o:=.tup [.str "num",.int (i + j)]) ht
     exact q _ _ (s6.r r) (by rw [Qo]; exact D.same s6) ⟨rfl,t,rfl,SqT.of Ad⟩
    have h:¬ wd = "plus" := fun x=>h (decide_eq_true x)
    rw [if_neg h] at q
    walk_at "r"
    rw [A8]
    refine B4 (fun h=>?_) (fun h=>?_)
    ·have h:wd = "minus" := of_decide_eq_true h
     rw [if_pos h] at q
     walk_at "r"
     refine Ak qx rfl ?_
     walk_at "r"
     refine Ak qy rfl ?_
     walk_at "r"
     refine ⟨A7,fun t ht=>?_⟩
     have s6:=Same.upd (o:=.tup [.str "num",.int (i - j)]) ht
     exact q _ _ (s6.r r) (by rw [Qo]; exact D.same s6) ⟨rfl,t,rfl,SqT.of Ad⟩
    have h:¬ wd = "minus" := fun x=>h (decide_eq_true x)
    rw [if_neg h] at q
    walk_at "r"
    refine Ak qx rfl ?_
    walk_at "r"
    refine Ak qy rfl ?_
    walk_at "r"
    refine ⟨A7,fun t ht=>?_⟩
    have s6:=Same.upd (o:=.tup [.str "truth",.bl (decide (i < j))]) ht
    exact q _ _ (s6.r r) (by rw [Qo]; exact D.same s6) ⟨rfl,t,rfl,SqT.of Ad⟩
   ·rw [decide_eq_false hy1]
    have hn:¬ (wd∈B7/\x.1 = "num" /\ y.1 = "num"):=fun h=>hy1 h.2.2
    rw [if_neg hn] at q
    walk_at "r"
    refine Bj (SqL.of er) ?_
    walk_at "r"
    refine ⟨A7,fun o ho=>?_⟩
    walk_at "r"
    refine ⟨Bf,fun k hk=>?_⟩
    walk_at "r"
    refine ⟨Dn,fun u hu=>?_⟩
    walk_at "r"
    obtain ⟨H5,hH5,er4,er5,r5,D5⟩:=row o ho k hk u hu
    refine Bt er4 (by omega) ?_
    rw [<- hH5]
    walk_at "r"
    refine Cm (SqL.of er5) ?_
    walk_at "r"
    refine ⟨A7,fun t ht=>?_⟩
    have e6:(((rv++[V.ref u]).length:Nat):Int) - 1=((rs.length:Nat):Int):=by rw [Pi,Pr]; omega
    rw [e6]
    have s6:Same H5 (upd H5 t (.tup [.str "row",.int (rs.length:Nat)])):=Same.upd ht
    exact q _ _ (r5.trans (s6.r r)) (D5.same s6) ⟨rfl,t,rfl,SqT.of Ad⟩
  ·rw [decide_eq_false hx1]
   have hn:¬ (wd∈B7/\x.1 = "num" /\ y.1 = "num"):=fun h=>hx1 h.2.1
   rw [if_neg hn] at q
   walk_at "r"
   refine Bj (SqL.of er) ?_
   walk_at "r"
   refine ⟨A7,fun o ho=>?_⟩
   walk_at "r"
   refine ⟨Bf,fun k hk=>?_⟩
   walk_at "r"
   refine ⟨Dn,fun u hu=>?_⟩
   walk_at "r"
   obtain ⟨H5,hH5,er4,er5,r5,D5⟩:=row o ho k hk u hu
   refine Bt er4 (by omega) ?_
   rw [<- hH5]
   walk_at "r"
   refine Cm (SqL.of er5) ?_
   walk_at "r"
   refine ⟨A7,fun t ht=>?_⟩
   have e6:(((rv++[V.ref u]).length:Nat):Int) - 1=((rs.length:Nat):Int):=by rw [Pi,Pr]; omega
   rw [e6]
   have s6:Same H5 (upd H5 t (.tup [.str "row",.int (rs.length:Nat)])):=Same.upd ht
   exact q _ _ (r5.trans (s6.r r)) (D5.same s6) ⟨rfl,t,rfl,SqT.of Ad⟩
end
end K52
namespace K52
open PySem L2
structure Tk where
 w0:Str
 w1:Str
 part:Tr
 lw:Str
 ln:V
noncomputable def gapT:Tr:=.mk "gap" (.flat .non) []
noncomputable def Tk.lf (T:Tk):Tr:=.mk T.lw (.flat T.ln) []
noncomputable def Ci (T:Tk) (a b c:Tr):Tr:=.mk T.w0 (.flat .non) [a,.mk T.w1 (.flat .non) [b,.mk "if" (.flat .non) [c,T.part,T.lf]]]
inductive Dd:Tr->Prop
 | leaf {wd:Str} {nv:V} (ok:LeafOk wd nv):Dd (.mk wd (.flat nv) [])
 | fn {x wd:Str} {nv:V} (ok:LeafOk wd nv):Dd (.mk "fn" (.flat (.str x)) [.mk wd (.flat nv) []])
 | rc {f x wd:Str} {nv:V} (ok:LeafOk wd nv):Dd (.mk "rec" (.tup [.flat (.str f),.flat (.str x)]) [.mk wd (.flat nv) []])
structure Tk.Ok (T:Tk):Prop where
 o0:T.w0∈B7\/T.w0 = "call"
 o1:T.w1∈B7\/T.w1 = "call"
 op:Dd T.part
 ol:LeafOk T.lw T.ln
structure ThOk (n:Nat) (x:Str×V):Prop where
 row:Kf n x
 num:Gn x
 tru:x.1 = "truth" -> ∃ b,x.2=.bl b
 flat:Cb x.2=true
theorem ThOk.mono {n m:Nat} {x:Str×V} (h:ThOk n x) (hm:n<=m):ThOk m x:=⟨fun e=>let ⟨k,e1,e2⟩:=h.row e; ⟨k,e1,by omega⟩,h.num,h.tru,h.flat⟩
inductive MkR (T:Tk) (n:Nat):Rx->Prop
 | gap {pl:List Nat} (h:pl∈([[0],[1,0],[1,1,0]]:List (List Nat))):MkR T n ⟨"gap",Ap pl,[],[]⟩
 | two {wd:Str} {pl:List Nat} {x y:Str×V} (h:wd=T.w0/\pl=[]\/wd=T.w1/\pl=[1]) (hx:ThOk n x) (hy:ThOk n y):MkR T n ⟨wd,Ap pl,[x,y],[]⟩
 | ifs {x:Str×V} (hx:ThOk n x):MkR T n ⟨"if",Ap [1,1],[x],[]⟩
 | fn (h:T.part.wd∈(["fn", "rec"]:List Str)):MkR T n ⟨T.part.wd,Ap [1,1,1],[],[]⟩
theorem Zh4 {a b:List Nat} (h:Ap a=Ap b):a=b:=by
 unfold Ap at h
 induction a generalizing b with
 | nil=>cases b with
  | nil=>rfl
  | cons y r=>simp at h
 | cons x l ih=>cases b with
  | nil=>simp at h
  | cons y r =>
   simp only [Qj,U6] at h
   rw [ih h.2,show x=y by omega]
theorem MkR.inv2 {T:Tk} {n:Nat} {r:Rx} {x y:Str×V} {pl:List Nat} (M:MkR T n r) (ho:r.ops=[x,y]) (hp:r.pl=Ap pl):(r.wd=T.w0/\pl=[]\/r.wd=T.w1/\pl=[1])/\ThOk n x/\ThOk n y:=by
 cases M with
 | gap=>cases ho
 | ifs=>cases ho
 | fn=>cases ho
 | two h hx hy =>
  cases ho
  have:=Zh4 hp
  rw [this] at h
  exact ⟨h,hx,hy⟩
noncomputable def Dq:Tr->Nat->List Nat->List (Str×Str×V)->(Str×V)×List Rx
 | .mk wd (.flat nv) [],k,pl,ar=>B1 wd nv k pl ar
 | .mk wd _ _,k,pl,_=>(("row",.int (k:Nat)),[⟨wd,Ap pl,[],[]⟩])
noncomputable def Dl:Tr->(Str×V)->(Str×V)->List (Str×Str×V)
 | .mk wd d _,x,y=>if wd = "rec" then (Dj wd d 0).zip [x,y] else (Dj wd d 0).zip [y]
noncomputable def F4:Tr->Tr
 | .mk _ _ (b :: _)=>b
 | .mk _ _ []=>gapT
noncomputable def stT (t:Tr):Int:=Cn t.wd
inductive Du (T:Tk) (fl:List Nat) (tf:Tr) (bc:List (Str×V)) (rs:List Rx) (r:Rx):(Str×V)->List Rx->Int->Prop
 | fill (h:r.wd = "gap") (hp:r.pl=Ap fl):Du T fl tf bc rs r (Dq tf rs.length fl []).1 (Dq tf rs.length fl []).2 (stT tf)
 | new (hn:r.pl≠Ap fl) (h:r.wd = "gap" \/ r.wd∈(["fn", "rec"]:List Str)):Du T fl tf bc rs r (C1 rs.length) [⟨r.wd,r.pl,[],[]⟩] 0
 | ift {x:Str×V} {b:Bool} (h:r=⟨"if",Ap [1,1],[x],[]⟩) (hx:A4 bc x=tr b):Du T fl tf bc rs r (Dq (if b then T.part else T.lf) rs.length ([1,1]++[if b then 1 else 2]) []).1 (Dq (if b then T.part else T.lf) rs.length ([1,1]++[if b then 1 else 2]) []).2 (stT (if b then T.part else T.lf))
 | ifr {x:Str×V} (h:r=⟨"if",Ap [1,1],[x],[]⟩) (hx:¬ (A4 bc x).1 = "truth"):Du T fl tf bc rs r (C1 rs.length) [⟨"if",Ap [1,1],[A4 bc x],[]⟩] 0
 | call {pl:List Nat} {x y:Str×V} {k:Nat} {q:Rx} (h:r=⟨"call",Ap pl,[x,y],[]⟩) (hx:A4 bc x=C1 k) (hq:rs[k]?=some q) (hf:q.wd∈(["fn", "rec"]:List Str)):Du T fl tf bc rs r (Dq (F4 T.part) rs.length [1,1,1,0] (Dl T.part (A4 bc x) (A4 bc y))).1 (Dq (F4 T.part) rs.length [1,1,1,0] (Dl T.part (A4 bc x) (A4 bc y))).2 (stT (F4 T.part))
 | join {wd:Str} {pl:List Nat} {x y:Str×V} (h:r=⟨wd,Ap pl,[x,y],[]⟩) (hc:wd = "call" -> Cy rs (A4 bc x)=false):Du T fl tf bc rs r (Ck wd pl rs.length (A4 bc x) (A4 bc y)).1 (Ck wd pl rs.length (A4 bc x) (A4 bc y)).2 0
structure Ef (T:Tk) (rs:List Rx) (bc:List (Str×V)):Prop where
 fn:∀ q∈rs,q.wd∈(["fn", "rec"]:List Str)->q.wd=T.part.wd/\q.pl=Ap [1,1,1]/\q.ar=[]
 th:∀ x∈bc,ThOk rs.length x
theorem Gk {n m:Nat} {bc:List (Str×V)} {x:Str×V} (hb:∀ y∈bc,ThOk m y) (hx:ThOk bc.length x):ThOk m (A4 bc x):=by
 unfold A4
 by_cases e:x.1 = "row"
 ·obtain ⟨k,e1,e2⟩:=hx.row e
  rw [if_pos e,e1]
  have:bc[((k:Nat):Int).toNat]?=some (bc[k]):=by rw [Q7]; exact Pg e2
  simp only [this]
  exact hb _ (Tp _)
 ·rw [if_neg e]
  exact ⟨fun h=>absurd h e,hx.num,hx.tru,hx.flat⟩
theorem Hz {wd:Str} {nv:V} (ok:LeafOk wd nv):¬ wd∈(["fn", "rec"]:List Str):=by
 rcases ok with ⟨rfl,_⟩ | ⟨rfl,_⟩ | ⟨rfl,_⟩ | ⟨rfl,_⟩ | ⟨rfl,_⟩ <;> decide +kernel
section
variable {sub:List Nat->Option (Str×Dt)} {rs:List Rx} {w:List Wt} {th:List (Str×V)} {st:Int} {pl:List Nat} {ar:List (Str×Str×V)} {wd:Str} {nv:V} {d:Dt}
theorem u_fr (hs:sub pl=some (wd,d)) (hw:wd∈(["fn", "rec"]:List Str)) (hz:rs.length + (w.length + th.length)<=8900):ChU sub ⟨rs,w++[⟨pl,ar,false⟩],th,st⟩ ⟨rs++[⟨wd,Ap pl,[],ar⟩],w,th++[C1 rs.length],st + 1⟩:=by
 have e:Bg wd=none/\¬ wd = "gap" /\ ¬ wd∈(["num", "truth"]:List Str)/\¬ wd = "name" /\ wd∈WA:=by
  simp only [Pm,P0,or_false] at hw
  rcases hw with rfl | rfl <;> exact ⟨by decide +kernel,by decide +kernel,by decide +kernel,by decide +kernel,by decide +kernel⟩
 refine one (sm hz) ?_
 have:=StepU.come (sub:=sub) (S:=⟨rs,w++[⟨pl,ar,false⟩],th,st⟩) (w:=w) (x:=⟨pl,ar,false⟩) rfl rfl hs (Zp7 e.2.2.1 e.2.2.2.1)
 have e:Es { (⟨rs,w++[⟨pl,ar,false⟩],th,st⟩:MS) with wait:=w } wd d pl ar=⟨rs++[⟨wd,Ap pl,[],ar⟩],w,th++[C1 rs.length],st + 1⟩:=by
  unfold Es
  rw [e.1]
  simp only [if_neg e.2.1]
  rw [Zd1]
  have en:Ep wd (Eu d) ar=none:=by
   unfold Ep
   split
   ·rw [if_neg e.2.2.2.1]
   ·rfl
  rw [if_neg e.2.2.1,en]
  simp only [if_pos e.2.2.2.2]
 rw [e] at this
 exact this
theorem Zkb {t:Tr} (ok:Dd t) (hs:sub pl=some (t.wd,Ek t)) (hz:rs.length + (w.length + th.length)<=8900):ChU sub ⟨rs,w++[⟨pl,[],false⟩],th,st⟩ ⟨rs++(Dq t rs.length pl []).2,w,th++[(Dq t rs.length pl []).1],st + stT t⟩:=by
 cases ok with
 | leaf ok=>exact K8 hs ok hz
 | fn ok =>
  have:=u_fr (ar:=[]) (st:=st) hs (show ("fn" : Str)∈(["fn", "rec"]:List Str) by decide +kernel) hz
  exact this
 | rc ok =>
  have:=u_fr (ar:=[]) (st:=st) hs (show ("rec" : Str)∈(["fn", "rec"]:List Str) by decide +kernel) hz
  exact this
theorem Zmv {x y:Str×V} (hs:sub pl=some (wd,d)) (hw:wd∈B7\/wd = "call") (hc:wd = "call" -> Cy rs x=false) (ok:Jc rs x) (ox:Gn x) (oy:Gn y) (ha:ar.length<=9000) (hz:rs.length + (w.length + th.length)<=8900):ChU sub ⟨rs,w++[⟨pl,ar,true⟩],th++[x]++[y],st⟩ ⟨rs++(Ck wd pl rs.length x y).2,w,th++[(Ck wd pl rs.length x y).1],st⟩:=by
 refine one (sm2 hz) ?_
 have hw':wd∈B7\/wd = "call" /\ Cy rs x=false:=by
  rcases hw with h | h
  ·exact .inl h
  ·exact .inr ⟨h,hc h⟩
 have:=StepU.further (sub:=sub) (S:=⟨rs,w++[⟨pl,ar,true⟩],th++[x]++[y],st⟩) (w:=w) (x:=⟨pl,ar,true⟩) rfl rfl hs (.two (th:=th) (x:=x) (y:=y) hw' (by simp) ok ox oy) ha
 have e:Ew { (⟨rs,w++[⟨pl,ar,true⟩],th++[x]++[y],st⟩:MS) with wait:=w } wd pl th x y=⟨rs++(Ck wd pl rs.length x y).2,w,th++[(Ck wd pl rs.length x y).1],st⟩:=by
  unfold Ew Ck
  by_cases h:wd∈B7/\x.1 = "num" /\ y.1 = "num"
  ·rw [if_pos h,if_pos h]
   simp
  ·rw [if_neg h,if_neg h]
 rw [e] at this
 exact this
theorem Zgv {x:Str×V} (hs:sub pl=fm "if" d) (hx:¬ x.1 = "truth") (ha:ar.length<=9000) (hz:rs.length + (w.length + th.length)<=8900):ChU sub ⟨rs,w++[⟨pl,ar,true⟩],th++[x],st⟩ ⟨rs++[⟨"if",Ap pl,[x],ar⟩],w,th++[C1 rs.length],st⟩:=by
 refine one ⟨by show rs.length < 9000; omega,by show (w++[_]).length < 9000; rw [Pi,Pr]; omega,by show (th++[_]).length < 9000; simp only [Pi,Pr]; omega⟩ ?_
 exact StepU.further (sub:=sub) (S:=⟨rs,w++[⟨pl,ar,true⟩],th++[x],st⟩) (w:=w) (x:=⟨pl,ar,true⟩) rfl rfl hs (.ifr (th:=th) (x:=x) rfl rfl hx) ha
theorem Zq5 {t:Tr} {k:Nat} {y:Str×V} {q:Rx} (hs:sub pl=fm "call" d) (hr:rs[k]?=some q) (hw:q.wd∈(["fn", "rec"]:List Str)) (hq:q.wd=t.wd) (hp:q.pl=Ap [1,1,1]) (hqa:q.ar=[]) (op:Dd t) (hs':sub [1,1,1]=some (t.wd,Ek t)) (ha:ar.length<=9000) (hz:rs.length + (w.length + th.length)<=8900):ChU sub ⟨rs,w++[⟨pl,ar,true⟩],th++[C1 k]++[y],st⟩ ⟨rs,w++[⟨[1,1,1,0],Dl t (C1 k) y,false⟩],th,st⟩:=by
 refine one (sm2 hz) ?_
 have bk:Gp t.wd (Ek t):=by
  cases op with
  | leaf ok =>
   rw [hq] at hw
   exact absurd hw (Hz ok)
  | @fn x wd nv ok=>exact ⟨fun _=>⟨x,rfl⟩,fun h=>absurd (show ("fn" : Str) = "rec" from h) (by decide +kernel)⟩
  | @rc f x wd nv ok=>exact ⟨fun h=>by rcases h with h | h <;> exact absurd (show ("rec" : Str)=_ from h) (by decide +kernel),fun _=>⟨f,x,rfl⟩⟩
 have:=StepU.further (sub:=sub) (S:=⟨rs,w++[⟨pl,ar,true⟩],th++[C1 k]++[y],st⟩) (w:=w) (x:=⟨pl,ar,true⟩) rfl rfl hs (.calls (th:=th) (k:=k) (y:=y) rfl (by simp) hr hw hp hs' bk (by rw [hqa]; show 0<=9000; decide)) ha
 have e:E5 { ({ (⟨rs,w++[⟨pl,ar,true⟩],th++[C1 k]++[y],st⟩:MS) with wait:=w }:MS) with things:=th } t.wd (Ek t) [1,1,1] 0 q.ar (if q.wd = "rec" then [C1 k,y] else [y])=⟨rs,w++[⟨[1,1,1,0],Dl t (C1 k) y,false⟩],th,st⟩:=by
  rw [hqa,hq]
  unfold E5 Gg
  cases t with
  | mk tw td tts =>
   show (⟨rs,w++[⟨[1,1,1,0],[]++(Dj tw td ((0:Nat):Int)).zip (if tw = "rec" then [C1 k,y] else [y]),false⟩],th,st⟩:MS)=_
   rw [List.nil_append]
   unfold Dl
   by_cases h:tw = "rec"
   ·simp only [if_pos h]; rfl
   ·simp only [if_neg h]; rfl
 rw [e] at this
 exact this
end
structure Zal (sub:List Nat->Option (Str×Dt)) (T:Tk) (fl:List Nat) (tw:Str) (tn:V):Prop where
 f:sub fl=some (tw,.flat tn)
 s0:sub []=some (T.w0,.flat .non)
 s1:sub [1]=some (T.w1,.flat .non)
 s2:sub [1,1]=fm "if" (.flat .non)
 s3:sub [1,1,1]=some (T.part.wd,Ek T.part)
 s4:sub [1,1,2]=some (T.lw,.flat T.ln)
 s5:∀ w d b bs,T.part=.mk w d (b :: bs)->sub [1,1,1,0]=some (b.wd,Ek b)
theorem Zrr (T:Tk) (a b c:Tr) {fl:List Nat} {tw:Str} {tn:V} (h:fl=[0]/\a=.mk tw (.flat tn) []\/fl=[1,0]/\b=.mk tw (.flat tn) []\/fl=[1,1,0]/\c=.mk tw (.flat tn) []):Zal (Eb (Ci T a b c)) T fl tw tn:=by
 refine ⟨?_,?_,?_,?_,?_,?_,fun w d b bs e=>?_⟩
 ·rcases h with ⟨rfl,rfl⟩ | ⟨rfl,rfl⟩ | ⟨rfl,rfl⟩ <;> rw [Zcc] <;> simp [Ci,My,Md,Tr.wd,Ek]
 all_goals rw [Zcc]
 all_goals simp [Ci,My,Md,Tr.wd,Ek,Tk.lf]
 rw [e,My]
 simp [Md]
section
variable {sub:List Nat->Option (Str×Dt)} {fl:List Nat} {bc:List (Str×V)} {r:Rx} {rs nr:List Rx} {st m:Int} {x:Str×V} {pl:List Nat}
theorem Zkh (hp:r.pl=Ap fl) (har:r.ar=[]) (h5:st<=500) (C:ChU sub ⟨rs,[]++[⟨fl,[],false⟩],[],st⟩ ⟨rs++nr,[],[]++[x],st + m⟩):(st + m<=500->RowG sub fl bc r ⟨rs,[],[],st⟩ ⟨rs++nr,[],[],st + m⟩ x)/\(500 < st + m->RowO sub fl bc r ⟨rs,[],[],st⟩ none):=by
 have ea:De bc r.ar=[]:=by rw [har]; rfl
 refine ⟨fun h=>?_,fun h=>?_⟩
 ·obtain ⟨n,R⟩:=C.fine rfl h
  exact RowG.fill (S:=⟨rs,[],[],st⟩) (S':=⟨rs++nr,[],[]++[x],st + m⟩) (th:=[]) hp (by rw [ea]; exact R) rfl
 ·obtain ⟨n,R⟩:=C.late h5 h
  exact RowO.lateF (S:=⟨rs,[],[],st⟩) hp (by rw [ea]; exact R)
theorem Mh (hp:r.pl=Ap pl) (hn:r.pl≠Ap fl) (hw:(Bg r.wd).isSome=true) (har:r.ar=[]) (h5:st<=500) (C:ChU sub ⟨rs,[]++[⟨pl,[],true⟩],[]++Ct bc r.ops,st⟩ ⟨rs++nr,[],[]++[x],st + m⟩):(st + m<=500->RowG sub fl bc r ⟨rs,[],[],st⟩ ⟨rs++nr,[],[],st + m⟩ x)/\(500 < st + m->RowO sub fl bc r ⟨rs,[],[],st⟩ none):=by
 have ea:De bc r.ar=[]:=by rw [har]; rfl
 refine ⟨fun h=>?_,fun h=>?_⟩
 ·obtain ⟨n,R⟩:=C.fine rfl h
  exact RowG.parts (S:=⟨rs,[],[],st⟩) (S':=⟨rs++nr,[],[]++[x],st + m⟩) (th:=[]) hp hn hw (by rw [ea]; exact R) rfl
 ·obtain ⟨n,R⟩:=C.late h5 h
  exact RowO.lateP (S:=⟨rs,[],[],st⟩) hp hn hw (by rw [ea]; exact R)
end
theorem Go {fl pl:List Nat} (hf:fl∈([[0],[1,0],[1,1,0]]:List (List Nat))) (hp:pl∈([[],[1],[1,1],[1,1,1]]:List (List Nat))):Ap pl≠Ap fl:=by
 simp only [Pm,P0,or_false] at hf hp
 rcases hf with rfl | rfl | rfl <;> rcases hp with rfl | rfl | rfl | rfl <;> decide
theorem mach {sub:List Nat->Option (Str×Dt)} {T:Tk} {fl:List Nat} {tw:Str} {tn:V} {bc:List (Str×V)} {rs nr:List Rx} {r:Rx} {x:Str×V} {m st:Int} (TO:T.Ok) (hf:fl∈([[0],[1,0],[1,1,0]]:List (List Nat))) (ok:LeafOk tw tn) (U:Zal sub T fl tw tn) (I:Ef T rs bc) (M:MkR T bc.length r) (hl:rs.length<=1000) (h5:st<=500) (O:Du T fl (.mk tw (.flat tn) []) bc rs r x nr m) :
  (st + m<=500->RowG sub fl bc r ⟨rs,[],[],st⟩ ⟨rs++nr,[],[],st + m⟩ x)/\(500 < st + m->RowO sub fl bc r ⟨rs,[],[],st⟩ none):=by
 have har:r.ar=[]:=by cases M <;> rfl
 have z0:rs.length + (([]:List Wt).length + ([]:List (Str×V)).length)<=8900:=by simp; omega
 have two1:∀ {wd:Str} {pl:List Nat},(wd=T.w0/\pl=[]\/wd=T.w1/\pl=[1])->sub pl=some (wd,.flat .non)/\(wd∈B7\/wd = "call")/\Ap pl≠Ap fl:=by
  rintro wd pl (⟨rfl,rfl⟩ | ⟨rfl,rfl⟩)
  ·exact ⟨U.s0,TO.o0,Go hf (by simp)⟩
  ·exact ⟨U.s1,TO.o1,Go hf (by simp)⟩
 have pt2:∀ {wd:Str},(wd∈B7\/wd = "call")->(Bg wd).isSome=true:=by
  intro wd h
  rcases h with h | rfl
  ·unfold B7 at h
   simp only [Pm,P0,or_false] at h
   rcases h with rfl | rfl | rfl <;> decide +kernel
  ·decide +kernel
 cases O with
 | fill h hp=>exact Zkh hp har h5 (K8 (w:=[]) (th:=[]) U.f ok z0)
 | new hn h =>
  have hw:(Bg r.wd).isSome=false:=by
   rcases h with h | h
   ·rw [h]; decide +kernel
   ·simp only [Pm,P0,or_false] at h
    rcases h with h | h <;> rw [h] <;> decide +kernel
  have ho:r.ops=[]:=by
   cases M with
   | gap=>rfl
   | fn=>rfl
   | two h' hx hy=>have:=pt2 (two1 h').2.1; rw [show (⟨_,_,_,_⟩:Rx).wd=_ from rfl] at hw; rw [this] at hw; cases hw
   | ifs hx=>exact absurd (show (Bg "if").isSome=false from hw) (by decide +kernel)
  obtain ⟨pl,hp⟩:∃ pl,r.pl=Ap pl:=by cases M <;> exact ⟨_,rfl⟩
  refine ⟨fun _=>?_,fun h=>by omega⟩
  have:=RowG.new (sub:=sub) (fl:=fl) (bc:=bc) (r:=r) (S:=⟨rs,[],[],st⟩) hp hn hw
  rw [ho,har,<- hp] at this
  rw [Vk]
  have e:(if r.wd∈WA then De bc [] else [])=[]:=by split <;> rfl
  rw [e] at this
  exact this
 | @ift x b h hx =>
  subst h
  refine Mh (pl:=[1,1]) rfl (Go hf (by simp)) (show (Bg "if").isSome=true by decide +kernel) rfl h5 ?_
  have c1:=u_if (b:=b) (ar:=[]) (w:=[]) (th:=[]) (st:=st) U.s2 (by simp) z0
  have e:Ct bc [x]=[tr b]:=by unfold Ct; rw [Sd,hx]
  rw [show (⟨"if",Ap [1,1],[x],[]⟩:Rx).ops=[x] from rfl,e]
  refine c1.trans ?_
  cases b with
  | true=>exact Zkb (w:=[]) (th:=[]) TO.op U.s3 z0
  | false=>exact K8 (w:=[]) (th:=[]) U.s4 TO.ol z0
 | @ifr x h hx =>
  subst h
  refine Mh (pl:=[1,1]) rfl (Go hf (by simp)) (show (Bg "if").isSome=true by decide +kernel) rfl h5 ?_
  have c1:=Zgv (x:=A4 bc x) (ar:=[]) (w:=[]) (th:=[]) (st:=st) U.s2 hx (by simp) z0
  rw [Vk]
  exact c1
 | @call pl x y k q h hx hq hfq =>
  subst h
  obtain ⟨h',ox,oy⟩:=M.inv2 rfl rfl
  have h':("call" : Str)=T.w0/\pl=[]\/("call" : Str)=T.w1/\pl=[1]:=h'
  ·obtain ⟨hs,hw,hn⟩:=two1 h'
   refine Mh (pl:=pl) rfl hn (pt2 hw) rfl h5 ?_
   obtain ⟨g1,g2,g3⟩:=I.fn q (Qv hq) hfq
   have c1:=Zq5 (t:=T.part) (k:=k) (y:=A4 bc y) (ar:=[]) (w:=[]) (th:=[]) (st:=st) hs hq hfq g1 g2 g3 TO.op U.s3 (by simp) z0
   have e:Ct bc [x,y]=[C1 k,A4 bc y]:=by unfold Ct; rw [Qj,Sd,hx]
   rw [show (⟨"call",Ap pl,[x,y],[]⟩:Rx).ops=[x,y] from rfl,e,hx]
   refine c1.trans ?_
   have hp:=TO.op
   generalize ep:T.part=pt at hp g1 ⊢
   cases hp with
   | leaf okl =>
    rw [g1] at hfq
    exact absurd hfq (Hz okl)
   | fn okl=>exact K8 (w:=[]) (th:=[]) (U.s5 _ _ _ _ ep) okl z0
   | rc okl=>exact K8 (w:=[]) (th:=[]) (U.s5 _ _ _ _ ep) okl z0
 | @join wd pl x y h hc =>
  subst h
  obtain ⟨h',ox,oy⟩:=M.inv2 rfl rfl
  have h':wd=T.w0/\pl=[]\/wd=T.w1/\pl=[1]:=h'
  ·obtain ⟨hs,hw,hn⟩:=two1 h'
   refine Mh (pl:=pl) rfl hn (pt2 hw) rfl h5 ?_
   have tx:=Gk (n:=0) I.th ox
   have ty:=Gk (n:=0) I.th oy
   rw [Vk]
   exact Zmv (w:=[]) (th:=[]) hs hw hc tx.row tx.num ty.num (by simp) z0
theorem Zhi (wd:Str) (pl:List Nat) (k:Nat) (a b:Str×V):(Ck wd pl k a b).2.length<=1:=by
 unfold Ck
 split
 ·exact Pn _
 ·exact Ph _
theorem G7 (k:Nat):ThOk (k + 1) (C1 k):=⟨fun _=>⟨k,rfl,by omega⟩,fun h=>absurd (show ("row" : Str) = "num" from h) (by decide +kernel),fun h=>absurd (show ("row" : Str) = "truth" from h) (by decide +kernel),rfl⟩
theorem Lo {wd:Str} {nv:V} {k:Nat} {pl:List Nat} {ar:List (Str×Str×V)} (ok:LeafOk wd nv) (ha:∀ y∈ar,ThOk k y.2):ThOk (k + (B1 wd nv k pl ar).2.length) (B1 wd nv k pl ar).1/\(∀ q∈(B1 wd nv k pl ar).2,¬ q.wd∈(["fn", "rec"]:List Str))/\(B1 wd nv k pl ar).2.length<=1:=by
 have hl:=Zg6 wd nv k pl ar
 refine ⟨?_,?_,hl⟩
 ·unfold B1
  by_cases h:wd∈(["num", "truth"]:List Str)
  ·rw [if_pos h]
   rcases ok with ⟨rfl,i,rfl⟩ | ⟨rfl,b,rfl⟩ | ⟨rfl,_⟩ | ⟨rfl,_⟩ | ⟨rfl,_⟩
   ·exact ⟨fun h=>absurd (show ("num" : Str) = "row" from h) (by decide +kernel),fun _=>⟨i,rfl⟩,fun h=>absurd (show ("num" : Str) = "truth" from h) (by decide +kernel),rfl⟩
   ·exact ⟨fun h=>absurd (show ("truth" : Str) = "row" from h) (by decide +kernel),fun h=>absurd (show ("truth" : Str) = "num" from h) (by decide +kernel),fun _=>⟨b,rfl⟩,rfl⟩
   all_goals exact absurd h (by decide +kernel)
  ·rw [if_neg h]
   cases e:Ep wd nv ar with
   | none=>exact G7 k
   | some t =>
    have:∃ y∈ar,y.2=t:=by
     unfold Ep at e
     split at e
     ·split at e
      ·unfold C4 at e
       rw [Rz] at e
       obtain ⟨y,e1,e2⟩:=e
       exact ⟨y,U1.mp (List.mem_of_find?_eq_some e1),e2⟩
      ·cases e
     ·cases e
    obtain ⟨y,h1,h2⟩:=this
    rw [<- h2]
    exact ha y h1
 ·intro q hq
  unfold B1 at hq
  split at hq
  ·exact nomatch hq
  ·split at hq
   ·exact nomatch hq
   ·rw [P8.mp hq]
    exact Hz ok
theorem two_nofn {wd:Str} (hw:wd∈B7\/wd = "call"):¬ wd∈(["fn", "rec"]:List Str):=by
 rcases hw with h | rfl
 ·unfold B7 at h
  simp only [Pm,P0,or_false] at h
  rcases h with rfl | rfl | rfl <;> decide +kernel
 ·decide +kernel
theorem O9 (n:Nat) (i:Int):ThOk n ("num",.int i):=⟨fun h=>absurd (show ("num" : Str) = "row" from h) (by decide +kernel),fun _=>⟨i,rfl⟩,fun h=>absurd (show ("num" : Str) = "truth" from h) (by decide +kernel),rfl⟩
theorem M9 (n:Nat) (b:Bool):ThOk n ("truth",.bl b):=⟨fun h=>absurd (show ("truth" : Str) = "row" from h) (by decide +kernel),fun h=>absurd (show ("truth" : Str) = "num" from h) (by decide +kernel),fun _=>⟨b,rfl⟩,rfl⟩
theorem Znq (wd:Str) (i j:Int) (n:Nat):ThOk n (Ff wd i j):=by
 unfold Ff
 repeat' split
 all_goals first | exact O9 _ _ | exact M9 _ _
theorem Zng {wd:Str} {pl:List Nat} {k:Nat} {x y:Str×V} (hw:wd∈B7\/wd = "call"):ThOk (k + (Ck wd pl k x y).2.length) (Ck wd pl k x y).1/\(∀ q∈(Ck wd pl k x y).2,¬ q.wd∈(["fn", "rec"]:List Str))/\(Ck wd pl k x y).2.length<=1:=by
 refine ⟨?_,?_,Zhi _ _ _ _ _⟩
 ·unfold Ck
  split
  ·exact Znq _ _ _ _
  ·exact G7 k
 ·intro q hq
  unfold Ck at hq
  split at hq
  ·cases hq
  ·rw [P8.mp hq]
   exact two_nofn hw
theorem Zld {t:Tr} {x y:Str×V} {z:Str×Str×V} (h:z∈Dl t x y):z.2=x\/z.2=y:=by
 cases t with
 | mk wd d ts =>
  have h:z∈(if wd = "rec" then (Dj wd d 0).zip [x,y] else (Dj wd d 0).zip [y]):=h
  split at h
  ·have:=(Tu h).2
   simpa using this
  ·have:=(Tu h).2
   exact .inr (P8.mp this)
theorem Ij {T:Tk} {fl:List Nat} {tw:Str} {tn:V} {bc:List (Str×V)} {rs nr:List Rx} {r:Rx} {x:Str×V} {m:Int} (TO:T.Ok) (ok:LeafOk tw tn) (I:Ef T rs bc) (M:MkR T bc.length r) (O:Du T fl (.mk tw (.flat tn) []) bc rs r x nr m):Ef T (rs++nr) (bc++[x])/\0<=m/\nr.length<=1:=by
 have key:ThOk (rs.length + nr.length) x/\(∀ q∈nr,q.wd∈(["fn", "rec"]:List Str)->q.wd=T.part.wd/\q.pl=Ap [1,1,1]/\q.ar=[])/\0<=m/\nr.length<=1:=by
  have lf:∀ {wd:Str} {nv:V} {pl:List Nat} {ar:List (Str×Str×V)},LeafOk wd nv->(∀ y∈ar,ThOk rs.length y.2)->ThOk (rs.length + (B1 wd nv rs.length pl ar).2.length) (B1 wd nv rs.length pl ar).1/\(∀ q∈(B1 wd nv rs.length pl ar).2,q.wd∈(["fn", "rec"]:List Str)->q.wd=T.part.wd/\q.pl=Ap [1,1,1]/\q.ar=[])/\(B1 wd nv rs.length pl ar).2.length<=1:=by
   intro wd nv pl ar o ha
   obtain ⟨a,b,c⟩:=Lo (pl:=pl) o ha
   exact ⟨a,fun q hq h=>absurd h (b q hq),c⟩
  have two2:∀ {wd:Str} {pl:List Nat},(wd=T.w0/\pl=[]\/wd=T.w1/\pl=[1])->wd∈B7\/wd = "call" := by
   rintro wd pl (⟨rfl,_⟩ | ⟨rfl,_⟩)
   ·exact TO.o0
   ·exact TO.o1
  have st0:∀ t:Tr,0<=stT t:=fun t=>(Nl _).1
  cases O with
  | fill h hp=>obtain ⟨a,b,c⟩:=lf (pl:=fl) (ar:=[]) ok (fun y hy=>(nomatch hy)); exact ⟨a,b,st0 _,c⟩
  | new hn h =>
   refine ⟨G7 _,fun q hq hw=>?_,R8 _,Ph _⟩
   rw [P8.mp hq] at hw ⊢
   cases M with
   | gap=>exact absurd (show ("gap" : Str)∈(["fn", "rec"]:List Str) from hw) (by decide +kernel)
   | fn=>exact ⟨rfl,rfl,rfl⟩
   | ifs=>exact absurd (show ("if" : Str)∈(["fn", "rec"]:List Str) from hw) (by decide +kernel)
   | two h' =>
    exact absurd hw (two_nofn (two2 h'))
  | @ift x b h hx =>
   cases b with
   | true =>
    rw [if_pos rfl]
    have hp:=TO.op
    generalize ep:T.part=pt at hp ⊢
    cases hp with
    | leaf okl =>
     obtain ⟨a,b,c⟩:=lf (pl:=[1,1]++[1]) (ar:=[]) okl (fun y hy=>(nomatch hy))
     exact ⟨a,fun q hq hw=>absurd hw ((Lo (pl:=[1,1]++[1]) (ar:=[]) okl (fun y hy=>(nomatch hy))).2.1 q hq),st0 _,c⟩
    | fn okl=>exact ⟨G7 _,fun q hq _=>by rw [P8.mp hq]; exact ⟨rfl,rfl,rfl⟩,st0 _,Ph _⟩
    | rc okl=>exact ⟨G7 _,fun q hq _=>by rw [P8.mp hq]; exact ⟨rfl,rfl,rfl⟩,st0 _,Ph _⟩
   | false=>obtain ⟨a,b,c⟩:=lf (pl:=[1,1]++[2]) (ar:=[]) TO.ol (fun y hy=>(nomatch hy)); exact ⟨a,b,st0 _,c⟩
  | @ifr x h hx=>exact ⟨G7 _,fun q hq hw=>by rw [P8.mp hq] at hw; exact absurd (show ("if" : Str)∈(["fn", "rec"]:List Str) from hw) (by decide +kernel),R8 _,Ph _⟩
  | @call pl x y k q h hx hq hf =>
   subst h
   obtain ⟨h',ox,oy⟩:=M.inv2 rfl rfl
   ·have tx:=Gk (n:=0) I.th ox
    have ty:=Gk (n:=0) I.th oy
    have pm:∀ t,∀ z∈Dl t (A4 bc x) (A4 bc y),ThOk rs.length z.2:=fun t z hz=>by
     rcases Zld hz with h | h <;> rw [h]
     ·exact tx
     ·exact ty
    have hp:=TO.op
    obtain ⟨g1,_⟩:=I.fn q (Qv hq) hf
    generalize ep:T.part=pt at hp g1 ⊢
    cases hp with
    | leaf okl=>rw [g1] at hf; exact absurd hf (Hz okl)
    | fn okl =>
     obtain ⟨a,b,c⟩:=Lo (pl:=[1,1,1,0]) (k:=rs.length) okl (pm _)
     exact ⟨a,fun q hq hw=>absurd hw (b q hq),st0 _,c⟩
    | rc okl =>
     obtain ⟨a,b,c⟩:=Lo (pl:=[1,1,1,0]) (k:=rs.length) okl (pm _)
     exact ⟨a,fun q hq hw=>absurd hw (b q hq),st0 _,c⟩
  | @join wd pl x y h hc =>
   subst h
   obtain ⟨h',ox,oy⟩:=M.inv2 rfl rfl
   have h':wd=T.w0/\pl=[]\/wd=T.w1/\pl=[1]:=h'
   ·obtain ⟨a,b,c⟩:=Zng (pl:=pl) (k:=rs.length) (x:=A4 bc x) (y:=A4 bc y) (two2 h')
    exact ⟨a,fun q hq hw=>absurd hw (b q hq),R8 _,c⟩
 refine ⟨⟨fun q hq hw=>?_,fun y hy=>?_⟩,key.2.2.1,key.2.2.2⟩
 ·rcases Rl.mp hq with h | h
  ·exact I.fn q h hw
  ·exact key.2.1 q h hw
 ·rw [Pi]
  rcases Rl.mp hy with h | h
  ·exact (I.th y h).mono (Tq _ _)
  ·rw [P8.mp h]; exact key.1
inductive DusC (T:Tk) (fl:List Nat) (tf:Tr):List Rx->List (Str×V)->List Rx->Int->List (Str×V)->List Rx->Int->Prop
 | nil {bc:List (Str×V)} {ro:List Rx} {st:Int}:DusC T fl tf [] bc ro st bc ro st
 | cons {r:Rx} {rs:List Rx} {bc bc':List (Str×V)} {ro nr ro':List Rx} {x:Str×V} {m st st':Int} (O:Du T fl tf bc ro r x nr m) (D:DusC T fl tf rs (bc++[x]) (ro++nr) (st + m) bc' ro' st'):DusC T fl tf (r :: rs) bc ro st bc' ro' st'
theorem DusC.snoc {T:Tk} {fl:List Nat} {tf:Tr} {rs:List Rx} {bc bc1:List (Str×V)} {ro ro1 nr:List Rx} {st st1 m:Int} {r:Rx} {x:Str×V} (D:DusC T fl tf rs bc ro st bc1 ro1 st1) (O:Du T fl tf bc1 ro1 r x nr m):DusC T fl tf (rs++[r]) bc ro st (bc1++[x]) (ro1++nr) (st1 + m):=by
 induction D with
 | nil=>exact .cons O .nil
 | cons O' _ ih=>exact .cons O' (ih O)
theorem MkR.ok {T:Tk} {n:Nat} {r:Rx} (M:MkR T n r):Kx n r:=by
 cases M with
 | gap=>exact ⟨fun y hy=>(nomatch hy),fun y hy=>(nomatch hy),Pn _,Pn _⟩
 | two h hx hy=>exact ⟨fun y hy'=>by
   rcases Pm.mp hy' with rfl | h
   ·exact hx.row
   ·rw [P8.mp h]; exact hy.row,fun y hy=>(nomatch hy),by show 2<=1000; decide,Pn _⟩
 | ifs hx=>exact ⟨fun y hy=>by rw [P8.mp hy]; exact hx.row,fun y hy=>(nomatch hy),by show 1<=1000; decide,Pn _⟩
 | fn=>exact ⟨fun y hy=>(nomatch hy),fun y hy=>(nomatch hy),Pn _,Pn _⟩
theorem Zn7 {sub:List Nat->Option (Str×Dt)} {T:Tk} {fl:List Nat} {tw:Str} {tn:V} (TO:T.Ok) (hf:fl∈([[0],[1,0],[1,1,0]]:List (List Nat))) (ok:LeafOk tw tn) (U:Zal sub T fl tw tn) {rs:List Rx} {bc bc':List (Str×V)} {ro ro':List Rx} {st st':Int} (D:DusC T fl (.mk tw (.flat tn) []) rs bc ro st bc' ro' st') :
  Ef T ro bc->(∀ j r,rs[j]?=some r->MkR T (bc.length + j) r)->ro.length + rs.length<=1000->st<=500->(∃ o,Fh sub fl rs bc ⟨ro,[],[],st⟩ o/\(st'<=500->o=some (bc',⟨ro',[],[],st'⟩))/\(500 < st'->o=none))/\Ef T ro' bc'/\st<=st'/\bc'.length=bc.length + rs.length/\ro'.length<=ro.length + rs.length:=by
 induction D with
 | nil=>exact fun I _ _ h5=>⟨⟨_,.nil,fun _=>rfl,fun h=>by omega⟩,I,R8 _,rfl,Ph _⟩
 | @cons r rs bc bc' ro nr ro' x m st st' O D ih =>
  intro I M hl h5
  have M0:=M 0 r rfl
  have M0:MkR T bc.length r:=M0
  obtain ⟨I1,m0,n1⟩:=Ij TO ok I M0 O
  have hl':ro.length + (rs.length + 1)<=1000:=hl
  obtain ⟨g,l⟩:=mach TO hf ok U I M0 (by omega) h5 O
  have le:st + m<=st'/\bc'.length=(bc++[x]).length + rs.length/\ro'.length<=(ro++nr).length + rs.length/\Ef T ro' bc'/\(st + m<=500->∃ o,Fh sub fl rs (bc++[x]) ⟨ro++nr,[],[],st + m⟩ o/\(st'<=500->o=some (bc',⟨ro',[],[],st'⟩))/\(500 < st'->o=none)):=by
   have M1:∀ j q,rs[j]?=some q->MkR T ((bc++[x]).length + j) q:=fun j q h=>by
    have:=M (j + 1) q h
    rw [Pi,Pr]
    rw [show bc.length + 1 + j=bc.length + (j + 1) by omega]
    exact this
   have hl2:(ro++nr).length + rs.length<=1000:=by rw [Pi]; omega
   by_cases h:st + m<=500
   ·obtain ⟨a,b,c,d,e⟩:=ih I1 M1 hl2 h
    exact ⟨c,d,e,b,fun _=>a⟩
   ·have:∀ {rs:List Rx} {bc bc':List (Str×V)} {ro ro':List Rx} {st st':Int},DusC T fl (.mk tw (.flat tn) []) rs bc ro st bc' ro' st'->Ef T ro bc->(∀ j r,rs[j]?=some r->MkR T (bc.length + j) r)->st<=st'/\bc'.length=bc.length + rs.length/\ro'.length<=ro.length + rs.length/\Ef T ro' bc':=by
     intro rs bc bc' ro ro' st st' D
     induction D with
     | nil=>exact fun I _=>⟨R8 _,rfl,Ph _,I⟩
     | @cons r rs bc bc' ro nr ro' x m st st' O D ih =>
      intro I M
      obtain ⟨I1,m0,n1⟩:=Ij TO ok I (M 0 r rfl) O
      obtain ⟨a,b,c,d⟩:=ih I1 (fun j q h=>by
       have:=M (j + 1) q h
       rw [Pi,Pr]
       rw [show bc.length + 1 + j=bc.length + (j + 1) by omega]
       exact this)
      rw [Pi] at c
      rw [Pi,Pr] at b
      exact ⟨by omega,by rw [P9]; omega,by rw [P9]; omega,d⟩
    obtain ⟨a,b,c,d⟩:=this D I1 M1
    exact ⟨a,b,c,d,fun z=>absurd z h⟩
  obtain ⟨le1,b,c,d,e⟩:=le
  rw [Pi,Pr] at b
  rw [Pi] at c
  refine ⟨?_,d,by omega,by rw [P9]; omega,by rw [P9]; omega⟩
  by_cases h:st + m<=500
  ·obtain ⟨o,g2,s,n⟩:=e h
   exact ⟨o,.cons (by show ro.length < 9000; omega) (by show 0 < 8000; decide) M0.ok (g h) g2,s,n⟩
  ·exact ⟨none,.late (by show ro.length < 9000; omega) (by show 0 < 8000; decide) M0.ok (l (by omega)),fun z=>by omega,fun _=>rfl⟩
end K52
namespace K52
open PySem L2
section
variable {P:Program} {w:World} {K:Pd} {mg:Str->Option Value} {base:Heap}
noncomputable def Zcs (K:Pd):Sp:=fun vs H Q _=>∃ (fv:V) (wd:Str) (d:Dt) (ts:List Tr) (p e r:Addr) (pl:List Nat) (rs:List Rx) (HZ:Hp),vs=[fv,.ref p,.ref e,.ref r]/\Same HZ H/\TrAt K H fv (.mk wd d ts)/\wd∈(["fn", "rec"]:List Str)/\H p=some (.tup (A1 pl))/\H e=some (.lst [])/\e≠r/\DueAt K HZ H r rs/\rs.length<=100 /\
 ∀ v H',SameR r H H'->DueAt K HZ H' r (rs++[⟨wd,Ap pl,[],[]⟩])->ThAt K H' v ("row",.int (rs.length:Nat))->Q v H'
theorem Zns {f:Addr} {fd:FuncData} (F:Fun K "_law_comes" "_law_comes" Ht f fd) (T:Txt K mg):FnOk P w K mg base Ar 1 f fd ["_law_form", "_law_place", "_law_around", "_law_rows"] (Zcs K):=by
 refine F.okq sc_law_comes (fun vs H Q E h=>?_) (fun cdv A outer s H vs Q E hr h=>?_)
 ·obtain ⟨fv,wd,d,ts,p,e,r,pl,rs,HZ,rfl,_⟩:=h
  rfl
 ·obtain ⟨fv,wd,d,ts,p,e,r,pl,rs,HZ,rfl,sZ,ht,hw,hp,he,ner,D,hl,q⟩:=h
  refine ⟨_,Ae (Fe (qv 0) (Dc K (n:=3) rfl (Bm (A9 (i:=4) sc_law_comes.nd rfl (Or.inl rfl)) (Bm (A9 (i:=5) sc_law_comes.nd rfl (Or.inl rfl)) (Bm (A9 (i:=6) sc_law_comes.nd rfl (Or.inl rfl)) (Di))))))
   (Ae (A0 (Ax (E7 K) (qv 4) (An (Aa As (Aa As Ab))) (by rfl)) (Ag (Au (An (Aa (qv 4) (Aa (qv 5) Ab))))) A6)
   (Ae (Dz Qp rfl (L8 K rfl T.reversed (Aa (qv 2) Ab)) (Dc K (n:=2) rfl (Bm (A9 (i:=7) sc_law_comes.nd rfl (Or.inl rfl)) (Bm (A9 (i:=8) sc_law_comes.nd rfl (Or.inl rfl)) (Di)))) (Ag (A0 (QW.qt (Da (Ax (Ba K hr.u200) (qv 4) As (Aw _)) (Dp (Ax (Ba K hr.u200) (qv 7) (qv 5) (Aw _))))) (Ag (Au (qv 8))) A6)))
   (Ae (A0 (Ax (Ba K hr.u200) (qv 4) As (Aw _)) (Ag (Be (Bw K Pt P4 P5 Bz (qv 3) (Aa (An (Aa (qv 4) (Aa (qv 1) (Aa (Bc Ab) (Aa (Dk (Gr K) (by rfl) T.list (by decide +kernel) (Aa (qv 2) Ab)) Ab))))) Ab)))) (Ag (Be (Bw K Pt P4 P5 Bz (qv 3) (Aa (An (Aa (qv 4) (Aa (qv 1) (Aa (Bc Ab) (Aa (Bc Ab) Ab))))) Ab)))))
   (Ag (Au (An (Aa As (Aa (Aj D8 (Bp (C6 K) (by rfl) T.len (by decide +kernel) (Aa (qv 3) Ab)) Ac) Ab)))))))),?_⟩
  have bg:=big
  have ok:¬ wd∈(["num", "truth"]:List Str)/\¬ wd = "name" /\ ¬ wd = "gap" := by
   simp only [Pm,P0,or_false] at hw
   rcases hw with rfl | rfl <;> exact ⟨by decide +kernel,by decide +kernel,by decide +kernel⟩
  cases ht with
  | @mk b pp _ nv' _ vs _ qb hn qpp hl2 hch =>
  walk_at "r"
  refine Db qb rfl ?_
  walk_at "r"
  refine ⟨A7,fun p1 h1=>?_⟩
  refine Ec (.inr (SqT.of Ad)) rfl rfl ?_
  have s1:Same H (upd H p1 (.tup [.str "num",.str "truth"])):=Same.upd h1
  rw [if_neg Po,show C9 (.str wd) [.str "num",.str "truth"]=decide (wd∈(["num", "truth"]:List Str)) from Et (ws:=["num", "truth"]),decide_eq_false ok.1]
  revert s1
  generalize upd H p1 (.tup [.str "num",.str "truth"])=H1
  intro s1
  walk_at "r"
  refine ⟨e,[],rfl,SqL.of (s1 _ _ he),?_⟩
  refine Lz (K:=K) (a:=e) (xs:=[]) (fun j σ' H'=>∃ v7 v8,σ'=[some (.ref b),some (.ref p),some (.ref e),some (.ref r),some (.str wd),some nv',some (.ref pp),v7,v8]/\H'=H1) ⟨none,none,rfl,rfl⟩ ?_ ?_ ?_
  ·rintro j σ' H' _ ⟨_,_,_,rfl⟩
   exact SqL.of (s1 _ _ he)
  ·rintro i y σ' H' hi hy
   exact nomatch hy
  ·rintro σ' H' ⟨v7,v8,rfl,rfl⟩
   obtain ⟨rv,er,ar⟩:=(D.same s1).ex
   have hrl:=ar.1
   walk_at "r"
   rw [A8,decide_eq_false ok.2.2]
   walk_at "r"
   refine Bj (SqL.of er) ?_
   walk_at "r"
   refine ⟨Bf,fun o ho=>?_⟩
   obtain ⟨H2,s2,e2,z9⟩:=Av ho (.lst [])
   rw [z9]
   walk_at "r"
   refine ⟨Bf,fun k hk=>?_⟩
   obtain ⟨H3,s3,e3,z9⟩:=Av hk (.lst [])
   rw [z9]
   walk_at "r"
   refine ⟨Dn,fun u hu=>?_⟩
   obtain ⟨H4,s4,e4,z9⟩:=Av hu (.tup [.str wd,.ref p,.ref o,.ref k])
   rw [z9]
   have s24:=s2.trans (s3.trans s4)
   have s04:=s1.trans s24
   have er4:=s24 _ _ er
   walk_at "r"
   refine Bt er4 (by omega) ?_
   have nor:=fr (sZ.trans s1) er ho
   have nkr:=fr (sZ.trans (s1.trans s2)) (s2 _ _ er) hk
   have D5:=DueAt.add (x:=⟨wd,Ap pl,[],[]⟩) er4 (ar.mono (RwX.same s24.a)) ⟨⟨u,p,o,k,[],[],rfl,SqT.of e4,by rw [B9]; exact SqT.of (s04 _ _ hp),s4 _ _ (s3 _ _ e2),.nil,s4 _ _ e3,.nil,nor,nkr⟩,u,p,o,k,rfl,SqT.of e4,by rw [B9]; exact s04 _ _ hp⟩
   have r5:SameR r H (upd H4 r (.lst (rv++[.ref u]))):=(s04.r r).trans SameR.upd
   have er5:upd H4 r (.lst (rv++[.ref u])) r=some (.lst (rv++[.ref u])):=Ad
   revert D5 r5 er5
   generalize upd H4 r (.lst (rv++[.ref u]))=H5
   intro D5 r5 er5
   walk_at "r"
   refine Cm (SqL.of er5) ?_
   walk_at "r"
   refine ⟨A7,fun t ht=>?_⟩
   have e6:(((rv++[V.ref u]).length:Nat):Int) - 1=((rs.length:Nat):Int):=by rw [Pi,Pr]; omega
   rw [e6]
   have s6:Same H5 (upd H5 t (.tup [.str "row",.int (rs.length:Nat)])):=Same.upd ht
   exact q _ _ (r5.trans (s6.r r)) (D5.same s6) ⟨rfl,t,rfl,SqT.of Ad⟩
noncomputable def Ly (K:Pd):Sp:=fun vs H Q E=>Zbx K vs H Q E\/Zcs K vs H Q E
noncomputable def Zb0 (K:Pd):Sp:=fun vs H Q _=>∃ (pv u1 u2:V) (tl r:Addr) (t:Tr) (x y:Str×V) (rs:List Rx) (HZ:Hp),vs=[pv,.ref tl,.ref r]/\Same HZ H/\TrAt K H pv t/\Dd t/\t.wd∈(["fn", "rec"]:List Str)/\SqL K H tl [u1,u2]/\ThAt K H u1 x/\ThAt K H u2 y/\DueAt K HZ H r rs/\rs.length<=100 /\
 ∀ v H',SameR r H H'->DueAt K HZ H' r (rs++(Dq (F4 t) rs.length [1,1,1,0] (Dl t x y)).2)->ThAt K H' v (Dq (F4 t) rs.length [1,1,1,0] (Dl t x y)).1->Q v H'
theorem N7:A2 ["_law_part_here", "_law_things", "_law_rows", "_law_pairs"] ["_law_part_here", "_law_things", "_law_rows"] (Az K9):=by walk_at "sc"
theorem Zoo {f:Addr} {fd:FuncData} (F:Fun K "_law_called" "_law_called" K9 f fd) (T:Txt K mg) (C__law_comes:Bb P w K mg base 1 "_law_comes" ["_law_form", "_law_place", "_law_around", "_law_rows"] (Ly K)):FnOk P w K mg base Ar 2 f fd ["_law_part_here", "_law_things", "_law_rows"] (Zb0 K):=by
 refine F.okq N7 (fun vs H Q E h=>?_) (fun cdv A outer s H vs Q E hr h=>?_)
 ·obtain ⟨pv,u1,u2,tl,r,t,x,y,rs,HZ,rfl,_⟩:=h
  rfl
 ·obtain ⟨pv,u1,u2,tl,r,t,x,y,rs,HZ,rfl,sZ,ht,op,hw,htl,tx,ty,D,hl,q⟩:=h
  refine ⟨_,Ae (Ay 3 N7 (Bc (Aa (An (Aa (Ah K (qv 0) Ac) (Aa (Ah K (qv 1) Ac) Ab))) Ab)))
   (Ae (A0 (Ax (Ba K hr.u200) (Ah K (qv 0) Ac) As (Aw _)) (Ag (Ay 3 N7 (Bc (Aa (An (Aa (Ah K (Ah K (qv 0) Ac) Ac) (Aa (Ah K (qv 1) Ac) Ab))) (Aa (An (Aa (Ah K (Ah K (qv 0) Ac) Ac) (Aa (Ah K (qv 1) Ac) Ab))) Ab))))) A6)
   (Ag (Au (A3 C__law_comes hr.m (Aa (Ah K (Ah K (qv 0) Ac) Ac) (Aa (An (He (xs:=[.int 1,.int 1,.int 1,.int 0]) rfl)) (Aa (qv 3) (Aa (qv 2) Ab)))))))),?_⟩
  have bg:=big
  obtain ⟨rv,er,_⟩:=D.ex
  cases op with
  | leaf ok=>exact absurd hw (Hz ok)
  | @fn x' wd nv ok =>
   cases ht with
   | @mk b pp _ nv' _ vs _ qb hn qpp hl2 hch =>
   obtain ⟨u0,rfl⟩:∃ u0,vs=[u0]:=by
    exact Hu hl2
   have t0:=hch 0 u0 _ rfl rfl
   have en:nv'=.str x':=by
    rcases hn with ⟨_,h⟩ | ⟨_,_,_,_,_,h⟩
    ·injection h with h; exact h.symm
    ·cases h
   subst en
   walk_at "r"
   refine Ak qb rfl ?_
   walk_at "r"
   refine Bd htl (Bh (j:=1) rfl) ?_
   walk_at "r"
   refine ⟨A7,fun p1 h1=>?_⟩
   obtain ⟨H1,s1,e1,z9⟩:=Av h1 (.tup [.str x',u2])
   rw [z9]
   have er2:=s1 _ _ er
   walk_at "r"
   refine ⟨Cw,fun p2 h2=>?_⟩
   have s2:Same H1 (upd H1 p2 (.lst [.ref p1])):=Same.upd h2
   have e2:upd H1 p2 (.lst [.ref p1]) p2=some (.lst [.ref p1]):=Ad
   have n2:p2≠r:=fun z=>by rw [z,er2] at h2; cases h2
   revert s2 e2
   generalize upd H1 p2 (.lst [.ref p1])=H2
   intro s2 e2
   have s02:=s1.trans s2
   walk_at "r"
   refine Ak (s02.tup qb) rfl ?_
   walk_at "r"
   rw [A8,decide_eq_false (by decide +kernel)]
   walk_at "r"
   refine Ak (s02.tup qb) rfl ?_
   walk_at "r"
   refine Ak (s02.tup qpp) rfl ?_
   have ap:Al (PrAt K H2) [.ref p1] (Dl (Tr.mk "fn" (.flat (.str x')) [.mk wd (.flat nv) []]) x y):=⟨rfl,fun j v x f1 f2=>by
    match j,f1,f2 with
    | 0,f1,f2=>cases f1; cases f2; exact ⟨p1,u2,rfl,SqT.of (s2 _ _ e1),ThAt.same s02.t _ _ ty⟩⟩
   walk_at "r"
   refine ⟨Dn,fun p9 h9=>?_⟩
   obtain ⟨H9,s9,e9,z9⟩:=Av h9 (.tup [.int 1,.int 1,.int 1,.int 0])
   rw [z9]
   have s09:=s02.trans s9
   walk_at "r"
   exact Or.inl ⟨u0,wd,nv,p9,p2,r,[1,1,1,0],rs,[.ref p1],Dl (Tr.mk "fn" (.flat (.str x')) [.mk wd (.flat nv) []]) x y,HZ,rfl,sZ.trans s09,t0.same s09,ok,e9,s9 _ _ e2,ap.mono (PrAt.same s9.t),n2,D.same s09,hl,fun v H' r' D' t'=>q v H' ((s09.r r).trans r') D' t'⟩
  | @rc f' x' wd nv ok =>
   cases ht with
   | @mk b pp _ nv' _ vs _ qb hn qpp hl2 hch =>
   obtain ⟨u0,rfl⟩:∃ u0,vs=[u0]:=by
    exact Hu hl2
   have t0:=hch 0 u0 _ rfl rfl
   obtain ⟨na,rfl,qn⟩:∃ na,nv'=.ref na/\SqT K H na [.str f',.str x']:=by
    rcases hn with ⟨_,h⟩ | ⟨na,ws,h1,h2,h3,h4⟩
    ·cases h
    ·injection h4 with h4
     obtain ⟨w1,w2,rfl⟩:=lz2 (vs:=ws) (by have:=congrArg Sz h4; rw [Pp] at this; exact this.symm)
     simp only [Qj,Vg,U6,Dt.flat.injEq,and_true] at h4
     obtain ⟨rfl,rfl⟩:=h4
     exact ⟨na,h1,h2⟩
   walk_at "r"
   refine Ak qb rfl ?_
   walk_at "r"
   refine Bd htl (Bh (j:=1) rfl) ?_
   walk_at "r"
   refine ⟨A7,fun p1 h1=>?_⟩
   obtain ⟨H1,s1,e1,z9⟩:=Av h1 (.tup [.ref na,u2])
   rw [z9]
   have er2:=s1 _ _ er
   walk_at "r"
   refine ⟨Cw,fun p2 h2=>?_⟩
   have s2:Same H1 (upd H1 p2 (.lst [.ref p1])):=Same.upd h2
   have e2:upd H1 p2 (.lst [.ref p1]) p2=some (.lst [.ref p1]):=Ad
   have n2:p2≠r:=fun z=>by rw [z,er2] at h2; cases h2
   revert s2 e2
   generalize upd H1 p2 (.lst [.ref p1])=H2
   intro s2 e2
   have s02:=s1.trans s2
   walk_at "r"
   refine Ak (s02.tup qb) rfl ?_
   walk_at "r"
   rw [A8,decide_eq_true (Eq.refl _)]
   walk_at "r"
   refine Ak (s02.tup qb) rfl ?_
   walk_at "r"
   refine Ak (s02.tup qn) rfl ?_
   walk_at "r"
   refine Bd (s02.seq htl) (Bh (j:=0) rfl) ?_
   walk_at "r"
   refine ⟨A7,fun p3 h3=>?_⟩
   obtain ⟨H3,s3,e3,z9⟩:=Av h3 (.tup [.str f',u1])
   rw [z9]
   have s03:=s02.trans s3
   walk_at "r"
   refine Ak (s03.tup qb) rfl ?_
   walk_at "r"
   refine Ak (s03.tup qn) rfl ?_
   walk_at "r"
   refine Bd (s03.seq htl) (Bh (j:=1) rfl) ?_
   walk_at "r"
   refine ⟨A7,fun p4 h4=>?_⟩
   obtain ⟨H4,s4,e4,z9⟩:=Av h4 (.tup [.str x',u2])
   rw [z9]
   have s04:=s03.trans s4
   have er5:=s04 _ _ er
   walk_at "r"
   refine ⟨A7,fun p5 h5=>?_⟩
   have s5:Same H4 (upd H4 p5 (.lst [.ref p3,.ref p4])):=Same.upd h5
   have e5:upd H4 p5 (.lst [.ref p3,.ref p4]) p5=some (.lst [.ref p3,.ref p4]):=Ad
   have n5:p5≠r:=fun z=>by rw [z,er5] at h5; cases h5
   revert s5 e5
   generalize upd H4 p5 (.lst [.ref p3,.ref p4])=H5
   intro s5 e5
   have s05:=s04.trans s5
   walk_at "r"
   refine Ak (s05.tup qb) rfl ?_
   walk_at "r"
   refine Ak (s05.tup qpp) rfl ?_
   have ap:Al (PrAt K H5) [.ref p3,.ref p4] (Dl (Tr.mk "rec" (.tup [.flat (.str f'),.flat (.str x')]) [.mk wd (.flat nv) []]) x y):=⟨rfl,fun j v x f1 f2=>by
    match j,f1,f2 with
    | 0,f1,f2=>cases f1; cases f2; exact ⟨p3,u1,rfl,SqT.of (s5 _ _ (s4 _ _ e3)),ThAt.same s05.t _ _ tx⟩
    | 1,f1,f2=>cases f1; cases f2; exact ⟨p4,u2,rfl,SqT.of (s5 _ _ e4),ThAt.same s05.t _ _ ty⟩⟩
   walk_at "r"
   refine ⟨Dn,fun p9 h9=>?_⟩
   obtain ⟨H9,s9,e9,z9⟩:=Av h9 (.tup [.int 1,.int 1,.int 1,.int 0])
   rw [z9]
   have s09:=s05.trans s9
   walk_at "r"
   exact Or.inl ⟨u0,wd,nv,p9,p5,r,[1,1,1,0],rs,[.ref p3,.ref p4],Dl (Tr.mk "rec" (.tup [.flat (.str f'),.flat (.str x')]) [.mk wd (.flat nv) []]) x y,HZ,rfl,sZ.trans s09,t0.same s09,ok,e9,s9 _ _ e5,ap.mono (PrAt.same s9.t),n5,D.same s09,hl,fun v H' r' D' t'=>q v H' ((s09.r r).trans r') D' t'⟩
noncomputable def O6 (K:Pd):Sp:=fun vs H Q _=>∃ (a:Int) (k:Nat),vs=[.int a,.int (k:Nat)]/\0<=a/\a < 2147483647/\∀ v H' x,Same H H'->ThAt K H' v x->ThOk k x->Q v H'
theorem Kg {t:TS} {X:St->Hp->Prop} {rt:VK} {bk ct:St->Hp->Prop} {σ:St} {H:Hp} (R:St->Hp->Prop) (h2:∀ σ' H',R σ' H'->X σ' H') (h1:∀ Y:St->Hp->Prop,(∀ σ' H',R σ' H'->Y σ' H')->t ⟨Y,rt,bk,ct⟩ σ H):t ⟨X,rt,bk,ct⟩ σ H:=h1 X h2
theorem Dv {x y:Int} {m n:Nat} (hx:x.natAbs < 2 ^ m) (hy:y.natAbs < 2 ^ n):(x * y).natAbs < 2 ^ (m + n):=by
 rw [Int.natAbs_mul,Nat.pow_add]
 exact Nat.mul_lt_mul'' hx hy
theorem Zaf:A2 ["_law_number_here", "_law_k", "_law_far"] ["_law_number_here", "_law_k"] (Az Ks):=by walk_at "sc"
theorem Zqr {f:Addr} {fd:FuncData} (F:Fun K "_law_thing" "_law_thing" Ks f fd) (T:Txt K mg):FnOk P w K mg base Ar 1 f fd ["_law_number_here", "_law_k"] (O6 K):=by
 refine F.okq Zaf (fun vs H Q E h=>?_) (fun cdv A outer s H vs Q E hr h=>?_)
 ·obtain ⟨a,k,rfl,_⟩:=h
  rfl
 ·obtain ⟨a,k,rfl,a0,a1,q⟩:=h
  refine ⟨_,Ae (A0 (QW.qt (Da (Ax Jy (qv 1) Ac (Aw _)) (Dp (Ax (Ei K hr.u200) (Aj Bq (qv 0) Ac) Ac (Aw _))))) (Ag (Au (An (Aa As (Aa (Aj Bq (Aj C8 (qv 0) Ac) (qv 1)) Ab))))) A6)
   (Ae (A0 (Ax Ia (Aj Bq (Aj C8 (qv 0) Ac) Ac) Ac (Aw _)) (Ag (Au (An (Aa As (Aa (C3 (Ba K hr.u200) (Aj Bq (Aj C8 (qv 0) Ac) Ac) Ac (Aw _)) Ab))))) A6)
   (Ae (Ay 2 Zaf Ac)
   (Ae (A0 (Ax (Ba K hr.u200) (Aj Bq (qv 0) Ac) Ac (Aw _)) (Ag (Ay 2 Zaf (Aj Nc Ac Ac))) A6)
   (Ag (Au (An (Aa As (Aa (Aj Mf (Aj Mf (Aj Mf (Aj Mf (Aj D8 (Aj Ex (qv 0) Ac) (Aj Nc Ac Ac)) (qv 2)) (qv 2)) (qv 2)) (qv 2)) Ab)))))))),?_⟩
  with_reducible refine s_seq ?_
  refine Kg (t:=F0 _ _ _) (R:=fun σ' H'=>σ'=[some (.int a),some (.int (k:Nat)),none]/\H'=H) ?_ (fun Y hY=>?_)
  rotate_left
  ·walk_at "r"
   refine B4 (fun hk=>?_) (fun hk=>?_)
   ·have hk:(0:Int) < (k:Nat):=of_decide_eq_true hk
    walk_at "r"
    refine B4 (fun _=>?_) (fun _=>?_)
    ·walk_at "r"
     refine s_rI hk ?_
     walk_at "r"
     refine ⟨A7,fun p hp=>?_⟩
     have b0:=Qq (a / 15) (show ((k:Nat):Int)≠0 by omega)
     have b1:=Qw (a / 15) hk
     refine q _ _ ("row",.int (a / 15 % (k:Nat))) (Same.upd hp) ⟨rfl,p,rfl,SqT.of Ad⟩ ⟨fun _=>⟨(a / 15 % (k:Nat)).toNat,by rw [Us b0],by omega⟩,fun h=>absurd (show ("row" : Str) = "num" from h) (by decide +kernel),fun h=>absurd (show ("row" : Str) = "truth" from h) (by decide +kernel),rfl⟩
    ·walk_at "r"
     exact hY _ _ ⟨rfl,rfl⟩
   ·walk_at "r"
    exact hY _ _ ⟨rfl,rfl⟩
  rintro _ _ ⟨rfl,rfl⟩
  walk_at "r"
  refine B4 (fun _=>?_) (fun _=>?_)
  ·walk_at "r"
   refine ⟨A7,fun p hp=>?_⟩
   exact q _ _ ("truth",_) (Same.upd hp) ⟨rfl,p,rfl,SqT.of Ad⟩ (M9 _ _)
  walk_at "r"
  have hb:(a * 2862933555777941757 - 10 ^ (27:Int).toNat).natAbs < 2 ^ 126:=by
   show (a * 2862933555777941757 - 10 ^ 27).natAbs < 2 ^ 126
   omega
  have f1:(1:Int).natAbs < 2 ^ 200:=by decide
  have f2:((10:Int) ^ (60:Int).toNat).natAbs < 2 ^ 200:=by decide +kernel
  refine B4 (fun _=>?_) (fun _=>?_)
  ·walk_at "r"
   refine Fn (m:=126) (n:=200) hb f2 (by decide) ?_
   walk_at "r"
   refine Fn (m:=326) (n:=200) (Dv hb f2) f2 (by decide) ?_
   walk_at "r"
   refine Fn (m:=526) (n:=200) (Dv (Dv hb f2) f2) f2 (by decide) ?_
   walk_at "r"
   refine Fn (m:=726) (n:=200) (Dv (Dv (Dv hb f2) f2) f2) f2 (by decide) ?_
   walk_at "r"
   refine ⟨A7,fun p hp=>?_⟩
   exact q _ _ ("num",_) (Same.upd hp) ⟨rfl,p,rfl,SqT.of Ad⟩ (O9 _ _)
  ·walk_at "r"
   refine Fn (m:=126) (n:=200) hb f1 (by decide) ?_
   walk_at "r"
   refine Fn (m:=326) (n:=200) (Dv hb f1) f1 (by decide) ?_
   walk_at "r"
   refine Fn (m:=526) (n:=200) (Dv (Dv hb f1) f1) f1 (by decide) ?_
   walk_at "r"
   refine Fn (m:=726) (n:=200) (Dv (Dv (Dv hb f1) f1) f1) f1 (by decide) ?_
   walk_at "r"
   refine ⟨A7,fun p hp=>?_⟩
   exact q _ _ ("num",_) (Same.upd hp) ⟨rfl,p,rfl,SqT.of Ad⟩ (O9 _ _)
noncomputable def Zcw (K:Pd):Sp:=fun vs H Q _=>∃ (rv pv lv gv:V) (r:Rx) (T:Tk) (fl:List Nat) (tf:Tr) (tl pp ro:Addr) (us:List V) (bc:List (Str×V)) (rs:List Rx) (HZ:Hp) (A:Addr->Prop),vs=[rv,.ref tl,.ref pp,.ref ro]/\Same HZ H/\RwX K A H rv r/\H tl=some (.lst us)/\HZ tl=none/\tl≠ro/\Al (ThAt K H) us (Ct bc r.ops)/\SqT K H pp [gv,pv,lv]/\TrAt K H pv T.part/\TrAt K H lv T.lf/\T.Ok/\Ef T rs bc/\MkR T bc.length r/\r.pl≠Ap fl/\DueAt K HZ H ro rs/\rs.length<=100 /\
 ∀ (u:V) (H':Hp) (ra:Addr) (x:Str×V) (nr:List Rx) (m:Int),SameR ro H H'->SqT K H' ra [u,.int m]->ThAt K H' u x->Du T fl tf bc rs r x nr m->DueAt K HZ H' ro (rs++nr)->Q (.ref ra) H'
theorem Oe (wd:Str):(if (!decide (wd = "gap"))=true then (1:Int) else 0)=Cn wd:=by
 unfold Cn
 by_cases h:wd = "gap"
 ·rw [decide_eq_true h,if_pos h]; rfl
 ·rw [decide_eq_false h,if_neg h]; rfl
theorem Zb4 {K:Pd} {H HZ:Hp} {fv:V} {t:Tr} {p e r:Addr} {pl:List Nat} {rs:List Rx} {Q:VK} {E:XK} (ok:Dd t) (sZ:Same HZ H) (ht:TrAt K H fv t) (hp:H p=some (.tup (A1 pl))) (he:H e=some (.lst [])) (ne:e≠r) (D:DueAt K HZ H r rs) (hl:rs.length<=100) (q:∀ v H',SameR r H H'->DueAt K HZ H' r (rs++(Dq t rs.length pl []).2)->ThAt K H' v (Dq t rs.length pl []).1->Q v H'):Ly K [fv,.ref p,.ref e,.ref r] H Q E:=by
 cases ok with
 | leaf ok=>exact .inl ⟨fv,_,_,p,e,r,pl,rs,[],[],HZ,rfl,sZ,ht,ok,hp,he,.nil,ne,D,hl,q⟩
 | fn ok=>exact .inr ⟨fv,_,_,_,p,e,r,pl,rs,HZ,rfl,sZ,ht,by decide +kernel,hp,he,ne,D,hl,q⟩
 | rc ok=>exact .inr ⟨fv,_,_,_,p,e,r,pl,rs,HZ,rfl,sZ,ht,by decide +kernel,hp,he,ne,D,hl,q⟩
theorem Zp2 {T:Tk} {n:Nat} {r:Rx} (TO:T.Ok) (M:MkR T n r):(r.ops=[]/\¬ r.wd = "if" /\ ¬ r.wd = "call" /\ (r.wd = "gap" \/ r.wd∈(["fn", "rec"]:List Str)))\/(∃ x,r=⟨"if",Ap [1,1],[x],[]⟩/\ThOk n x)\/∃ wd pl x y,r=⟨wd,Ap pl,[x,y],[]⟩/\(wd∈B7\/wd = "call")/\ThOk n x/\ThOk n y:=by
 cases M with
 | gap h=>exact .inl ⟨rfl,by show ¬ ("gap" : Str) = "if"; decide +kernel,by show ¬ ("gap" : Str) = "call"; decide +kernel,.inl rfl⟩
 | two h hx hy =>
  refine .inr (.inr ⟨_,_,_,_,rfl,?_,hx,hy⟩)
  rcases h with ⟨rfl,_⟩ | ⟨rfl,_⟩
  ·exact TO.o0
  ·exact TO.o1
 | ifs hx=>exact .inr (.inl ⟨_,rfl,hx⟩)
 | fn h =>
  refine .inl ⟨rfl,?_,?_,.inr h⟩ <;>
  ·intro z
   have z:T.part.wd=_:=z
   rw [z] at h
   exact absurd h (by decide +kernel)
theorem sc_law_over:A2 ["_law_row_here", "_law_things", "_law_parts", "_law_rows", "_law_word", "_law_spot", "_law_operands", "_law_around", "_law_at"] ["_law_row_here", "_law_things", "_law_parts", "_law_rows"] (Az Jm):=by walk_at "sc"
theorem Zot {f:Addr} {fd:FuncData} (F:Fun K "_law_over" "_law_over" Jm f fd) (T:Txt K mg) (C__law_comes:Bb P w K mg base 1 "_law_comes" ["_law_form", "_law_place", "_law_around", "_law_rows"] (Ly K)) (C__law_called:Bb P w K mg base 2 "_law_called" ["_law_part_here", "_law_things", "_law_rows"] (Zb0 K)) (C__law_joined:Bb P w K mg base 1 "_law_joined" ["_law_word", "_law_place", "_law_one", "_law_other", "_law_rows"] (Zdy K)):FnOk P w K mg base Ar 3 f fd ["_law_row_here", "_law_things", "_law_parts", "_law_rows"] (Zcw K):=by
 refine F.okq sc_law_over (fun vs H Q E h=>?_) (fun cdv A outer s H vs Q E hr h=>?_)
 ·obtain ⟨rv,pv,lv,gv,r,Tk,fl,tf,tl,pp,ro,us,bc,rs,HZ,A',rfl,_⟩:=h
  rfl
 ·obtain ⟨rv,pv,lv,gv,r,Tk,fl,tf,tl,pp,ro,us,bc,rs,HZ,A',rfl,sZ,xr,htl,nZt,ntr,alu,hpp,tp,tlf,TO,I,M,npl,D,hl,q⟩:=h
  refine ⟨_,Ae (Fe (qv 0) (Dc K (n:=4) rfl (Bm (A9 (i:=4) sc_law_over.nd rfl (Or.inl rfl)) (Bm (A9 (i:=5) sc_law_over.nd rfl (Or.inl rfl)) (Bm (A9 (i:=6) sc_law_over.nd rfl (Or.inl rfl)) (Bm (A9 (i:=7) sc_law_over.nd rfl (Or.inl rfl)) (Di)))))))
   (Ae (A0 (QW.qt (Da (Ax (Ba K hr.u200) (qv 4) As (Aw _)) (Dp (Ax (Ba K hr.u200) (Ah K (Ah K (qv 1) Ac) Ac) As (Aw _))))) (Ae (Ay 8 sc_law_over (Aj D8 Ac (Dk K3 (by rfl) T.int (by decide +kernel) (Aa (Ah K (Ah K (qv 1) Ac) Ac) Ab))))
   (Ag (Au (An (Aa (A3 C__law_comes hr.m (Aa (Ah K (qv 2) (qv 8)) (Aa (Aj (Ir K) (qv 5) (An (Aa (qv 8) Ab))) (Aa (Bc Ab) (Aa (qv 3) Ab))))) (Aa (Dk K3 (by rfl) T.int (by decide +kernel) (Aa (C3 (Ei K hr.u200) (Ah K (Ah K (qv 2) (qv 8)) Ac) As (Aw _)) Ab)) Ab)))))) A6)
   (Ae (A0 (QW.qt (Da (Ax (Ba K hr.u200) (qv 4) As (Aw _)) (Da (Ax (Ba K hr.u200) (Ah K (Ah K (qv 1) Ac) Ac) As (Aw _)) (Dp (Ax (E7 K) (Ah K (Ah K (qv 3) (Ah K (Ah K (qv 1) Ac) Ac)) Ac) (An (Aa As (Aa As Ab))) (by rfl)))))) (Ag (Au (An (Aa (A3 C__law_called hr.m (Aa (Ah K (qv 2) Ac) (Aa (qv 1) (Aa (qv 3) Ab)))) (Aa (Dk K3 (by rfl) T.int (by decide +kernel) (Aa (C3 (Ei K hr.u200) (Ah K (Ah K (Ah K (Ah K (qv 2) Ac) Ac) Ac) Ac) As (Aw _)) Ab)) Ab))))) A6)
   (Ae (A0 (Ax (Ba K hr.u200) (Bp (C6 K) (by rfl) T.len (by decide +kernel) (Aa (qv 1) Ab)) Ac (Aw _)) (Ag (Au (An (Aa (A3 C__law_joined hr.m (Aa (qv 4) (Aa (qv 5) (Aa (Ah K (qv 1) Ac) (Aa (Ah K (qv 1) Ac) (Aa (qv 3) Ab)))))) (Aa Ac Ab))))) A6)
   (Ae (Be (Bw K Pt P4 P5 Bz (qv 3) (Aa (An (Aa (qv 4) (Aa (qv 5) (Aa (qv 1) (Aa (Bc Ab) Ab))))) Ab)))
   (Ag (Au (An (Aa (An (Aa As (Aa (Aj D8 (Bp (C6 K) (by rfl) T.len (by decide +kernel) (Aa (qv 3) Ab)) Ac) Ab))) (Aa Ac Ab))))))))),?_⟩
  have bg:=big
  obtain ⟨_,a,p,o,e,rfl,qa,hp⟩:=xr
  obtain ⟨rw',er,alr⟩:=D.ex
  have hrl:=alr.1
  walk_at "r"
  refine Db qa rfl ?_
  walk_at "r"
  rcases Zp2 TO M with ⟨ho,n1,n2,hw⟩ | ⟨x,rfl,ox⟩ | ⟨wd,pl,x,y,rfl,hw,ox,oy⟩
  ·have hus:us=[]:=by
    have:=alu.1
    unfold Ct at this
    rw [ho] at this
    exact Qm this
   subst hus
   have alu:Al (ThAt K H) [] []:=.nil
   rw [A8,decide_eq_false n1]
   walk_at "r"
   rw [A8,decide_eq_false n2]
   walk_at "r"
   refine Cm (SqL.of htl) ?_
   walk_at "r"
   rw [decide_eq_false (by decide)]
   walk_at "r"
   refine Bj (SqL.of er) ?_
   walk_at "r"
   refine ⟨Bf,fun p1 h1=>?_⟩
   obtain ⟨H1,s1,e1,z9⟩:=Av h1 (.lst [])
   rw [z9]
   walk_at "r"
   refine ⟨Dn,fun p2 h2=>?_⟩
   obtain ⟨H2,s2,e2,z9⟩:=Av h2 (.tup [.str r.wd,.ref p,.ref tl,.ref p1])
   rw [z9]
   have s02:=s1.trans s2
   have er2:=s02 _ _ er
   walk_at "r"
   refine Bt er2 (by omega) ?_
   have ntl:¬ (tl=ro\/HZ tl≠none):=by
    rintro (z | z)
    ·exact ntr z
    ·exact z nZt
   have nor:=fr sZ er h1
   have D5:=DueAt.add (x:=⟨r.wd,r.pl,[],[]⟩) er2 (alr.mono (RwX.same s02.a)) ⟨⟨p2,p,tl,p1,[],[],rfl,SqT.of e2,SqT.of (s02 _ _ hp),s02 _ _ htl,alu.mono (ThAt.same s02.t),s2 _ _ e1,.nil,ntl,nor⟩,p2,p,tl,p1,rfl,SqT.of e2,s02 _ _ hp⟩
   have r5:SameR ro H (upd H2 ro (.lst (rw'++[.ref p2]))):=(s02.r ro).trans SameR.upd
   have er5:upd H2 ro (.lst (rw'++[.ref p2])) ro=some (.lst (rw'++[.ref p2])):=Ad
   revert D5 r5 er5
   generalize upd H2 ro (.lst (rw'++[.ref p2]))=H5
   intro D5 r5 er5
   walk_at "r"
   refine Cm (SqL.of er5) ?_
   have e66:(((rw'++[V.ref p2]).length:Nat):Int) - 1=((rs.length:Nat):Int):=by rw [Pi,Pr]; omega
   walk_at "r"
   rw [e66]
   walk_at "r"
   refine ⟨A7,fun p6 h6=>?_⟩
   obtain ⟨H6,s6,e6,z9⟩:=Av h6 (.tup [.str "row",.int (rs.length:Nat)])
   rw [z9]
   walk_at "r"
   refine ⟨A7,fun p7 h7=>?_⟩
   obtain ⟨H7,s7,e7,z9⟩:=Av h7 (.tup [.ref p6,.int 0])
   rw [z9]
   have s67:=s6.trans s7
   exact q _ _ _ _ _ _ (r5.trans (s67.r ro)) (SqT.of e7) ⟨rfl,p6,rfl,SqT.of (s7 _ _ e6)⟩ (.new npl hw) (D5.same s67)
  ·obtain ⟨u1,rfl⟩:∃ u1,us=[u1]:=by
    have hl:=alu.1
    exact Hu hl
   have tx:ThAt K H u1 (A4 bc x):=alu.2 0 u1 _ rfl rfl
   have okx:=Gk (n:=0) I.th ox
   obtain ⟨hfx,ax,rfl,qx⟩:=tx
   have hp:H p=some (.tup (A1 [1,1])):=hp
   rw [A8,decide_eq_true (Eq.refl _)]
   walk_at "r"
   refine Bd (SqL.of htl) (Bh (j:=0) rfl) ?_
   walk_at "r"
   refine Ak qx rfl ?_
   walk_at "r"
   rw [A8]
   by_cases ht:(A4 bc x).1 = "truth"
   ·obtain ⟨b,eb⟩:=okx.tru ht
    rw [decide_eq_true ht]
    walk_at "r"
    refine Bd (SqL.of htl) (Bh (j:=0) rfl) ?_
    walk_at "r"
    refine Ak qx rfl ?_
    rw [eb]
    walk_at "r"
    have hat:(2 - if b=true then (1:Int) else 0)=(((if b then 1 else 2:Nat):Nat):Int):=by cases b <;> rfl
    rw [hat]
    have hu:[gv,pv,lv][(if b then 1 else 2:Nat)]?=some (if b then pv else lv):=by cases b <;> rfl
    have tu:TrAt K H (if b then pv else lv) (if b then Tk.part else Tk.lf):=by
     cases b
     ·exact tlf
     ·exact tp
    have pu:Dd (if b then Tk.part else Tk.lf):=by
     cases b
     ·exact .leaf TO.ol
     ·exact TO.op
    have ov:A4 bc x=tr b:=Prod.ext ht eb
    generalize hU:(if b then pv else lv)=uu at hu tu
    refine Ak hpp (Bh hu) ?_
    walk_at "r"
    refine ⟨Cw,fun p1 h1=>?_⟩
    obtain ⟨H1,s1,e1,z9⟩:=Av h1 (.tup [.int ((if b then 1 else 2:Nat):Nat)])
    rw [z9]
    refine Ma (s1 _ _ hp) e1 Bv fun p2 H2 s2 e2=>?_
    have e2:H2 p2=some (.tup (A1 ([1,1]++[if b then 1 else 2]))):=e2
    walk_at "r"
    refine ⟨Bf,fun p3 h3=>?_⟩
    obtain ⟨H3,s3,e3,z9⟩:=Av h3 (.lst [])
    rw [z9]
    have s03:=(s1.trans s2).trans s3
    have n3:p3≠ro:=fun z=>by rw [z,(s1.trans s2) _ _ er] at h3; cases h3
    walk_at "r"
    refine Zb4 pu (sZ.trans s03) (tu.same s03) (s3 _ _ e2) e3 n3 (D.same s03) hl fun v H4 r4 D4 t4=>?_
    have r04:=(s03.r ro).trans r4
    have t04:=(r04.a er).1
    obtain ⟨c,nv,pq,rfl,qc⟩:∃ c nv pq,uu=.ref c/\SqT K H c [.str (if b then Tk.part else Tk.lf).wd,nv,.ref pq]:=by
     generalize (if b then Tk.part else Tk.lf)=tt at tu
     cases tu with
     | mk qm _ _ _ _=>exact ⟨_,_,_,rfl,qm⟩
    walk_at "r"
    refine Ak (t04.tup hpp) (Bh hu) ?_
    walk_at "r"
    refine Ak (t04.tup qc) rfl ?_
    walk_at "r"
    rw [A8,Oe]
    refine ⟨A7,fun p5 h5=>?_⟩
    have s5:=Same.upd (o:=.tup [v,.int (Cn (if b then Tk.part else Tk.lf).wd)]) h5
    exact q _ _ _ _ _ _ (r04.trans (s5.r ro)) (SqT.of Ad) (ThAt.same s5.t _ _ t4) (.ift (b:=b) rfl ov) (D4.same s5)
   ·rw [decide_eq_false ht]
    walk_at "r"
    rw [A8,decide_eq_false (show ¬ ("if" : Str) = "call" by decide +kernel)]
    walk_at "r"
    refine Cm (SqL.of htl) ?_
    walk_at "r"
    rw [decide_eq_false (show ¬ V.int (([V.ref ax].length:Nat):Int)=V.int 2 by show ¬ V.int ((1:Nat):Int)=V.int 2; decide)]
    walk_at "r"
    refine Bj (SqL.of er) ?_
    walk_at "r"
    refine ⟨Bf,fun p1 h1=>?_⟩
    obtain ⟨H1,s1,e1,z9⟩:=Av h1 (.lst [])
    rw [z9]
    walk_at "r"
    refine ⟨Dn,fun p2 h2=>?_⟩
    obtain ⟨H2,s2,e2,z9⟩:=Av h2 (.tup [.str "if",.ref p,.ref tl,.ref p1])
    rw [z9]
    have s02:=s1.trans s2
    have er2:=s02 _ _ er
    walk_at "r"
    refine Bt er2 (by omega) ?_
    have ntl:¬ (tl=ro\/HZ tl≠none):=by
     rintro (z | z)
     ·exact ntr z
     ·exact z nZt
    have nor:=fr sZ er h1
    have D5:=DueAt.add (x:=⟨"if",Ap [1,1],[A4 bc x],[]⟩) er2 (alr.mono (RwX.same s02.a)) ⟨⟨p2,p,tl,p1,[.ref ax],[],rfl,SqT.of e2,SqT.of (s02 _ _ hp),s02 _ _ htl,alu.mono (ThAt.same s02.t),s2 _ _ e1,.nil,ntl,nor⟩,p2,p,tl,p1,rfl,SqT.of e2,s02 _ _ hp⟩
    have r5:SameR ro H (upd H2 ro (.lst (rw'++[.ref p2]))):=(s02.r ro).trans SameR.upd
    have er5:upd H2 ro (.lst (rw'++[.ref p2])) ro=some (.lst (rw'++[.ref p2])):=Ad
    revert D5 r5 er5
    generalize upd H2 ro (.lst (rw'++[.ref p2]))=H5
    intro D5 r5 er5
    walk_at "r"
    refine Cm (SqL.of er5) ?_
    have e66:(((rw'++[V.ref p2]).length:Nat):Int) - 1=((rs.length:Nat):Int):=by rw [Pi,Pr]; omega
    walk_at "r"
    rw [e66]
    walk_at "r"
    refine ⟨A7,fun p6 h6=>?_⟩
    obtain ⟨H6,s6,e6,z9⟩:=Av h6 (.tup [.str "row",.int (rs.length:Nat)])
    rw [z9]
    walk_at "r"
    refine ⟨A7,fun p7 h7=>?_⟩
    obtain ⟨H7,s7,e7,z9⟩:=Av h7 (.tup [.ref p6,.int 0])
    rw [z9]
    have s67:=s6.trans s7
    exact q _ _ _ _ _ _ (r5.trans (s67.r ro)) (SqT.of e7) ⟨rfl,p6,rfl,SqT.of (s7 _ _ e6)⟩ (.ifr rfl ht) (D5.same s67)
  ·have hif:¬ wd = "if" := by
    rcases hw with h | h
    ·intro z; rw [z] at h; exact absurd h (by decide +kernel)
    ·rw [h]; decide +kernel
   rw [A8,decide_eq_false hif]
   refine iteF ?_
   refine iteF ?_
   have okx:=Gk (n:=0) I.th ox
   have oky:=Gk (n:=0) I.th oy
   obtain ⟨u1,u2,rfl⟩:∃ u1 u2,us=[u1,u2]:=by
    have hl:=alu.1
    exact lz2 hl
   have tx:ThAt K H u1 (A4 bc x):=alu.2 0 u1 _ rfl rfl
   have ty:ThAt K H u2 (A4 bc y):=alu.2 1 u2 _ rfl rfl
   have hp:H p=some (.tup (A1 pl)):=by rw [<- B9]; exact hp
   with_reducible refine s_next ?_
   with_reducible refine s_seq ?_
   refine Kg (t:=F0 _ _ _) (R:=fun σ' H'=>σ'=[some (.ref a),some (.ref tl),some (.ref pp),some (.ref ro),some (.str wd),some (.ref p),some (.ref o),some (.ref e),none]/\Same H H'/\(wd = "call" -> Cy rs (A4 bc x)=false)) ?_ (fun Y hY=>?_)
   rotate_left
   ·obtain ⟨hfx,ax,rfl,qx⟩:=tx
    walk_at "r"
    rw [A8]
    by_cases hc:wd = "call"
    ·rw [decide_eq_true hc]
     walk_at "r"
     refine Bd (SqL.of htl) (Bh (j:=0) rfl) ?_
     walk_at "r"
     refine Ak qx rfl ?_
     walk_at "r"
     rw [A8]
     by_cases hrw:(A4 bc x).1 = "row"
     ·obtain ⟨k,ek,hk⟩:=okx.row hrw
      have hxk:A4 bc x=C1 k:=Prod.ext hrw ek
      have hkr:k < rw'.length:=by rw [alr.1]; exact hk
      obtain ⟨q',hq',⟨_,aq,pq,oq,eq,erq,qq,_⟩⟩:=alr.get (Pg hkr)
      rw [decide_eq_true hrw]
      walk_at "r"
      refine Bd (SqL.of htl) (Bh (j:=0) rfl) ?_
      walk_at "r"
      refine Ak qx rfl ?_
      rw [ek]
      refine Bd (SqL.of er) (Bh ((Pg hkr).trans (congrArg some erq))) ?_
      walk_at "r"
      refine Ak qq rfl ?_
      walk_at "r"
      refine ⟨A7,fun p1 h1=>?_⟩
      refine Ec (.inr (SqT.of Ad)) rfl rfl ?_
      have s1:Same H (upd H p1 (.tup [.str "fn",.str "rec"])):=Same.upd h1
      rw [if_neg Po,show C9 (.str q'.wd) [.str "fn",.str "rec"]=decide (q'.wd∈(["fn", "rec"]:List Str)) from Et (ws:=["fn", "rec"])]
      revert s1
      generalize upd H p1 (.tup [.str "fn",.str "rec"])=H1
      intro s1
      walk_at "r"
      by_cases hf:q'.wd∈(["fn", "rec"]:List Str)
      ·rw [decide_eq_true hf]
       have hfw:Tk.part.wd∈(["fn", "rec"]:List Str):=(I.fn q' (Qv hq') hf).1 ▸ hf
       obtain ⟨c,nv,pp2,u0,c2,nv2,pp3,rfl,qc,qp2,rfl,qc2⟩:∃ c nv pp2 u0 c2 nv2 pp3,pv=.ref c/\SqT K H c [.str Tk.part.wd,nv,.ref pp2]/\SqT K H pp2 [u0]/\u0=.ref c2/\SqT K H c2 [.str (F4 Tk.part).wd,nv2,.ref pp3]:=by
        have op:=TO.op
        generalize Tk.part=tt at tp op hfw
        cases op with
        | leaf ok=>exact absurd hfw (Hz ok)
        | fn ok =>
         cases tp with
         | @mk _ _ _ _ _ vs _ qm _ qpm hlm hcm =>
          obtain ⟨u0,rfl⟩:=Hu (vs:=vs) hlm
          have t0:=hcm 0 u0 _ rfl rfl
          cases t0 with
          | mk qn _ _ _ _=>exact ⟨_,_,_,_,_,_,_,rfl,qm,qpm,rfl,qn⟩
        | rc ok =>
         cases tp with
         | @mk _ _ _ _ _ vs _ qm _ qpm hlm hcm =>
          obtain ⟨u0,rfl⟩:=Hu (vs:=vs) hlm
          have t0:=hcm 0 u0 _ rfl rfl
          cases t0 with
          | mk qn _ _ _ _=>exact ⟨_,_,_,_,_,_,_,rfl,qm,qpm,rfl,qn⟩
       walk_at "r"
       refine Ak (s1.tup hpp) rfl ?_
       walk_at "r"
       refine ⟨.ref c,.ref ax,u2,tl,ro,Tk.part,A4 bc x,A4 bc y,rs,HZ,rfl,sZ.trans s1,tp.same s1,TO.op,hfw,SqL.of (s1 _ _ htl),⟨hfx,ax,rfl,s1.tup qx⟩,ThAt.same s1.t _ _ ty,D.same s1,hl,fun v H4 r4 D4 t4=>?_⟩
       have r04:=(s1.r ro).trans r4
       have t04:=(r04.a er).1
       walk_at "r"
       refine Ak (t04.tup hpp) rfl ?_
       walk_at "r"
       refine Ak (t04.tup qc) rfl ?_
       walk_at "r"
       refine Ak (t04.tup qp2) rfl ?_
       walk_at "r"
       refine Ak (t04.tup qc2) rfl ?_
       walk_at "r"
       rw [A8,Oe]
       refine ⟨A7,fun p5 h5=>?_⟩
       have s5:=Same.upd (o:=.tup [v,.int (Cn (F4 Tk.part).wd)]) h5
       subst hc
       exact q _ _ _ _ _ _ (r04.trans (s5.r ro)) (SqT.of Ad) (ThAt.same s5.t _ _ t4) (.call rfl hxk hq' hf) (D4.same s5)
      ·rw [decide_eq_false hf]
       walk_at "r"
       refine hY _ _ ⟨rfl,s1,fun _=>?_⟩
       rw [hxk]
       show (decide (("row" : Str) = "row") && (match rs[((k:Nat):Int).toNat]? with | some r=>decide (r.wd∈(["fn", "rec"]:List Str)) | none=>false))=false
       rw [Q7,hq']
       simp only [decide_eq_false hf,Bool.and_false]
     ·rw [decide_eq_false hrw]
      walk_at "r"
      refine hY _ _ ⟨rfl,Same.refl _,fun _=>?_⟩
      unfold Cy
      split
      ·rename_i w0 k0 e0
       rw [e0] at hrw
       rw [decide_eq_false (show ¬ w0 = "row" from hrw)]
       rfl
      ·rfl
    ·rw [decide_eq_false hc]
     walk_at "r"
     exact hY _ _ ⟨rfl,Same.refl _,fun z=>absurd z hc⟩
   rintro _ H2 ⟨rfl,s2,hfn⟩
   walk_at "r"
   refine Cm (SqL.of (s2 _ _ htl)) ?_
   walk_at "r"
   rw [decide_eq_true (show V.int (([u1,u2].length:Nat):Int)=V.int 2 from rfl)]
   walk_at "r"
   refine Bd (SqL.of (s2 _ _ htl)) (Bh (j:=0) rfl) ?_
   walk_at "r"
   refine Bd (SqL.of (s2 _ _ htl)) (Bh (j:=1) rfl) ?_
   walk_at "r"
   refine ⟨wd,p,ro,u1,u2,A4 bc x,A4 bc y,pl,rs,HZ,rfl,sZ.trans s2,hw,s2 _ _ hp,ThAt.same s2.t _ _ tx,ThAt.same s2.t _ _ ty,okx.num,oky.num,D.same s2,hl,fun v H4 r4 D4 t4=>?_⟩
   walk_at "r"
   refine ⟨A7,fun p5 h5=>?_⟩
   have s5:=Same.upd (o:=.tup [v,.int 0]) h5
   exact q _ _ _ _ _ _ (((s2.r ro).trans r4).trans (s5.r ro)) (SqT.of Ad) (ThAt.same s5.t _ _ t4) (.join rfl hfn) (D4.same s5)
open K19 in
noncomputable def Zf5 (K:Pd):Sp:=fun vs H Q _=>∃ (pv lv gv fv av:V) (T:Tk) (pp q0 p rd:Addr) (fl:List Nat) (tw:Str) (tn:V) (n:Int) (rv:List V) (rs:List Rx) (xa:Str×V),vs=[.ref pp,.ref q0,.ref p,fv]/\SqT K H pp [gv,pv,lv]/\TrAt K H pv T.part/\TrAt K H lv T.lf/\T.Ok/\H p=some (.tup (A1 fl))/\fl∈([[0],[1,0],[1,1,0]]:List (List Nat))/\TrAt K H fv (.mk tw (.flat tn) [])/\LeafOk tw tn/\SqT K H q0 [av,.ref rd,.int n]/\H rd=some (.lst rv)/\Al (RwX K (fun b=>b=rd) H) rv rs/\(∀ j r,rs[j]?=some r->MkR T j r)/\rs.length<=60/\ThAt K H av xa/\ThOk rs.length xa /\
 ∀ (r' ro:Addr) (av':V) (bc:List (Str×V)) (nro:List Rx) (st:Int) (H':Hp),Same H H'->SqT K H' r' [av',.ref ro,.int st]->ThAt K H' av' (A4 bc xa)->DueAt K H H' ro nro->DusC T fl (.mk tw (.flat tn) []) rs [] [] n bc nro st->Q (.ref r') H'
theorem Iw {K:Pd} {HZ HZ' H:Hp} {r:Addr} {rs:List Rx} (h:DueAt K HZ H r rs) (d:∀ c,HZ' c≠none->HZ c≠none):DueAt K HZ' H r rs:=by
 obtain ⟨rv,h1,h2⟩:=h.ex
 exact ⟨rv,h1,h2.mono (RwX.mono fun c hc _=>hc.imp id (d c))⟩
theorem Ol {K:Pd} {HZ H:Hp} {r b:Addr} {rs:List Rx} {bv xs:List V} (h:DueAt K HZ H r rs) (hb:H b=some (.lst bv)) (hz:HZ b≠none) (n:b≠r):DueAt K HZ (upd H b (.lst xs)) r rs:=by
 obtain ⟨rv,h1,h2⟩:=h.ex
 exact ⟨rv,(Af (Ps n)).trans h1,h2.mono (RwX.same (SameA.set hb (.inr hz)))⟩
theorem Lw {H:Hp} {b c:Addr} {o o':HO} (h:upd H b o c≠none):upd H b o' c≠none:=by
 by_cases e:c=b
 ·rw [e,Ad]; simp
 ·rw [Af e] at h ⊢; exact h
theorem Ziz {H:Hp} {b c:Addr} {o:HO} (h:H c≠none):upd H b o c≠none:=by
 by_cases e:c=b
 ·rw [e,Ad]; simp
 ·rw [Af e]; exact h
theorem Zeb {T:Tk} {n:Nat} {r:Rx} {fl:List Nat} (M:MkR T n r) (hf:fl∈([[0],[1,0],[1,1,0]]:List (List Nat))) (h:¬ (r.wd = "gap" /\ r.pl=Ap fl)):r.pl≠Ap fl:=by
 cases M with
 | gap=>exact fun z=>h ⟨rfl,z⟩
 | two h'=>rcases h' with ⟨_,rfl⟩ | ⟨_,rfl⟩ <;> exact Go hf (by simp)
 | ifs=>exact Go hf (by simp)
 | fn=>exact Go hf (by simp)
theorem Zqd:(["_law_thing_here", "_law_become"]:List Str).Nodup:=by decide +kernel
theorem sc_law_due:A2 ["_law_parts", "_law_record", "_law_place", "_law_form", "_law_steps", "_law_rows", "_law_become", "_law_row_here", "_law_things", "_law_thing_here", "_law_more"] ["_law_parts", "_law_record", "_law_place", "_law_form"] (Az Kc):=by walk_at "sc"
theorem Zo7 {f:Addr} {fd:FuncData} (F:Fun K "_law_due" "_law_due" Kc f fd) (T:Txt K mg) (C__law_now:Bb P w K mg base 1 "_law_now" ["_law_thing_here", "_law_become"] (Jq K)) (C__law_comes:Bb P w K mg base 1 "_law_comes" ["_law_form", "_law_place", "_law_around", "_law_rows"] (Ly K)) (C__law_over:Bb P w K mg base 3 "_law_over" ["_law_row_here", "_law_things", "_law_parts", "_law_rows"] (Zcw K)):FnOk P w K mg base Ar 4 f fd ["_law_parts", "_law_record", "_law_place", "_law_form"] (Zf5 K):=by
 refine F.okq sc_law_due (fun vs H Q E h=>?_) (fun cdv A outer s H vs Q E hr h=>?_)
 ·obtain ⟨pv,lv,gv,fv,av,Tk,pp,q0,p,rd,fl,tw,tn,n,rv,rs,xa,rfl,_⟩:=h
  rfl
 ·obtain ⟨pv,lv,gv,fv,av,Tk,pp,q0,p,rd,fl,tw,tn,n,rv,rs,xa,rfl,hpp,tp,tlf,TO,hp,hfl,tf,okf,hq0,hrd,alr,M,h60,hav,oka,q⟩:=h
  refine ⟨_,Ae (Ay 4 sc_law_due (Ah K (qv 1) Ac))
   (Ae (Ay 5 sc_law_due (Bc Ab))
   (Ae (Zfz (i:=6) sc_law_due.nd rfl (Or.inr rfl) (Bc Ab))
   (Ae (Dz Qp rfl (Eo K (Ah K (qv 1) Ac)) (A9 (i:=7) sc_law_due.nd rfl (Or.inl rfl)) (Ae (M8 (i:=8) (N:=["_law_thing_here", "_law_become"]) (σ0:=Eh 1 [6]) rfl (Ga rfl (by decide +kernel) (by decide +kernel) (by decide +kernel)) (Eo K (Ah K (qv 7) Ac)) (Gj rfl (by rfl)) (fun _ _ _ _=>A9 (i:=0) Zqd rfl (Or.inl rfl)) (fun _ _ _ _=>Gu) (fun _ _ _ _=>A3 C__law_now hr.m (Aa (qv 0) (Aa (qv 1) Ab))) sc_law_due.nd rfl (Or.inl rfl))
   (Ag (A0 (QW.qt (Da (Ax (N8 K hr.u200) (Ah K (qv 7) Ac) As (Aw _)) (Dp (Ax (N8 K hr.u200) (Ah K (qv 7) Ac) (qv 2) (Aw _))))) (Ae (Be (Bw K Pt P4 P5 Bz (qv 6) (Aa (A3 C__law_comes hr.m (Aa (qv 3) (Aa (qv 2) (Aa (Bc Ab) (Aa (qv 5) Ab))))) Ab)))
   (Ag (Ay 4 sc_law_due (Aj (Cg K) (qv 4) (Dk K3 (by rfl) T.int (by decide +kernel) (Aa (C3 (Ei K hr.u200) (Ah K (qv 3) Ac) As (Aw _)) Ab)))))) (Ae (Fe (A3 C__law_over hr.m (Aa (qv 7) (Aa (qv 8) (Aa (qv 0) (Aa (qv 5) Ab))))) (Dc K (n:=2) rfl (Bm (A9 (i:=9) sc_law_due.nd rfl (Or.inl rfl)) (Bm (A9 (i:=10) sc_law_due.nd rfl (Or.inl rfl)) (Di)))))
   (Ae (Be (Bw K Pt P4 P5 Bz (qv 6) (Aa (qv 9) Ab)))
   (Ag (Ay 4 sc_law_due (Aj (Cg K) (qv 4) (qv 10))))))))))
   (Ag (Au (An (Aa (A3 C__law_now hr.m (Aa (Ah K (qv 1) Ac) (Aa (qv 6) Ab))) (Aa (qv 5) (Aa (qv 4) Ab))))))))),?_⟩
  have bg:=big
  have hrl:=alr.1
  walk_at "r"
  refine Ak hq0 rfl ?_
  walk_at "r"
  refine ⟨Bf,fun ro hro=>?_⟩
  obtain ⟨H1,s1,e1,z9⟩:=Av hro (.lst [])
  rw [z9]
  walk_at "r"
  refine ⟨Bf,fun b hb=>?_⟩
  have s2:Same H1 (upd H1 b (.lst [])):=Same.upd hb
  have e2:upd H1 b (.lst []) b=some (.lst []):=Ad
  have nbr:b≠ro:=fun z=>by rw [z,e1] at hb; cases hb
  have hbH:H b=none:=s1.free hb
  revert s2 e2
  generalize upd H1 b (.lst [])=H2
  intro s2 e2
  have s02:=s1.trans s2
  walk_at "r"
  refine Ak (s02.tup hq0) rfl ?_
  refine .inl ⟨rd,rfl,⟨_,SqL.of (s02 _ _ hrd)⟩,?_⟩
  refine O2 (K:=K) (a:=rd) (xs:=rv) (fun i σ' H'=>∃ v7 v8 v9 v10 bv bc nro st,σ'=[some (.ref pp),some (.ref q0),some (.ref p),some fv,some (.int st),some (.ref ro),some (.ref b),v7,v8,v9,v10]/\Same H H'/\DueAt K (upd H b (.lst [])) H' ro nro/\H' b=some (.lst bv)/\Al (ThAt K H') bv bc/\DusC Tk fl (.mk tw (.flat tn) []) (rs.take i) [] [] n bc nro st/\Ef Tk nro bc/\bc.length=i/\nro.length<=i) ⟨none,none,none,none,[],[],[],n,rfl,s02,⟨_,s2 _ _ e1,.nil⟩,e2,.nil,.nil,⟨fun q hq=>(nomatch hq),fun x hx=>(nomatch hx)⟩,rfl,Pn _⟩ ?_ ?_ ?_
  ·rintro i σ' H' _ ⟨_,_,_,_,_,_,_,_,_,s',_⟩
   exact SqL.of (s' _ _ hrd)
  ·rintro i y σ' H3 hy ⟨v7,v8,v9,v10,bv,bc,nro,st,rfl,s3,D3,hb3,alb,DC,IV,hbc,hnl⟩
   obtain ⟨r,hr1,hr2⟩:=alr.get hy
   have hri:=(Pq.mp hr1).1
   have Mr:MkR Tk bc.length r:=by rw [hbc]; exact M i r hr1
   have tk:rs.take (i + 1)=rs.take i++[r]:=by rw [Rj,hr1]; rfl
   have hr3:=RwX.same s3.a _ _ hr2
   obtain ⟨⟨a,p',o',e',ov,ev,rfl,qa,_,ho,alo,he,ale,_,_⟩,a2,p2,o2,e2',ea,qa2,hp2⟩:=hr3
   cases ea
   obtain ⟨rw3,er3,alr3⟩:=D3.ex
   have ok:=Mr.ok
   have lo:=ok.lo
   have hol:=alo.1
   walk_at "r"
   refine Ak qa rfl ?_
   refine .inl ⟨o',rfl,⟨_,SqL.of ho⟩,fun D hD=>?_⟩
   have hDH:H D=none:=s3.free hD
   have nDr:D≠ro:=fun z=>by rw [z,er3] at hD; cases hD
   refine Jw (K:=K) (a:=o') (xs:=ov) (Pv:=fun i ys σ' H'=>∃ kv,σ'=[kv,some (.ref b)]/\Al (ThAt K H') ys ((r.ops.take i).map (A4 bc))/\Same H3 H') ⟨none,rfl,.nil,Same.upd hD⟩ (fun i ys σ' H' _ ⟨_,_,_,s'⟩=>SqL.of (s' _ _ ho)) ?_ ?_
   ·rintro j y ys σ' H4 hy hys ⟨kv,rfl,al2,s4⟩
    obtain ⟨xo,hxo,txo⟩:=alo.get hy
    walk_at "r"
    refine ⟨y,b,bv,xo,bc,rfl,ThAt.same s4.t _ _ txo,SqL.of (s4 _ _ hb3),alb.mono (ThAt.same s4.t),ok.o _ (Qv hxo),fun v tv=>?_⟩
    have hyl:ys.length<=1000:=by rw [al2.1,Pp,Qe]; omega
    refine ⟨_,hys,by omega,_,Ad,?_⟩
    have sA:SameT H4 (upd H4 D (.lst (ys++[v]))):=SameT.set hys
    refine ⟨_,rfl,?_,s4.over hD⟩
    rw [Rj,hxo,Tj,Qy,Sd]
    exact (al2.mono (ThAt.same sA)).snoc (ThAt.same sA _ _ tv)
   ·rintro ys σ' H4 hys ⟨kv,rfl,al2,s4⟩
    rw [Qu (by omega)] at al2
    have al2:Al (ThAt K H4) ys (Ct bc r.ops):=al2
    have s04:=s3.trans s4
    walk_at "r"
    refine Ak (s4.tup qa) rfl ?_
    walk_at "r"
    have hb4:=s4 _ _ hb3
    have er4:=s4 _ _ er3
    have hr4:=RwX.same s04.a _ _ hr2
    have hp4:=s04 _ _ hp
    have nbD:D≠b:=fun z=>by rw [z,hb3] at hD; cases hD
    have nZD:upd H b (.lst bv) D=none:=by rw [Af nbD]; exact hDH
    have sZ4:Same (upd H b (.lst bv)) H4:=fun c oc hc=>by
     by_cases ec:c=b
     ·rw [ec,Ad] at hc; rw [ec]; exact hb4.trans hc
     ·rw [Af ec] at hc; exact s04 _ _ hc
    have DZ4:DueAt K (upd H b (.lst bv)) H4 ro nro:=Iw (D3.same s4) fun c hc=>Lw hc
    have sR:∀ {H':Hp},SameR ro H4 H'->Same H H':=fun rr c oc hc=>rr c oc (fun z=>by rw [z,hro] at hc; cases hc) (s04 _ _ hc)
    have hi60:i < 60:=by omega
    refine Zjn rfl ?_
    refine ⟨_,rfl,?_⟩
    rw [A8]
    by_cases hg:r.wd = "gap"
    ·rw [decide_eq_true hg]
     walk_at "r"
     refine Ak (s4.tup qa2) rfl ?_
     walk_at "r"
     refine Zc5 (xs:=r.pl) (ys:=Ap fl) (SqT.of (s4 _ _ hp2)) (by rw [B9]; exact SqT.of hp4) ?_
     refine ⟨_,rfl,?_⟩
     by_cases hpl:r.pl=Ap fl
     ·rw [decide_eq_true hpl]
      walk_at "r"
      refine Bj (SqL.of hb4) ?_
      walk_at "r"
      refine ⟨Bf,fun p5 h5=>?_⟩
      have s5:Same H4 (upd H4 p5 (.lst [])):=Same.upd h5
      have e5:upd H4 p5 (.lst []) p5=some (.lst []):=Ad
      have n5:p5≠ro:=fun z=>by rw [z,er4] at h5; cases h5
      revert s5 e5
      generalize upd H4 p5 (.lst [])=H5
      intro s5 e5
      walk_at "r"
      refine Zb4 (.leaf okf) (sZ4.trans s5) (tf.same (s04.trans s5)) (s5 _ _ hp4) e5 n5 (DZ4.same s5) (by omega) fun v H6 r6 D6 t6=>?_
      have r46:=(s5.r ro).trans r6
      have t46:=(r46.a er4).1
      have hb6:=r46 b _ nbr hb4
      walk_at "r"
      refine Bt hb6 (by have:=alb.1; omega) ?_
      have t67:SameT H6 (upd H6 b (.lst (bv++[v]))):=SameT.set hb6
      obtain ⟨c,nv,pq,rfl,qc⟩:∃ c nv pq,fv=.ref c/\SqT K H c [.str tw,nv,.ref pq]:=by
       cases tf with
       | mk qm _ _ _ _=>exact ⟨_,_,_,rfl,qm⟩
      have t07:=s04.t.trans (t46.trans t67)
      have O5:Du Tk fl (.mk tw (.flat tn) []) bc nro r _ _ _:=.fill hg hpl
      have DC5:=DC.snoc O5
      have IV5:=(Ij TO okf IV Mr O5)
      walk_at "r"
      refine Ak (t07.tup qc) rfl ?_
      walk_at "r"
      rw [A8,Oe]
      rw [tk]
      exact ⟨_,_,_,_,bv++[v],_,_,st + Cn tw,rfl,(sR r46).over hbH,Ol (Iw D6 fun c hc=>Lw hc) hb6 (by rw [Ad]; simp) nbr,Ad,(alb.mono (ThAt.same (s4.t.trans (t46.trans t67)))).snoc (ThAt.same t67 _ _ t6),DC5,IV5.1,by rw [Pi,hbc]; rfl,by rw [Pi]; have:=IV5.2.2; omega⟩
     ·have hF:¬ (r.wd = "gap" /\ r.pl=Ap fl):=fun z=>hpl z.2
      rw [decide_eq_false hpl]
      walk_at "r"
      refine ⟨_,pv,lv,gv,r,Tk,fl,.mk tw (.flat tn) [],D,pp,ro,ys,bc,nro,upd H b (.lst bv),_,rfl,sZ4,hr4,hys,nZD,nDr,al2,s04.tup hpp,tp.same s04,tlf.same s04,TO,IV,Mr,Zeb Mr hfl hF,DZ4,by omega,fun u H5 ra x nr m r5 qr5 tu5 O5 D5=>?_⟩
      have er5:=r5
      have t45:=(r5.a er4).1
      walk_at "r"
      refine Db qr5 rfl ?_
      have hb5:=r5 b _ nbr hb4
      walk_at "r"
      refine Bj (SqL.of hb5) ?_
      walk_at "r"
      refine Bt hb5 (by have:=alb.1; omega) ?_
      have t56:SameT H5 (upd H5 b (.lst (bv++[u]))):=SameT.set hb5
      have DC5:=DC.snoc O5
      have IV5:=(Ij TO okf IV Mr O5)
      walk_at "r"
      rw [tk]
      exact ⟨_,_,_,_,bv++[u],bc++[x],nro++nr,st + m,rfl,(sR r5).over hbH,Ol (Iw D5 fun c hc=>Lw hc) hb5 (by rw [Ad]; simp) nbr,Ad,(alb.mono (ThAt.same (s4.t.trans (t45.trans t56)))).snoc (ThAt.same t56 _ _ tu5),DC5,IV5.1,by rw [Pi,hbc]; rfl,by rw [Pi]; have:=IV5.2.2; omega⟩
    ·have hF:¬ (r.wd = "gap" /\ r.pl=Ap fl):=fun z=>hg z.1
     rw [decide_eq_false hg]
     walk_at "r"
     refine ⟨_,pv,lv,gv,r,Tk,fl,.mk tw (.flat tn) [],D,pp,ro,ys,bc,nro,upd H b (.lst bv),_,rfl,sZ4,hr4,hys,nZD,nDr,al2,s04.tup hpp,tp.same s04,tlf.same s04,TO,IV,Mr,Zeb Mr hfl hF,DZ4,by omega,fun u H5 ra x nr m r5 qr5 tu5 O5 D5=>?_⟩
     have er5:=r5
     have t45:=(r5.a er4).1
     walk_at "r"
     refine Db qr5 rfl ?_
     have hb5:=r5 b _ nbr hb4
     walk_at "r"
     refine Bj (SqL.of hb5) ?_
     walk_at "r"
     refine Bt hb5 (by have:=alb.1; omega) ?_
     have t56:SameT H5 (upd H5 b (.lst (bv++[u]))):=SameT.set hb5
     have DC5:=DC.snoc O5
     have IV5:=(Ij TO okf IV Mr O5)
     walk_at "r"
     rw [tk]
     exact ⟨_,_,_,_,bv++[u],bc++[x],nro++nr,st + m,rfl,(sR r5).over hbH,Ol (Iw D5 fun c hc=>Lw hc) hb5 (by rw [Ad]; simp) nbr,Ad,(alb.mono (ThAt.same (s4.t.trans (t45.trans t56)))).snoc (ThAt.same t56 _ _ tu5),DC5,IV5.1,by rw [Pi,hbc]; rfl,by rw [Pi]; have:=IV5.2.2; omega⟩
  ·rintro σ' H3 ⟨v7,v8,v9,v10,bv,bc,nro,st,rfl,s3,D3,hb3,alb,DC,IV,hbc,hnl⟩
   rw [Qu (by omega)] at DC
   walk_at "r"
   refine Ak (s3.tup hq0) rfl ?_
   walk_at "r"
   refine ⟨av,b,bv,xa,bc,rfl,ThAt.same s3.t _ _ hav,SqL.of hb3,alb,by rw [hbc,hrl]; exact oka.row,fun v tv=>?_⟩
   walk_at "r"
   refine ⟨Bv,fun r' hr'=>?_⟩
   have s5:=Same.upd (o:=.tup [v,.ref ro,.int st]) hr'
   exact q _ _ _ _ _ _ _ (s3.trans s5) (SqT.of Ad) (ThAt.same s5.t _ _ tv) ((Iw D3 fun c hc=>Ziz hc).same s5) DC
noncomputable def Zd2:Sp:=fun vs H Q _=>∃ (a k:Int),vs=[.int a,.int k]/\-(2 ^ 64) < a/\a < 2 ^ 64/\∀ z:Int,0<=z->z < 2147483647->Q (.int z) H
theorem Zi1:A2 ["_law_number_here", "_law_k"] ["_law_number_here", "_law_k"] (Az J4):=by walk_at "sc"
theorem Zko {f:Addr} {fd:FuncData} (F:Fun K "_law_next" "_law_next" J4 f fd) (T:Txt K mg):FnOk P w K mg base Ar 1 f fd ["_law_number_here", "_law_k"] Zd2:=by
 refine F.okq Zi1 (fun vs H Q E h=>?_) (fun cdv A outer s H vs Q E hr h=>?_)
 ·obtain ⟨a,k,rfl,_⟩:=h
  rfl
 ·obtain ⟨a,k,rfl,h1,h2,q⟩:=h
  refine ⟨_,Ag (Au (Aj Bq (Aj (Cg K) (Aj (Cg K) (Aj (Cg K) (Aj Ex (qv 0) (qv 0)) (Aj Ex Ac (qv 0))) (Aj Ex Ac (qv 1))) Ac) Ac)),?_⟩
  walk_at "r"
  refine s_mul_l h1 h2 ?_
  walk_at "r"
  exact q _ (Qq _ (by decide)) (Qw _ (by decide))
noncomputable def plsN:List (List Nat):=[[0],[1,0],[1,1,0],[],[1],[1,1],[1,1,1]]
noncomputable def cntN:List Nat:=[0,0,0,2,2,1,0]
noncomputable def Ip (T:Tk):List Str:=["gap", "gap", "gap",T.w0,T.w1, "if",T.part.wd]
noncomputable def Zc3 (K:Pd):Sp:=fun vs H Q _=>∃ (c:Int) (k:Nat) (tv:V) (T:Tk),vs=[.int c,.int (k:Nat),tv]/\TrAt K H tv (Ci T gapT gapT gapT)/\T.Ok/\∀ v H' rx,Same H H'->MkR T k rx->RwX K (fun b=>H b≠none) H' v rx->Q v H'
theorem Kt {α β:Type} {vs:List α} {x y:β} (h:vs.length=[x,y].length):∃ u v,vs=[u,v]:=by
 cases vs with
 | nil=>cases h
 | cons u r =>
  cases r with
  | nil=>cases h
  | cons v r =>
   cases r with
   | nil=>exact ⟨u,v,rfl⟩
   | cons=>cases h
theorem len3 {α β:Type} {vs:List α} {x y z:β} (h:vs.length=[x,y,z].length):∃ u v w,vs=[u,v,w]:=by
 cases vs with
 | nil=>cases h
 | cons u r =>
  obtain ⟨v,w,rfl⟩:=Kt (x:=x) (y:=y) (Vj h)
  exact ⟨u,v,w,rfl⟩
theorem Zic {K:Pd} {H:Hp} {tv:V} {T:Tk} {a b c:Tr} (h:TrAt K H tv (Ci T a b c)):∃ (c0 p0 c1 p1 c2 p2 c3 p3:Addr) (n0 n1 n2 n3 u0 u1 u2 u3:V),tv=.ref c0/\SqT K H c0 [.str T.w0,n0,.ref p0]/\SqT K H p0 [u0,.ref c1]/\SqT K H c1 [.str T.w1,n1,.ref p1]/\SqT K H p1 [u1,.ref c2]/\SqT K H c2 [.str "if",n2,.ref p2]/\SqT K H p2 [u2,.ref c3,u3]/\SqT K H c3 [.str T.part.wd,n3,.ref p3]:=by
 unfold Ci at h
 cases h with
 | @mk _ _ _ _ _ vs _ q1 _ qp1 l1 h1 =>
 obtain ⟨u0,v1,rfl⟩:=Kt l1
 have t1:=h1 1 v1 _ rfl rfl
 cases t1 with
 | @mk _ _ _ _ _ vs _ q2 _ qp2 l2 h2 =>
 obtain ⟨u1,v2,rfl⟩:=Kt l2
 have t2:=h2 1 v2 _ rfl rfl
 cases t2 with
 | @mk _ _ _ _ _ vs _ q3 _ qp3 l3 h3 =>
 obtain ⟨u2,v3,u3,rfl⟩:=len3 l3
 have t3:=h3 1 v3 _ rfl rfl
 generalize T.part=pt at t3
 cases t3 with
 | mk q4 _ _ _ _=>exact ⟨_,_,_,_,_,_,_,_,_,_,_,_,_,_,_,_,rfl,q1,qp1,q2,qp2,q3,qp3,q4⟩
theorem c7 {j:Nat} (h:j < 7):j=0\/j=1\/j=2\/j=3\/j=4\/j=5\/j=6:=by omega
theorem Zj0 {T:Tk} {k j cn:Nat} {pl:List Nat} {wd:Str} {xs:List (Str×V)} (j7:j < 7) (j6:j=6->T.part.wd∈(["fn", "rec"]:List Str)) (hpl:plsN[j]?=some pl) (hwN:(Ip T)[j]?=some wd) (hcN:cntN[j]?=some cn) (hxl:xs.length=cn) (okx:∀ x∈xs,ThOk k x):MkR T k ⟨wd,Ap pl,xs,[]⟩:=by
 rcases c7 j7 with rfl | rfl | rfl | rfl | rfl | rfl | rfl <;> cases hpl <;> cases hwN <;> cases hcN
 ·cases Qm hxl; exact .gap (by simp)
 ·cases Qm hxl; exact .gap (by simp)
 ·cases Qm hxl; exact .gap (by simp)
 ·obtain ⟨x,y,rfl⟩:=Kt (x:=0) (y:=0) hxl
  exact .two (.inl ⟨rfl,rfl⟩) (okx x (by simp)) (okx y (by simp))
 ·obtain ⟨x,y,rfl⟩:=Kt (x:=0) (y:=0) hxl
  exact .two (.inr ⟨rfl,rfl⟩) (okx x (by simp)) (okx y (by simp))
 ·cases xs with
  | nil=>cases hxl
  | cons x r =>
   cases Qm (Vj hxl)
   exact .ifs (okx x (by simp))
 ·cases Qm hxl; exact .fn (j6 rfl)
theorem sc_law_row:A2 ["_law_cell_here", "_law_k", "_law_tree", "_law_part_here", "_law_picks", "_law_pick", "_law_spot", "_law_word", "_law_number_here", "_law_operands", "_law_turn"] ["_law_cell_here", "_law_k", "_law_tree"] (Az J1):=by walk_at "sc"
theorem Zpz {f:Addr} {fd:FuncData} (F:Fun K "_law_row" "_law_row" J1 f fd) (T:Txt K mg) (C__law_next:Bb P w K mg base 1 "_law_next" ["_law_number_here", "_law_k"] Zd2) (C__law_thing:Bb P w K mg base 1 "_law_thing" ["_law_number_here", "_law_k"] (O6 K)):FnOk P w K mg base Ar 2 f fd ["_law_cell_here", "_law_k", "_law_tree"] (Zc3 K):=by
 refine F.okq sc_law_row (fun vs H Q E h=>?_) (fun cdv A outer s H vs Q E hr h=>?_)
 ·obtain ⟨c,k,tv,Tk,rfl,_⟩:=h
  rfl
 ·obtain ⟨c,k,tv,Tk,rfl,ht,TO,q⟩:=h
  refine ⟨_,Ae (Ay 3 sc_law_row (Ah K (Ah K (Ah K (Ah K (Ah K (Ah K (qv 2) Ac) Ac) Ac) Ac) Ac) Ac))
   (Ae (Ay 4 sc_law_row (Bc (He (xs:=[.int 0,.int 1,.int 2,.int 3,.int 4,.int 5,.int 3,.int 4,.int 5]) rfl)))
   (Ae (A0 (Ax (E7 K) (Ah K (qv 3) Ac) (An (Aa As (Aa As Ab))) (by rfl)) (Ag (Ay 4 sc_law_row (Bc (He (xs:=[.int 0,.int 1,.int 2,.int 3,.int 4,.int 5,.int 3,.int 4,.int 6,.int 6,.int 6]) rfl)))) A6)
   (Ae (Ay 5 sc_law_row (Ah K (qv 4) (Aj Bq (qv 0) (Bp (C6 K) (by rfl) T.len (by decide +kernel) (Aa (qv 4) Ab)))))
   (Ae (Ay 6 sc_law_row (Ah K (Bc (Aa (An (Aa Ac Ab)) (Aa (An (Aa Ac (Aa Ac Ab))) (Aa (An (Aa Ac (Aa Ac (Aa Ac Ab)))) (Aa (An Ab) (Aa (An (Aa Ac Ab)) (Aa (An (Aa Ac (Aa Ac Ab))) (Aa (An (Aa Ac (Aa Ac (Aa Ac Ab)))) Ab)))))))) (qv 5)))
   (Ae (Ay 7 sc_law_row (Ah K (Bc (Aa As (Aa As (Aa As (Aa (Ah K (qv 2) Ac) (Aa (Ah K (Ah K (Ah K (qv 2) Ac) Ac) Ac) (Aa As (Aa (Ah K (qv 3) Ac) Ab)))))))) (qv 5)))
   (Ae (Ay 8 sc_law_row (Aj Bq (qv 0) Ac))
   (Ae (Ay 9 sc_law_row (Bc Ab))
   (Ae (Dz Qp rfl (Mp rfl T.range (Aa (Ah K (Bc (He (xs:=[.int 0,.int 0,.int 0,.int 2,.int 2,.int 1,.int 0]) rfl)) (qv 5)) Ab)) (A9 (i:=10) sc_law_row.nd rfl (Or.inl rfl)) (Ae (Ay 8 sc_law_row (A3 C__law_next hr.m (Aa (qv 8) (Aa (qv 10) Ab))))
   (Ag (Be (Bw K Pt P4 P5 Bz (qv 9) (Aa (A3 C__law_thing hr.m (Aa (qv 8) (Aa (qv 1) Ab))) Ab))))))
   (Ag (Au (An (Aa (qv 7) (Aa (qv 6) (Aa (qv 9) (Aa (Bc Ab) Ab))))))))))))))),?_⟩
  have bg:=big
  obtain ⟨c0,p0,c1,p1,c2,p2,c3,p3,n0,n1,n2,n3,u0,u1,u2,u3,rfl,qc0,qp0,qc1,qp1,qc2,qp2,qc3⟩:=Zic ht
  walk_at "r"
  refine Ak qc0 rfl ?_
  walk_at "r"
  refine Ak qp0 rfl ?_
  walk_at "r"
  refine Ak qc1 rfl ?_
  walk_at "r"
  refine Ak qp1 rfl ?_
  walk_at "r"
  refine Ak qc2 rfl ?_
  walk_at "r"
  refine Ak qp2 rfl ?_
  walk_at "r"
  walk_at "r"
  refine ⟨sz9,fun a1 h1=>?_⟩
  obtain ⟨H1,s1,e1,z9⟩:=Av h1 (.lst [.int 0,.int 1,.int 2,.int 3,.int 4,.int 5,.int 3,.int 4,.int 5])
  rw [z9]
  refine s_gname ?_
  with_reducible refine s_seq ?_
  refine Kg (t:=F0 _ _ _) (R:=fun σ' H'=>∃ (pk:Addr) (ks:List Int),σ'=[some (.int c),some (.int (k:Nat)),some (.ref c0),some (.ref c3),some (.ref pk),none,none,none,none,none,none]/\Same H H'/\H' pk=some (.lst (ks.map V.int))/\0 < ks.length/\ks.length<=20/\∀ z∈ks,∃ j:Nat,z=(j:Nat)/\j < 7/\(j=6->Tk.part.wd∈(["fn", "rec"]:List Str))) ?_ (fun Y hY=>?_)
  rotate_left
  ·walk_at "r"
   refine Ak (s1.tup qc3) rfl ?_
   walk_at "r"
   refine ⟨A7,fun a2 h2=>?_⟩
   refine Ec (.inr (SqT.of Ad)) rfl rfl ?_
   have s2:Same H1 (upd H1 a2 (.tup [.str "fn",.str "rec"])):=Same.upd h2
   rw [if_neg Po,show C9 (.str Tk.part.wd) [.str "fn",.str "rec"]=decide (Tk.part.wd∈(["fn", "rec"]:List Str)) from Et (ws:=["fn", "rec"])]
   revert s2
   generalize upd H1 a2 (.tup [.str "fn",.str "rec"])=H2
   intro s2
   walk_at "r"
   by_cases hf:Tk.part.wd∈(["fn", "rec"]:List Str)
   ·rw [decide_eq_true hf]
    walk_at "r"
    refine ⟨sz11,fun a3 h3=>?_⟩
    obtain ⟨H3,s3,e3,z9⟩:=Av h3 (.lst [.int 0,.int 1,.int 2,.int 3,.int 4,.int 5,.int 3,.int 4,.int 6,.int 6,.int 6])
    rw [z9]
    walk_at "r"
    refine hY _ _ ⟨a3,[0,1,2,3,4,5,3,4,6,6,6],rfl,(s1.trans s2).trans s3,e3,by decide,by decide,fun z hz=>?_⟩
    simp only [Pm,P0,or_false] at hz
    rcases hz with rfl | rfl | rfl | rfl | rfl | rfl | rfl | rfl | rfl | rfl | rfl
    all_goals first | exact ⟨0,rfl,by decide,fun _=>hf⟩ | exact ⟨1,rfl,by decide,fun _=>hf⟩ | exact ⟨2,rfl,by decide,fun _=>hf⟩ | exact ⟨3,rfl,by decide,fun _=>hf⟩ | exact ⟨4,rfl,by decide,fun _=>hf⟩ | exact ⟨5,rfl,by decide,fun _=>hf⟩ | exact ⟨6,rfl,by decide,fun _=>hf⟩
   ·rw [decide_eq_false hf]
    walk_at "r"
    refine hY _ _ ⟨a1,[0,1,2,3,4,5,3,4,5],rfl,s1.trans s2,s2 _ _ e1,by decide,by decide,fun z hz=>?_⟩
    simp only [Pm,P0,or_false] at hz
    rcases hz with rfl | rfl | rfl | rfl | rfl | rfl | rfl | rfl | rfl
    all_goals first | exact ⟨0,rfl,by decide,fun z=>nomatch z⟩ | exact ⟨1,rfl,by decide,fun z=>nomatch z⟩ | exact ⟨2,rfl,by decide,fun z=>nomatch z⟩ | exact ⟨3,rfl,by decide,fun z=>nomatch z⟩ | exact ⟨4,rfl,by decide,fun z=>nomatch z⟩ | exact ⟨5,rfl,by decide,fun z=>nomatch z⟩
  rintro _ H2 ⟨pk,ks,rfl,s2,epk,kl0,kl,hks⟩
  walk_at "r"
  refine Cm (SqL.of epk) ?_
  have kp:(0:Int) < (((ks.map V.int).length:Nat):Int):=by rw [Pp]; omega
  refine s_rI kp ?_
  have d0:=Qq c (show (((ks.map V.int).length:Nat):Int)≠0 by omega)
  have d1:=Qw c kp
  obtain ⟨ji,hji⟩:∃ ji:Nat,c % (((ks.map V.int).length:Nat):Int)=(ji:Nat):=⟨_,(Us d0).symm⟩
  rw [hji] at d1 ⊢
  have jl:ji < ks.length:=by rw [Pp] at d1; omega
  obtain ⟨j,ej,j7,j6⟩:=hks ks[ji] (Tp _)
  refine Bd (SqL.of epk) (Bh (show (ks.map V.int)[ji]?=some (.int (j:Nat)) by rw [Qh,Pg jl,ej]; rfl)) ?_
  walk_at "r"
  refine ⟨Cw,fun ap0 hp0=>?_⟩
  obtain ⟨Hp0,sp0,ep0,z9⟩:=Av hp0 (.tup [.int 0])
  rw [z9]
  walk_at "r"
  refine ⟨A7,fun ap1 hp1=>?_⟩
  obtain ⟨Hp1,sp1,ep1,z9⟩:=Av hp1 (.tup [.int 1,.int 0])
  rw [z9]
  have ep0:=sp1 _ _ ep0
  walk_at "r"
  refine ⟨Bv,fun ap2 hp2=>?_⟩
  obtain ⟨Hp2,sp2,ep2,z9⟩:=Av hp2 (.tup [.int 1,.int 1,.int 0])
  rw [z9]
  have ep0:=sp2 _ _ ep0
  have ep1:=sp2 _ _ ep1
  walk_at "r"
  refine ⟨Bf,fun ap3 hp3=>?_⟩
  obtain ⟨Hp3,sp3,ep3,z9⟩:=Av hp3 (.tup [])
  rw [z9]
  have ep0:=sp3 _ _ ep0
  have ep1:=sp3 _ _ ep1
  have ep2:=sp3 _ _ ep2
  walk_at "r"
  refine ⟨Cw,fun ap4 hp4=>?_⟩
  obtain ⟨Hp4,sp4,ep4,z9⟩:=Av hp4 (.tup [.int 1])
  rw [z9]
  have ep0:=sp4 _ _ ep0
  have ep1:=sp4 _ _ ep1
  have ep2:=sp4 _ _ ep2
  have ep3:=sp4 _ _ ep3
  walk_at "r"
  refine ⟨A7,fun ap5 hp5=>?_⟩
  obtain ⟨Hp5,sp5,ep5,z9⟩:=Av hp5 (.tup [.int 1,.int 1])
  rw [z9]
  have ep0:=sp5 _ _ ep0
  have ep1:=sp5 _ _ ep1
  have ep2:=sp5 _ _ ep2
  have ep3:=sp5 _ _ ep3
  have ep4:=sp5 _ _ ep4
  walk_at "r"
  refine ⟨Bv,fun ap6 hp6=>?_⟩
  obtain ⟨Hp6,sp6,ep6,z9⟩:=Av hp6 (.tup [.int 1,.int 1,.int 1])
  rw [z9]
  have ep0:=sp6 _ _ ep0
  have ep1:=sp6 _ _ ep1
  have ep2:=sp6 _ _ ep2
  have ep3:=sp6 _ _ ep3
  have ep4:=sp6 _ _ ep4
  have ep5:=sp6 _ _ ep5
  walk_at "r"
  refine ⟨sz7,fun aL hL=>?_⟩
  obtain ⟨HL,sL,eL,z9⟩:=Av hL (.lst [.ref ap0,.ref ap1,.ref ap2,.ref ap3,.ref ap4,.ref ap5,.ref ap6])
  rw [z9]
  have ep0:=sL _ _ ep0
  have ep1:=sL _ _ ep1
  have ep2:=sL _ _ ep2
  have ep3:=sL _ _ ep3
  have ep4:=sL _ _ ep4
  have ep5:=sL _ _ ep5
  have ep6:=sL _ _ ep6
  obtain ⟨sp,pl,hsp,esp,hpl⟩:∃ sp pl,[V.ref ap0,.ref ap1,.ref ap2,.ref ap3,.ref ap4,.ref ap5,.ref ap6][j]?=some (.ref sp)/\HL sp=some (.tup (A1 pl))/\plsN[j]?=some pl:=by
   rcases c7 j7 with rfl | rfl | rfl | rfl | rfl | rfl | rfl
   ·exact ⟨ap0,[0],rfl,ep0,rfl⟩
   ·exact ⟨ap1,[1,0],rfl,ep1,rfl⟩
   ·exact ⟨ap2,[1,1,0],rfl,ep2,rfl⟩
   ·exact ⟨ap3,[],rfl,ep3,rfl⟩
   ·exact ⟨ap4,[1],rfl,ep4,rfl⟩
   ·exact ⟨ap5,[1,1],rfl,ep5,rfl⟩
   ·exact ⟨ap6,[1,1,1],rfl,ep6,rfl⟩
  have sL2:Same H HL:=s2.trans (sp0.trans (sp1.trans (sp2.trans (sp3.trans (sp4.trans (sp5.trans (sp6.trans sL)))))))
  walk_at "r"
  refine Bd (SqL.of eL) (Bh hsp) ?_
  walk_at "r"
  refine Ak (sL2.tup qc0) rfl ?_
  walk_at "r"
  refine Ak (sL2.tup qc0) rfl ?_
  walk_at "r"
  refine Ak (sL2.tup qp0) rfl ?_
  walk_at "r"
  refine Ak (sL2.tup qc1) rfl ?_
  walk_at "r"
  refine Ak (sL2.tup qc3) rfl ?_
  walk_at "r"
  refine ⟨sz7,fun aW hW=>?_⟩
  obtain ⟨HW,sW,eW,z9⟩:=Av hW (.lst [.str "gap",.str "gap",.str "gap",.str Tk.w0,.str Tk.w1,.str "if",.str Tk.part.wd])
  rw [z9]
  have esp:=sW _ _ esp
  obtain ⟨wd,hwd,hwN⟩:∃ wd,[V.str "gap",.str "gap",.str "gap",.str Tk.w0,.str Tk.w1,.str "if",.str Tk.part.wd][j]?=some (.str wd)/\(Ip Tk)[j]?=some wd:=by
   have hj:j < (Ip Tk).length:=j7
   refine ⟨(Ip Tk)[j],?_,Pg hj⟩
   rw [show [V.str "gap",.str "gap",.str "gap",.str Tk.w0,.str Tk.w1,.str "if",.str Tk.part.wd]=(Ip Tk).map V.str from rfl,Qh,Pg hj]
   rfl
  have sW2:=sL2.trans sW
  walk_at "r"
  refine Bd (SqL.of eW) (Bh hwd) ?_
  walk_at "r"
  refine ⟨Bf,fun aO hO=>?_⟩
  obtain ⟨HX,sO,eO,z9⟩:=Av hO (.lst [])
  rw [z9]
  have esp:=sO _ _ esp
  have sO2:=sW2.trans sO
  walk_at "r"
  refine ⟨sz7,fun aC hC=>?_⟩
  obtain ⟨HC,sC,eC,z9⟩:=Av hC (.lst [.int 0,.int 0,.int 0,.int 2,.int 2,.int 1,.int 0])
  rw [z9]
  have esp:=sC _ _ esp
  have eO:=sC _ _ eO
  have sC2:=sO2.trans sC
  obtain ⟨cn,hcn,hcN⟩:∃ cn:Nat,[V.int 0,.int 0,.int 0,.int 2,.int 2,.int 1,.int 0][j]?=some (.int (cn:Nat))/\cntN[j]?=some cn:=by
   have hj:j < cntN.length:=j7
   refine ⟨cntN[j],?_,Pg hj⟩
   rw [show [V.int 0,.int 0,.int 0,.int 2,.int 2,.int 1,.int 0]=cntN.map (fun n:Nat=>V.int (n:Nat)) from rfl,Qh,Pg hj]
   rfl
  walk_at "r"
  refine Bd (SqL.of eC) (Bh hcn) ?_
  walk_at "r"
  have c2:cn<=2:=(by decide:∀ x∈cntN,x<=2) cn (Qv hcN)
  refine ⟨by omega,by omega,?_⟩
  have hOH:H aO=none:=sW2.free hO
  have z0:=Qq c (show (2147483629:Int)≠0 by decide)
  have z1:=Qw c (show (0:Int) < 2147483629 by decide)
  refine Kw (n:=((cn:Nat):Int).toNat) (fun i σ' H'=>∃ z v10 us xs,σ'=[some (.int c),some (.int (k:Nat)),some (.ref c0),some (.ref c3),some (.ref pk),some (.int (j:Nat)),some (.ref sp),some (.str wd),some (.int z),some (.ref aO),v10]/\Same H H'/\H' sp=some (.tup (A1 pl))/\H' aO=some (.lst us)/\Al (ThAt K H') us xs/\xs.length=i/\(∀ x∈xs,ThOk k x)/\0<=z/\z < 2147483647) ⟨c % 2147483629,none,[],[],rfl,sC2,esp,eO,.nil,rfl,fun x hx=>(nomatch hx),z0,by omega⟩ ?_ ?_
  ·rintro i σ' H3 hi ⟨z,v10,us,xs,rfl,s3,esp3,eO3,alx,hxl,okx,z2,z3⟩
   have hus:=alx.1
   walk_at "r"
   refine ⟨z,_,rfl,by omega,by omega,fun z' z4 z5=>?_⟩
   walk_at "r"
   refine Bj (SqL.of eO3) ?_
   walk_at "r"
   refine ⟨z',k,rfl,z4,z5,fun v H4 x s4 tx ox=>?_⟩
   walk_at "r"
   have eO4:=s4 _ _ eO3
   refine Bt eO4 (by omega) ?_
   have tO:SameT H4 (upd H4 aO (.lst (us++[v]))):=SameT.set eO4
   have nsp:sp≠aO:=fun y=>by rw [y,eO3] at esp3; cases esp3
   refine ⟨z',_,us++[v],xs++[x],rfl,(s3.trans s4).over hOH,by rw [Af nsp]; exact s4 _ _ esp3,Ad,(alx.mono (ThAt.same (s4.t.trans tO))).snoc (ThAt.same tO _ _ tx),by rw [Pi,hxl]; rfl,fun y hy=>?_,z4,z5⟩
   rcases Rl.mp hy with h | h
   ·exact okx y h
   ·rw [P8.mp h]; exact ox
  ·rintro σ' H3 ⟨z,v10,us,xs,rfl,s3,esp3,eO3,alx,hxl,okx,z2,z3⟩
   walk_at "r"
   refine ⟨Bf,fun a8 h8=>?_⟩
   obtain ⟨H8,s8,e8,z9⟩:=Av h8 (.lst [])
   rw [z9]
   walk_at "r"
   refine ⟨Dn,fun a9 h9=>?_⟩
   have s9:=Same.upd (o:=.tup [.str wd,.ref sp,.ref aO,.ref a8]) h9
   have s89:=s8.trans s9
   refine q _ _ ⟨wd,Ap pl,xs,[]⟩ (s3.trans s89) ?_ ⟨⟨a9,sp,aO,a8,us,[],rfl,SqT.of Ad,by rw [B9]; exact SqT.of (s89 _ _ esp3),s89 _ _ eO3,alx.mono (ThAt.same s89.t),s9 _ _ e8,.nil,fun y=>y hOH,fun y=>y (s3.free h8)⟩,a9,sp,aO,a8,rfl,SqT.of Ad,by rw [B9]; exact s89 _ _ esp3⟩
   rw [Q7] at hxl
   exact Zj0 j7 j6 hpl hwN hcN hxl okx
noncomputable def AD (H:Hp) (D:Addr):Addr->Prop:=fun b=>b=D\/H b≠none
noncomputable def Zco (K:Pd):Sp:=fun vs H Q _=>∃ (q0 rl:Addr) (av:V) (n:Int) (rv:List V) (rows:List Rx) (A:Addr->Prop),vs=[.ref q0]/\SqT K H q0 [av,.ref rl,.int n]/\H rl=some (.lst rv)/\Al (RwX K A H) rv rows/\rows.length<=100 /\
 ∀ (r q:Addr) (ws:List V) (H':Hp),Same H H'->SqT K H' r [av,.ref q,.int n]->H q=none->H' q=some (.lst ws)->Al (RwX K (AD H q) H') ws rows->Q (.ref r) H'
theorem Zjk:(["_law_row_here"]:List Str).Nodup:=by decide +kernel
theorem sc_law_copy:A2 ["_law_record", "_law_rows"] ["_law_record"] (Az Jx):=by walk_at "sc"
theorem Zjg {α:Type} {l:List α} {i:Nat} {c:α} (h:l[i]?=some c):l.take (i + 1)=l.take i++[c]:=by rw [Rj,h]; rfl
theorem Zi6 {f:Addr} {fd:FuncData} (F:Fun K "_law_copy" "_law_copy" Jx f fd) (T:Txt K mg):FnOk P w K mg base Ar 1 f fd ["_law_record"] (Zco K):=by
 refine F.okq sc_law_copy (fun vs H Q E h=>?_) (fun cdv A outer s H vs Q E hr h=>?_)
 ·obtain ⟨q0,rl,av,n,rv,rows,A,rfl,_⟩:=h
  rfl
 ·obtain ⟨q0,rl,av,n,rv,rows,A,rfl,hq0,hrl,alr,h100,q⟩:=h
  refine ⟨_,Ae (M8 (i:=1) (N:=["_law_row_here"]) (σ0:=Eh 1 []) rfl (Ga rfl (by decide +kernel) (by decide +kernel) (by decide +kernel)) (Eo K (Ah K (qv 0) Ac)) (Gj rfl (by rfl)) (fun _ _ _ _=>A9 (i:=0) Zjk rfl (Or.inl rfl)) (fun _ _ _ _=>Gu) (fun _ _ _ _=>An (Aa (Ah K (qv 0) Ac) (Aa (Ah K (qv 0) Ac) (Aa (Dk (Gr K) (by rfl) T.list (by decide +kernel) (Aa (Ah K (qv 0) Ac) Ab)) (Aa (Dk (Gr K) (by rfl) T.list (by decide +kernel) (Aa (Ah K (qv 0) Ac) Ab)) Ab))))) sc_law_copy.nd rfl (Or.inl rfl))
   (Ag (Au (An (Aa (Ah K (qv 0) Ac) (Aa (qv 1) (Aa (Ah K (qv 0) Ac) Ab)))))),?_⟩
  have bg:=big
  have hrv:rv.length<=100:=by rw [alr.1]; exact h100
  walk_at "r"
  refine Ak hq0 rfl ?_
  refine .inl ⟨rl,rfl,⟨_,SqL.of hrl⟩,fun D hD=>?_⟩
  have nD:rl≠D:=Ca hrl hD
  refine Jw (K:=K) (a:=rl) (xs:=rv) (Pv:=fun i ys σ' H'=>∃ v0,σ'=[v0]/\H' rl=some (.lst rv)/\ys.length=i/\Al (RwX K (AD H D) H') ys (rows.take i)/\Same H H') ⟨none,rfl,by rw [Af nD]; exact hrl,rfl,.nil,Same.upd hD⟩ ?_ ?_ ?_
  ·rintro i ys σ' H' _ ⟨_,_,e,_⟩
   exact SqL.of e
  ·rintro i x ys σ' H' hx hys ⟨v0,rfl,e,hyl,aly,sm⟩
   have hi:=(Pq.mp hx).1
   obtain ⟨rz,hrz,hrw⟩:=alr.get hx
   obtain ⟨⟨a,_,o,er,ov,ev,rfl,h2,_,h4,h5,h6,h7,_,_⟩,a2,p,o2,er2,ea,h2p,h3p⟩:=RwX.same sm.a _ _ hrw
   cases ea
   walk_at "r"
   refine Ak h2 rfl ?_
   walk_at "r"
   refine Ak h2p rfl ?_
   walk_at "r"
   refine Ak h2 rfl ?_
   refine ⟨o,ov,rfl,.inl (SqL.of h4),fun c1 hc1=>?_⟩
   have s1:=Same.upd (o:=.lst ov) hc1
   walk_at "r"
   refine Ak (s1.tup h2) rfl ?_
   refine ⟨er,ev,rfl,.inl (SqL.of (s1 _ _ h6)),fun c2 hc2=>?_⟩
   have s2:=Same.upd (o:=.lst ev) hc2
   have e1:=s2 c1 _ (Ad (H:=H') (o:=.lst ov))
   have e2:upd (upd H' c1 (.lst ov)) c2 (.lst ev) c2=some (.lst ev):=Ad
   have s12:=s1.trans s2
   have hc1':H' c1=none:=hc1
   have hc2':H' c2=none:=s1.free hc2
   revert e1 e2 s12
   generalize upd (upd H' c1 (.lst ov)) c2 (.lst ev)=H2
   intro e1 e2 s12
   walk_at "r"
   refine ⟨Dn,fun t ht=>?_⟩
   have s3:=Same.upd (o:=.tup [.str rz.wd,.ref p,.ref c1,.ref c2]) ht
   have s13:=s12.trans s3
   have hys3:=s13 _ _ hys
   have n1:c1≠D:=fun z=>by rw [z,hys] at hc1'; cases hc1'
   have n2:c2≠D:=fun z=>by rw [z,hys] at hc2'; cases hc2'
   have tS:=SameT.set (o:=.lst (ys++[.ref t])) hys3
   walk_at "r"
   refine ⟨_,hys3,by omega,_,Ad,?_⟩
   refine ⟨_,rfl,?_,by simp [hyl],?_,(sm.trans s13).over hD⟩
   ·rw [Af nD]; exact s13 _ _ e
   ·rw [Zjg hrz]
    refine (aly.mono (RwX.same (s13.a.trans (SameA.set hys3 (.inl rfl))))).snoc ?_
    have hp9:upd (upd H2 t (.tup [.str rz.wd,.ref p,.ref c1,.ref c2])) D (.lst (ys++[.ref t])) p=some (.tup (rz.pl.map V.int)):=((s13.t.trans tS) p).1 _ h3p
    refine ⟨⟨t,p,c1,c2,ov,ev,rfl,tS.tup (SqT.of Ad),SqT.of hp9,?_,h5.mono (ThAt.same (s13.t.trans tS)),?_,h7.mono (PrAt.same (s13.t.trans tS)),?_,?_⟩,t,p,c1,c2,rfl,tS.tup (SqT.of Ad),hp9⟩
    ·rw [Af n1]; exact s3 _ _ e1
    ·rw [Af n2]; exact s3 _ _ e2
    ·rintro (z | z)
     ·exact n1 z
     ·exact z (sm.free hc1')
    ·rintro (z | z)
     ·exact n2 z
     ·exact z (sm.free hc2')
  ·rintro ys σ' H' hys ⟨v0,rfl,e,hyl,aly,sm⟩
   rw [alr.1,Ts] at aly
   walk_at "r"
   refine Ak (sm.tup hq0) rfl ?_
   walk_at "r"
   refine Ak (sm.tup hq0) rfl ?_
   walk_at "r"
   refine ⟨Bv,fun r hr'=>?_⟩
   have s9:Same H' (upd H' r (.tup [av,.ref D,.int n])):=Same.upd hr'
   exact q r D ys _ (sm.trans s9) (SqT.of Ad) hD (s9 _ _ hys) (aly.mono (RwX.same s9.a))
theorem Zg4 {K:Pd} {TL:Addr} {vs:List V} {H:Hp} {Q Y:VK} {E Z:XK} (h1:∀ v H',Q v H'->Y v H') (h2:∀ c d H',E c d H'->Z c d H') (h:Js K TL vs H Q E):Js K TL vs H Y Z:=by
 obtain ⟨tv,fv,av,t,tf,p,q0,rd,fl,d,gs,n,rv,rs,xa,oo,a1,a2,a3,a4,a5,a6,a7,a8,a9,a10,a11,a12,a13,a14,a15,a16,q,qL⟩:=h
 exact ⟨tv,fv,av,t,tf,p,q0,rd,fl,d,gs,n,rv,rs,xa,oo,a1,a2,a3,a4,a5,a6,a7,a8,a9,a10,a11,a12,a13,a14,a15,a16,fun bc S' e=>⟨(q bc S' e).1,fun r' rd' av' rv' H' b1 b2 b3 b4 b5 b6 b7=>h1 _ _ ((q bc S' e).2 r' rd' av' rv' H' b1 b2 b3 b4 b5 b6 b7)⟩,fun e H' s=>h2 _ _ _ (qL e H' s)⟩
noncomputable def Za1 (K:Pd) (TL:Addr):Sp:=fun vs H Q _=>∃ (a b c d:V) (N:Hp->Prop),vs=[a,b,c,d]/\Js K TL [a,b,c,d] H Q (fun c d H'=>c=.ref TL/\d=none/\N H')/\∀ H' H2,N H'->Same H' H2->Q .non H2
theorem sc_law_go_on:A2 ["_law_tree", "_law_record", "_law_place", "_law_form", "_law_found"] ["_law_tree", "_law_record", "_law_place", "_law_form"] (Az K1):=by walk_at "sc"
theorem Zjr {TL:Addr} {f:Addr} {fd:FuncData} (F:Fun K "_law_go_on" "_law_go_on" K1 f fd) (T:Txt K mg) (C_go_on:Hd P w K mg base 8 "go_on" ["tree", "record", "place", "form"] (Js K TL)) (X_TooLong:Lc K TL) (G_TooLong:mg "TooLong" = some (.ref TL)) (O:R6 K (.ref TL) (.ref TL)=some true):FnOk P w K mg base Ar 9 f fd ["_law_tree", "_law_record", "_law_place", "_law_form"] (Za1 K TL):=by
 refine F.okq sc_law_go_on (fun vs H Q E h=>?_) (fun cdv A outer s H vs Q E hr h=>?_)
 ·obtain ⟨a,b,c,d,N,rfl,_⟩:=h
  rfl
 ·obtain ⟨a,b,c,d,N,rfl,G,q⟩:=h
  refine ⟨_,Ae (Ay 4 sc_law_go_on Gf)
   (Ae (Zmk X_TooLong G_TooLong rfl rfl (Zlg (i:=4) sc_law_go_on.nd rfl (Or.inl rfl) (Zlj C_go_on hr.m (fun _=>Aa (qv 0) (Aa (qv 1) (Aa (qv 2) (Aa (qv 3) Ab)))))) (fun _ _=>Ag (Ay 4 sc_law_go_on Gf)))
   (Ag (Au (qv 4)))),?_⟩
  walk_at "r"
  refine ⟨a,rfl,b,rfl,c,rfl,d,rfl,?_⟩
  dsimp only [J8]
  refine Zg4 (fun v H' h=>?_) (fun c d H' h=>?_) G
  ·walk_at "r"
   exact h
  ·obtain ⟨rfl,rfl,n⟩:=h
   refine ⟨⟨TL,rfl,O⟩,fun a1 ha1=>?_⟩
   walk_at "r"
   exact q _ _ n (Same.upd ha1)
noncomputable def Zda:Sp:=fun vs H Q _=>∃ c:Int,vs=[.int c]/\∀ z:Int,Q (.int z) H
theorem Zie:A2 ["_law_cell_here"] ["_law_cell_here"] (Az Iv):=by walk_at "sc"
theorem Zgo {f:Addr} {fd:FuncData} (F:Fun K "_law_number" "_law_number" Iv f fd) (T:Txt K mg):FnOk P w K mg base Ar 1 f fd ["_law_cell_here"] Zda:=by
 refine F.okq Zie (fun vs H Q E h=>?_) (fun cdv A outer s H vs Q E hr h=>?_)
 ·obtain ⟨c,rfl,_⟩:=h
  rfl
 ·obtain ⟨c,rfl,q⟩:=h
  refine ⟨_,Ae (A0 (Ax (Ba K hr.u200) (Aj Bq (qv 0) Ac) Ac (Aw _)) (Ag (Au (Aj Bq (Aj C8 (qv 0) Ac) Ac))) A6)
   (Ae (A0 (Ax (Ba K hr.u200) (Aj Bq (qv 0) Ac) Ac (Aw _)) (Ag (Au (Aj D8 (Aj D8 (Aj Nc Ac Ac) Ac) (Aj Bq (Aj C8 (qv 0) Ac) Ac)))) A6)
   (Ag (Au (Aj Bq (Aj Ex (qv 0) Ac) (Aj Nc Ac Ac))))),?_⟩
  walk_at "r"
  refine B4 (fun h=>?_) (fun h=>?_)
  ·walk_at "r"
   exact q _
  walk_at "r"
  refine B4 (fun h=>?_) (fun h=>?_)
  ·walk_at "r"
   exact q _
  walk_at "r"
  exact q _
noncomputable def Of (K:Pd):Sp:=fun vs H Q _=>∃ (c:Int),vs=[.int c]/\∀ v H' wd nv,Same H H'->TrAt K H' v (.mk wd (.flat nv) [])->LeafOk wd nv->Q v H'
theorem Zdu {K:Pd} {H:Hp} {a p:Addr} {w:Str} {n:V} (h1:H a=some (.tup [.str w,n,.ref p])) (h2:H p=some (.tup [])) (hn:Cb n=true):TrAt K H (.ref a) (.mk w (.flat n) []):=.mk (SqT.of h1) (.inl ⟨hn,rfl⟩) (SqT.of h2) rfl (fun j v t f1 f2=>nomatch f1)
theorem Jl {K:Pd} {H:Hp} {p a:Addr} {w:Str} {n:V} (h:H p=none) (h2:upd H p (.tup []) a=none) (hf:Cb n=true):Same H (upd (upd H p (.tup [])) a (.tup [.str w,n,.ref p]))/\TrAt K (upd (upd H p (.tup [])) a (.tup [.str w,n,.ref p])) (.ref a) (.mk w (.flat n) []):=⟨(Same.upd h).trans (Same.upd h2),Zdu Ad (Same.upd h2 _ _ Ad) hf⟩
theorem Zij:A2 ["_law_cell_here"] ["_law_cell_here"] (Az Kr):=by walk_at "sc"
theorem Znh {f:Addr} {fd:FuncData} (F:Fun K "_law_leaf" "_law_leaf" Kr f fd) (T:Txt K mg) (C__law_number:Bb P w K mg base 1 "_law_number" ["_law_cell_here"] Zda):FnOk P w K mg base Ar 2 f fd ["_law_cell_here"] (Of K):=by
 refine F.okq Zij (fun vs H Q E h=>?_) (fun cdv A outer s H vs Q E hr h=>?_)
 ·obtain ⟨c,rfl,_⟩:=h
  rfl
 ·obtain ⟨c,rfl,q⟩:=h
  refine ⟨_,Ae (A0 (Ax (Ba K hr.u200) (Aj Bq (qv 0) Ac) Ac (Aw _)) (Ag (Au (An (Aa As (Aa (A3 C__law_number hr.m (Aa (Aj C8 (qv 0) Ac) Ab)) (Aa (An Ab) Ab)))))) A6)
   (Ae (A0 (Ax (Ba K hr.u200) (Aj Bq (qv 0) Ac) Ac (Aw _)) (Ag (Au (An (Aa As (Aa (C3 (Ba K hr.u200) (Aj Bq (Aj C8 (qv 0) Ac) Ac) Ac (Aw _)) (Aa (An Ab) Ab)))))) A6)
   (Ag (Au (An (Aa As (Aa Gf (Aa (An Ab) Ab))))))),?_⟩
  walk_at "r"
  refine B4 (fun _=>?_) (fun _=>?_)
  ·walk_at "r"
   refine ⟨_,rfl,fun z=>?_⟩
   walk_at "r"
   refine ⟨Bf,fun p h1=>?_⟩
   walk_at "r"
   refine ⟨Bv,fun a h2=>?_⟩
   obtain ⟨s,t⟩:=Jl (K:=K) (w := "num") (n:=.int z) h1 h2 rfl
   exact q _ _ _ _ s t (.inl ⟨rfl,z,rfl⟩)
  walk_at "r"
  refine B4 (fun _=>?_) (fun _=>?_)
  ·walk_at "r"
   refine ⟨Bf,fun p h1=>?_⟩
   walk_at "r"
   refine ⟨Bv,fun a h2=>?_⟩
   exact q _ _ _ _ (Jl (K:=K) h1 h2 rfl).1 (Jl (K:=K) h1 h2 rfl).2 (.inr (.inl ⟨rfl,_,rfl⟩))
  walk_at "r"
  refine ⟨Bf,fun p h1=>?_⟩
  walk_at "r"
  refine ⟨Bv,fun a h2=>?_⟩
  obtain ⟨s,t⟩:=Jl (K:=K) (w := "gap") (n:=.non) h1 h2 rfl
  exact q _ _ _ _ s t (.inr (.inr (.inr (.inr ⟨rfl,rfl⟩))))
noncomputable def Zd9 (K:Pd):Sp:=fun vs H Q _=>∃ (c:Int) (p:Addr) (n0 n1 n2:Str),vs=[.int c,.ref p]/\SqL K H p [.str n0,.str n1,.str n2]/\∀ v H' t,Same H H'->TrAt K H' v t->Dd t->Q v H'
theorem Zf8 {K:Pd} {H:Hp} {a p:Addr} {w:Str} {nv u:V} {d:Dt} {t:Tr} (h1:H a=some (.tup [.str w,nv,.ref p])) (h2:H p=some (.tup [u])) (hn:IsN K H nv d) (hu:TrAt K H u t):TrAt K H (.ref a) (.mk w d [t]):=.mk (SqT.of h1) hn (SqT.of h2) rfl (fun j v t f1 f2=>by
 match j,f1,f2 with
 | 0,f1,f2=>cases f1; cases f2; exact hu)
theorem Zbh:A2 ["_law_cell_here", "_law_names_here", "_law_form"] ["_law_cell_here", "_law_names_here"] (Az Iq):=by walk_at "sc"
theorem Zk8 {f:Addr} {fd:FuncData} (F:Fun K "_law_part" "_law_part" Iq f fd) (T:Txt K mg) (C__law_leaf:Bb P w K mg base 2 "_law_leaf" ["_law_cell_here"] (Of K)):FnOk P w K mg base Ar 3 f fd ["_law_cell_here", "_law_names_here"] (Zd9 K):=by
 refine F.okq Zbh (fun vs H Q E h=>?_) (fun cdv A outer s H vs Q E hr h=>?_)
 ·obtain ⟨c,p,n0,n1,n2,rfl,_⟩:=h
  rfl
 ·obtain ⟨c,p,n0,n1,n2,rfl,hp,q⟩:=h
  refine ⟨_,Ae (A0 (Ax Ia (Aj Bq (qv 0) Ac) Ac (Aw _)) (Ag (Au (A3 C__law_leaf hr.m (Aa (Aj C8 (qv 0) Ac) Ab)))) A6)
   (Ae (Ay 2 Zbh (A3 C__law_leaf hr.m (Aa (Aj C8 (qv 0) Ac) Ab)))
   (Ae (A0 (Ax (Ba K hr.u200) (Aj Bq (Aj C8 (qv 0) Ac) Ac) Ac (Aw _)) (Ag (Ay 2 Zbh (An (Aa As (Aa (Ah K (qv 1) (Aj Bq (Aj C8 (qv 0) Ac) Ac)) (Aa (An Ab) Ab)))))) A6)
   (Ae (A0 (Ax (Ba K hr.u200) (Aj Bq (qv 0) Ac) Ac (Aw _)) (Ag (Au (An (Aa As (Aa (Ah K (qv 1) Ac) (Aa (An (Aa (qv 2) Ab)) Ab)))))) A6)
   (Ag (Au (An (Aa As (Aa (An (Aa (Ah K (qv 1) Ac) (Aa (Ah K (qv 1) Ac) Ab))) (Aa (An (Aa (qv 2) Ab)) Ab))))))))),?_⟩
  have bg:=big
  walk_at "r"
  refine B4 (fun _=>?_) (fun _=>?_)
  ·walk_at "r"
   refine ⟨_,rfl,fun v H1 wd nv s1 t1 ok=>?_⟩
   exact q _ _ _ s1 t1 (.leaf ok)
  walk_at "r"
  refine ⟨_,rfl,fun v H1 wd nv s1 t1 ok=>?_⟩
  refine s_gname ?_
  with_reducible refine s_seq ?_
  refine Kg (t:=F0 _ _ _) (R:=fun σ' H'=>∃ fv wd nv,σ'=[some (.int c),some (.ref p),some fv]/\Same H H'/\TrAt K H' fv (.mk wd (.flat nv) [])/\LeafOk wd nv) ?_ (fun Y hY=>?_)
  rotate_left
  ·walk_at "r"
   refine B4 (fun _=>?_) (fun _=>?_)
   ·walk_at "r"
    have d0:=Qq (c / 8) (show (3:Int)≠0 by decide)
    have d1:=Qw (c / 8) (show (0:Int) < 3 by decide)
    obtain ⟨n,hn⟩:∃ n:Str,[V.str n0,V.str n1,V.str n2][(c / 8 % 3).toNat]?=some (.str n):=by
     rcases (show c / 8 % 3=0\/c / 8 % 3=1\/c / 8 % 3=2 by omega) with h | h | h <;> rw [h]
     ·exact ⟨n0,rfl⟩
     ·exact ⟨n1,rfl⟩
     ·exact ⟨n2,rfl⟩
    have e2:=Bh hn
    rw [Us d0] at e2
    refine Bd (s1.seq hp) e2 ?_
    walk_at "r"
    refine ⟨Bf,fun p1 h1=>?_⟩
    walk_at "r"
    refine ⟨Bv,fun p2 h2=>?_⟩
    obtain ⟨sx,tx⟩:=Jl (K:=K) (w := "name") (n:=.str n) h1 h2 rfl
    walk_at "r"
    exact hY _ _ ⟨_,_,_,rfl,s1.trans sx,tx,.inr (.inr (.inl ⟨rfl,n,rfl⟩))⟩
   ·walk_at "r"
    exact hY _ _ ⟨_,_,_,rfl,s1,t1,ok⟩
  rintro _ H2 ⟨fv,wd,nv,rfl,s2,t2,ok2⟩
  have hp2:=s2.seq hp
  walk_at "r"
  refine B4 (fun _=>?_) (fun _=>?_)
  ·walk_at "r"
   refine Bd hp2 (Bh (j:=0) rfl) ?_
   walk_at "r"
   refine ⟨Cw,fun p1 h1=>?_⟩
   walk_at "r"
   refine ⟨Bv,fun p2 h2=>?_⟩
   have sx:=(Same.upd (o:=.tup [fv]) h1).trans (Same.upd (o:=.tup [.str "fn",.str n0,.ref p1]) h2)
   exact q _ _ _ (s2.trans sx) (Zf8 Ad (Same.upd h2 _ _ Ad) (.inl ⟨rfl,rfl⟩) (t2.same sx)) (.fn ok2)
  walk_at "r"
  refine Bd hp2 (Bh (j:=1) rfl) ?_
  walk_at "r"
  refine Bd hp2 (Bh (j:=0) rfl) ?_
  walk_at "r"
  refine ⟨A7,fun p0 h0=>?_⟩
  walk_at "r"
  refine ⟨Cw,fun p1 h1=>?_⟩
  walk_at "r"
  refine ⟨Bv,fun p2 h2=>?_⟩
  have sy:=(Same.upd (o:=.tup [fv]) h1).trans (Same.upd (o:=.tup [.str "rec",.ref p0,.ref p1]) h2)
  have sx:=(Same.upd (o:=.tup [.str n1,.str n0]) h0).trans sy
  refine q _ _ _ (s2.trans sx) (Zf8 (d:=.tup [.flat (.str n1),.flat (.str n0)]) Ad (Same.upd h2 _ _ Ad) ?_ (t2.same sx)) (.rc ok2)
  exact .inr ⟨p0,[.str n1,.str n0],rfl,SqT.of (sy _ _ Ad),rfl,rfl⟩
noncomputable def Zew (K:Pd):Sp:=fun vs H Q _=>∃ (a:Addr) (k:Int),vs=[.ref a,.int k]/\Script K H a/\0<=k/\k<=1000/\∀ z:Int,Q (.int z) H
theorem Zjy:A2 ["_law_script", "_law_k"] ["_law_script", "_law_k"] (Az Jb):=by walk_at "sc"
theorem Zn1 {f:Addr} {fd:FuncData} (F:Fun K "_law_cell" "_law_cell" Jb f fd) (T:Txt K mg):FnOk P w K mg base Ar 1 f fd ["_law_script", "_law_k"] (Zew K):=by
 refine F.okq Zjy (fun vs H Q E h=>?_) (fun cdv A outer s H vs Q E hr h=>?_)
 ·obtain ⟨a,k,rfl,_⟩:=h
  rfl
 ·obtain ⟨a,k,rfl,S,h0,h9,q⟩:=h
  obtain ⟨ns,hS,hl⟩:=S.ex
  refine ⟨_,Ae (A0 (Ax Ia (qv 1) (Bp (C6 K) (by rfl) T.len (by decide +kernel) (Aa (qv 0) Ab)) (Aw _)) (Ag (Au (Ah K (qv 0) (qv 1)))) A6)
   (Ag (Au (Aj (Cg K) (Aj Ex (qv 1) Ac) Ac))),?_⟩
  walk_at "r"
  refine Cm hS ?_
  walk_at "r"
  refine B4 (fun h=>?_) (fun h=>?_)
  ·have h1:k < (ns.map V.int).length:=by simpa using h
   obtain ⟨v,hv,m⟩:=Zfr h0 h1
   obtain ⟨z,_,rfl⟩:=List.mem_map.mp m
   walk_at "r"
   exact Bd hS hv (q z)
  ·walk_at "r"
   exact q _
noncomputable def Za2:Sp:=fun vs H Q _=>∃ (c k:Int),vs=[.int c,.int k]/\0<=k/\k<=1000/\∀ z:Int,0<=z->z < 999999999999999989->Q (.int z) H
theorem Zg3:A2 ["_law_cell_here", "_law_k"] ["_law_cell_here", "_law_k"] (Az La):=by walk_at "sc"
theorem Zrp {f:Addr} {fd:FuncData} (F:Fun K "_law_mixed" "_law_mixed" La f fd) (T:Txt K mg):FnOk P w K mg base Ar 1 f fd ["_law_cell_here", "_law_k"] Za2:=by
 refine F.okq Zg3 (fun vs H Q E h=>?_) (fun cdv A outer s H vs Q E hr h=>?_)
 ·obtain ⟨a,k,rfl,_⟩:=h
  rfl
 ·obtain ⟨a,k,rfl,h0,h9,q⟩:=h
  refine ⟨_,Ag (Au (Aj Bq (Aj Ex (Aj (Cg K) (Aj (Cg K) (qv 0) (Aj Ex Ac (qv 1))) Ac) Ac) Ac)),?_⟩
  walk_at "r"
  exact q _ (Qq _ (by decide)) (Qw _ (by decide))
noncomputable def F8 (K:Pd) (n:Nat):Sp:=fun vs H Q _=>∃ (x y:V) (d:Dt) (m:Nat),vs=[x,y]/\m < n/\IsD K H m x d/\IsD K H m y d/\Dy d/\∀ H',Same H H'->Q (.bl true) H'
theorem sc_law_same:A2 ["_law_found", "_law_due_here", "_law_k"] ["_law_found", "_law_due_here"] (Az Ig):=by walk_at "sc"
theorem Zhj {n:Nat} {f:Addr} {fd:FuncData} (F:Fun K "_law_same" "_law_same" Ig f fd) (T:Txt K mg) (C__law_same:Bb P w K mg base (n + 1) "_law_same" ["_law_found", "_law_due_here"] (F8 K n)):FnOk P w K mg base Ar (n + 2) f fd ["_law_found", "_law_due_here"] (F8 K (n + 1)):=by
 refine F.okq sc_law_same (fun vs H Q E h=>?_) (fun cdv A outer s H vs Q E hr h=>?_)
 ·obtain ⟨x,y,d,m,rfl,_⟩:=h
  rfl
 ·obtain ⟨x,y,d,m,rfl,hm,hx,hy,hd,q⟩:=h
  refine ⟨_,Ae (A0 (QW.qt (Me (Dm (Bp (Cz K "bool") (by rfl) T.isinstance (by decide +kernel) (Aa (qv 0) (Aa (C2 (v:=.ty "bool") (by rfl) T.bool (by decide +kernel) rfl) Ab)))) (L9 (Dm (Bp (Cz K "bool") (by rfl) T.isinstance (by decide +kernel) (Aa (qv 1) (Aa (C2 (v:=.ty "bool") (by rfl) T.bool (by decide +kernel) rfl) Ab))))))) (Ag (Au (Fl (Bp (Cz K "bool") (by rfl) T.isinstance (by decide +kernel) (Aa (qv 0) (Aa (C2 (v:=.ty "bool") (by rfl) T.bool (by decide +kernel) rfl) Ab))) (Fl (Bp (Cz K "bool") (by rfl) T.isinstance (by decide +kernel) (Aa (qv 1) (Aa (C2 (v:=.ty "bool") (by rfl) T.bool (by decide +kernel) rfl) Ab))) (Fd (C3 (Ba K hr.u200) (qv 0) (qv 1) (Aw _))))))) A6)
   (Ae (A0 (QW.qt (Me (Dm (Bp (Cz K "list") (by rfl) T.isinstance (by decide +kernel) (Aa (qv 1) (Aa (C2 (v:=.ty "list") (by rfl) T.list (by decide +kernel) rfl) Ab)))) (L9 (Dm (Bp (Cz K "tuple") (by rfl) T.isinstance (by decide +kernel) (Aa (qv 1) (Aa (C2 (v:=.ty "tuple") (by rfl) T.tuple (by decide +kernel) rfl) Ab))))))) (Ae (A0 (QW.qt (Da (Kj (Dm (Bp (Cz K "list") (by rfl) T.isinstance (by decide +kernel) (Aa (qv 0) (Aa (C2 (v:=.ty "list") (by rfl) T.list (by decide +kernel) rfl) Ab))))) (Dp (Kj (Dm (Bp (Cz K "tuple") (by rfl) T.isinstance (by decide +kernel) (Aa (qv 0) (Aa (C2 (v:=.ty "tuple") (by rfl) T.tuple (by decide +kernel) rfl) Ab)))))))) (Ag (Au Dw)) A6)
   (Ae (A0 (QW.qt (Me (Ax (Ei K hr.u200) (Bp (Cz K "list") (by rfl) T.isinstance (by decide +kernel) (Aa (qv 0) (Aa (C2 (v:=.ty "list") (by rfl) T.list (by decide +kernel) rfl) Ab))) (Bp (Cz K "list") (by rfl) T.isinstance (by decide +kernel) (Aa (qv 1) (Aa (C2 (v:=.ty "list") (by rfl) T.list (by decide +kernel) rfl) Ab))) (Aw _)) (L9 (Ax (Ei K hr.u200) (Bp (C6 K) (by rfl) T.len (by decide +kernel) (Aa (qv 0) Ab)) (Bp (C6 K) (by rfl) T.len (by decide +kernel) (Aa (qv 1) Ab)) (Aw _))))) (Ag (Au Dw)) A6)
   (Ae (Dz Qp rfl (Mp rfl T.range (Aa (Bp (C6 K) (by rfl) T.len (by decide +kernel) (Aa (qv 1) Ab)) Ab)) (A9 (i:=2) sc_law_same.nd rfl (Or.inl rfl)) (Ag (A0 (Kj (Dm (A3 C__law_same (hr.mono (by omega)) (Aa (Ah K (qv 0) (qv 2)) (Aa (Ah K (qv 1) (qv 2)) Ab))))) (Ag (Au Dw)) A6)))
   (Ag (Au Dw))))) A6)
   (Ae (A0 (Dm (Bp (Cz K "str") (by rfl) T.isinstance (by decide +kernel) (Aa (qv 1) (Aa (C2 (v:=.ty "str") (by rfl) T.str (by decide +kernel) rfl) Ab)))) (Ag (Au (Fl (Bp (Cz K "str") (by rfl) T.isinstance (by decide +kernel) (Aa (qv 0) (Aa (C2 (v:=.ty "str") (by rfl) T.str (by decide +kernel) rfl) Ab))) (Fd (C3 (Ba K hr.u200) (qv 0) (qv 1) (Aw _)))))) A6)
   (Ae (A0 (Dm (Bp (Cz K "int") (by rfl) T.isinstance (by decide +kernel) (Aa (qv 1) (Aa (C2 (v:=.ty "int") (by rfl) T.int (by decide +kernel) rfl) Ab)))) (Ag (Au (Fl (Bp (Cz K "int") (by rfl) T.isinstance (by decide +kernel) (Aa (qv 0) (Aa (C2 (v:=.ty "int") (by rfl) T.int (by decide +kernel) rfl) Ab))) (Fd (C3 (Ba K hr.u200) (qv 0) (qv 1) (Aw _)))))) A6)
   (Ag (Au (Fl (Zbp (Mm (qv 0))) (Fd (Zbp (Mm (qv 1)))))))))),?_⟩
  have bg:=big
  cases hx with
  | flat hv =>
   cases hy with
   | flat _ =>
   cases x with
   | non =>
    walk_at "r"
    refine B5 (b:=false) .non rfl ?_
    walk_at "r"
    refine B5 (b:=false) .non rfl ?_
    walk_at "r"
    refine B5 (b:=false) .non rfl ?_
    walk_at "r"
    refine B5 (b:=false) .non rfl ?_
    walk_at "r"
    refine B5 (b:=false) .non rfl ?_
    walk_at "r"
    refine B5 (b:=false) .non rfl ?_
    walk_at "r"
    rw [decide_eq_true (Eq.refl _)]
    walk_at "r"
    rw [decide_eq_true (Eq.refl _)]
    walk_at "r"
    exact q H (Same.refl _)
   | bl b =>
    walk_at "r"
    refine B5 (b:=true) (.bl b) rfl ?_
    walk_at "r"
    refine B5 (b:=true) (.bl b) rfl ?_
    walk_at "r"
    refine B5 (b:=true) (.bl b) rfl ?_
    walk_at "r"
    rw [decide_eq_true (Eq.refl _)]
    walk_at "r"
    exact q H (Same.refl _)
   | int b =>
    walk_at "r"
    refine B5 (b:=false) (.int b) rfl ?_
    walk_at "r"
    refine B5 (b:=false) (.int b) rfl ?_
    walk_at "r"
    refine B5 (b:=false) (.int b) rfl ?_
    walk_at "r"
    refine B5 (b:=false) (.int b) rfl ?_
    walk_at "r"
    refine B5 (b:=false) (.int b) rfl ?_
    walk_at "r"
    refine B5 (b:=true) (.int b) rfl ?_
    walk_at "r"
    refine B5 (b:=true) (.int b) rfl ?_
    walk_at "r"
    rw [decide_eq_true (Eq.refl _)]
    walk_at "r"
    exact q H (Same.refl _)
   | str b =>
    walk_at "r"
    refine B5 (b:=false) (.str b) rfl ?_
    walk_at "r"
    refine B5 (b:=false) (.str b) rfl ?_
    walk_at "r"
    refine B5 (b:=false) (.str b) rfl ?_
    walk_at "r"
    refine B5 (b:=false) (.str b) rfl ?_
    walk_at "r"
    refine B5 (b:=true) (.str b) rfl ?_
    walk_at "r"
    refine B5 (b:=true) (.str b) rfl ?_
    walk_at "r"
    rw [decide_eq_true (Eq.refl _)]
    walk_at "r"
    exact q H (Same.refl _)
   | _=>exact absurd hv (by simp [Cb])
  | @tup k a vs ds qa la ha =>
   cases hy with
   | @tup _ c ws _ qc lc hc =>
   cases hd with
   | tup hl hds =>
   walk_at "r"
   refine Fz (b:=false) qa rfl ?_
   walk_at "r"
   refine Fz (b:=false) qc rfl ?_
   walk_at "r"
   refine Fz (b:=false) qc rfl ?_
   walk_at "r"
   refine Fz (b:=true) qc rfl ?_
   walk_at "r"
   refine Fz (b:=false) qa rfl ?_
   walk_at "r"
   refine Fz (b:=true) qa rfl ?_
   walk_at "r"
   refine Fz (b:=false) qa rfl ?_
   walk_at "r"
   refine Fz (b:=false) qc rfl ?_
   walk_at "r"
   rw [decide_eq_true (Eq.refl _)]
   walk_at "r"
   refine Fa qa ?_
   walk_at "r"
   refine Fa qc ?_
   walk_at "r"
   rw [la,lc,decide_eq_true (Eq.refl _)]
   walk_at "r"
   refine Fa qc ?_
   walk_at "r"
   rw [lc]
   refine ⟨by omega,by omega,?_⟩
   refine Kw (n:=(ds.length:Int).toNat) (fun i σ' H'=>∃ v2,σ'=[some (.ref a),some (.ref c),v2]/\Same H H') ⟨none,rfl,Same.refl _⟩ ?_ ?_
   ·rintro i σ' H' hi ⟨v2,rfl,sm⟩
    have hi:i < ds.length:=by omega
    have e0:(0:Int) + (i:Int)=((i:Nat):Int):=by omega
    rw [e0]
    have hiv:i < vs.length:=by omega
    have hiw:i < ws.length:=by omega
    walk_at "r"
    refine Ak (sm.tup qa) (Bh (Pg hiv)) ?_
    walk_at "r"
    refine Ak (sm.tup qc) (Bh (Pg hiw)) ?_
    walk_at "r"
    refine ⟨vs[i],ws[i],ds[i],k,rfl,by omega,(ha i _ _ (Pg hiv) (Pg hi)).same sm,(hc i _ _ (Pg hiw) (Pg hi)).same sm,hds _ (Tp hi),fun H2 s2=>?_⟩
    walk_at "r"
    exact ⟨_,rfl,sm.trans s2⟩
   ·rintro σ' H' ⟨v2,rfl,sm⟩
    walk_at "r"
    exact q H' sm
  | @lst k a vs ds qa la ha =>
   cases hy with
   | @lst _ c ws _ qc lc hc =>
   cases hd with
   | lst hl hds =>
   walk_at "r"
   refine Hw (b:=false) qa rfl ?_
   walk_at "r"
   refine Hw (b:=false) qc rfl ?_
   walk_at "r"
   refine Hw (b:=true) qc rfl ?_
   walk_at "r"
   refine Hw (b:=true) qa rfl ?_
   walk_at "r"
   refine Hw (b:=true) qa rfl ?_
   walk_at "r"
   refine Hw (b:=true) qc rfl ?_
   walk_at "r"
   rw [decide_eq_true (Eq.refl _)]
   walk_at "r"
   refine Cm qa ?_
   walk_at "r"
   refine Cm qc ?_
   walk_at "r"
   rw [la,lc,decide_eq_true (Eq.refl _)]
   walk_at "r"
   refine Cm qc ?_
   walk_at "r"
   rw [lc]
   refine ⟨by omega,by omega,?_⟩
   refine Kw (n:=(ds.length:Int).toNat) (fun i σ' H'=>∃ v2,σ'=[some (.ref a),some (.ref c),v2]/\Same H H') ⟨none,rfl,Same.refl _⟩ ?_ ?_
   ·rintro i σ' H' hi ⟨v2,rfl,sm⟩
    have hi:i < ds.length:=by omega
    have e0:(0:Int) + (i:Int)=((i:Nat):Int):=by omega
    rw [e0]
    have hiv:i < vs.length:=by omega
    have hiw:i < ws.length:=by omega
    walk_at "r"
    refine Bd (sm.seq qa) (Bh (Pg hiv)) ?_
    walk_at "r"
    refine Bd (sm.seq qc) (Bh (Pg hiw)) ?_
    walk_at "r"
    refine ⟨vs[i],ws[i],ds[i],k,rfl,by omega,(ha i _ _ (Pg hiv) (Pg hi)).same sm,(hc i _ _ (Pg hiw) (Pg hi)).same sm,hds _ (Tp hi),fun H2 s2=>?_⟩
    walk_at "r"
    exact ⟨_,rfl,sm.trans s2⟩
   ·rintro σ' H' ⟨v2,rfl,sm⟩
    walk_at "r"
    exact q H' sm
noncomputable def LETS:Str := "abcdefghijklmnopqrstuvwxyz_"
theorem Zi0:LETS.cps.toList.length=27:=by decide +kernel
theorem Zmw:LETS.length<=sizeLine:=by decide +kernel
theorem Zo3 (u v:Str):(u++v).length=u.length + v.length:=by
 show (u.cps++v.cps).size=_
 simp [Str.length]
theorem Zev (c:Nat):(⟨#[c]⟩:Str).length=1:=rfl
noncomputable def Zdk:Sp:=fun vs H Q _=>∃ (a:Int),vs=[.int a,.int 3]/\∀ (p:Addr) (t0 t1 t2:Str) (H':Hp),Same H H'->H p=none->t0≠t1->H' p=some (.lst [.str t0,.str t1,.str t2])->Q (.ref p) H'
theorem sc_law_names:A2 ["_law_cell_here", "_law_many", "_law_signs", "_law_kept", "_law_size", "_law_at", "_law_names_here", "_law_k", "_law_word", "_law_j", "_law_step"] ["_law_cell_here", "_law_many"] (Az Kk):=by walk_at "sc"
theorem Zlb {α:Type} {xs:List α} (h:xs.length=3):∃ a b c,xs=[a,b,c]:=by
 match xs,h with
 | [a,b,c],_=>exact ⟨a,b,c,rfl⟩
noncomputable def Ea (a:Int):Int:=a / 8 % (1 + a % 8)
noncomputable def LetJ (a:Int) (j:Nat) (t:Str):Prop:=∃ c,t.cps.toList[(Ea a).toNat]?=some c/\Cf LETS.cps.toList ((a / 64 / (Ea a + 1) + 5 * Ea a + (0 + (j:Int)) * 1) % 27)=some c
theorem Zgf (t u:Str):(t++u).cps.toList=t.cps.toList++u.cps.toList:=by
 show (t.cps++u.cps).toList=_
 simp
theorem LetJ.app {a:Int} {j:Nat} {t:Str} (h:LetJ a j t) (u:Str):LetJ a j (t++u):=by
 obtain ⟨c,h1,h2⟩:=h
 refine ⟨c,?_,h2⟩
 rw [Zgf,Qa (Pq.mp h1).1]
 exact h1
theorem Zhf:∀ i,i < 27->∀ j,j < 27->LETS.cps.toList[i]?=LETS.cps.toList[j]?->i=j:=by decide +kernel
theorem Zfq {α:Type} {xs:List α} {i:Int} {x:α} (h0:0<=i) (h:Cf xs i=some x):xs[i.toNat]?=some x:=by
 unfold Cf Fm at h
 rw [if_pos h0] at h
 by_cases hl:i < (xs.length:Int)
 ·rw [if_pos hl] at h
  simpa using h
 ·rw [if_neg hl] at h
  simp at h
theorem LetJ.ne {a:Int} {t0 t1:Str} (h0:LetJ a 0 t0) (h1:LetJ a 1 t1):t0≠t1:=by
 rintro rfl
 obtain ⟨c,g,e⟩:=h0
 obtain ⟨c',g',e'⟩:=h1
 rw [g] at g'
 cases g'
 generalize a / 64 / (Ea a + 1) + 5 * Ea a=E at e e'
 have b0:=Qq (E + (0 + ((0:Nat):Int)) * 1) (show (27:Int)≠0 by decide)
 have b1:=Qw (E + (0 + ((0:Nat):Int)) * 1) (show (0:Int) < 27 by decide)
 have c0:=Qq (E + (0 + ((1:Nat):Int)) * 1) (show (27:Int)≠0 by decide)
 have c1:=Qw (E + (0 + ((1:Nat):Int)) * 1) (show (0:Int) < 27 by decide)
 have:=Zhf _ (by omega) _ (by omega) ((Zfq b0 e).trans (Zfq c0 e').symm)
 omega
noncomputable def Ky:List V:=[.str "let",.str "in",.str "if",.str "then",.str "else",.str "fn",.str "rec",.str "yes",.str "no"]
noncomputable def NmJ (H:Hp) (a:Int) (D p:Addr) (j:Nat) (σ':St) (H':Hp):Prop:=∃ (v7 v8 v9 v10:Option V) (ts:List Str),σ'=[some (.int a),some (.int 3),some (.str LETS),some (.ref D),some (.int (1 + a % 8)),some (.int (a / 8 % (1 + a % 8))),some (.ref p),v7,v8,v9,v10]/\H' D=some (.lst Ky)/\H' p=some (.lst (ts.map V.str))/\ts.length=j/\Same H H'/\∀ (i:Nat) (x:Str),ts[i]?=some x->LetJ a i x
theorem Zmd {f:Addr} {fd:FuncData} (F:Fun K "_law_names" "_law_names" Kk f fd) (T:Txt K mg) (C__law_mixed:Bb P w K mg base 1 "_law_mixed" ["_law_cell_here", "_law_k"] Za2):FnOk P w K mg base Ar 2 f fd ["_law_cell_here", "_law_many"] Zdk:=by
 refine F.okq sc_law_names (fun vs H Q E h=>?_) (fun cdv A outer s H vs Q E hr h=>?_)
 ·obtain ⟨a,rfl,_⟩:=h
  rfl
 ·obtain ⟨a0,rfl,q⟩:=h
  refine ⟨_,Ae (Ay 2 sc_law_names As)
   (Ae (Ay 3 sc_law_names (Bc (He (xs:=[.str "let",.str "in",.str "if",.str "then",.str "else",.str "fn",.str "rec",.str "yes",.str "no"]) rfl)))
   (Ae (Ay 0 sc_law_names (A3 C__law_mixed hr.m (Aa (qv 0) (Aa Ac Ab))))
   (Ae (Ay 4 sc_law_names (Aj (Cg K) Ac (Aj Bq (qv 0) Ac)))
   (Ae (Ay 5 sc_law_names (Aj Bq (Aj C8 (qv 0) Ac) (qv 4)))
   (Ae (Ay 6 sc_law_names (Bc Ab))
   (Ae (Dz Qp rfl (Mp rfl T.range (Aa (qv 1) Ab)) (A9 (i:=7) sc_law_names.nd rfl (Or.inl rfl)) (Ae (Ay 8 sc_law_names As)
   (Ae (Dz Qp rfl (Mp rfl T.range (Aa (qv 4) Ab)) (A9 (i:=9) sc_law_names.nd rfl (Or.inl rfl)) (Ae (Ay 10 sc_law_names (Aj (Cg K) (Aj C8 (Aj C8 (qv 0) Ac) (Aj (Cg K) (qv 9) Ac)) (Aj Ex Ac (qv 9))))
   (Ag (Ay 8 sc_law_names (Aj (Cg K) (qv 8) (Ah K (qv 2) (Aj Bq (Aj (Cg K) (qv 10) (Aj Ex (qv 7) (Dk K3 (by rfl) T.int (by decide +kernel) (Aa (C3 (Ba K hr.u200) (qv 9) (qv 5) (Aw _)) Ab)))) Ac)))))))
   (Ae (A0 (Ax (E7 K) (qv 8) (qv 3) (by rfl)) (Ag (Ay 8 sc_law_names (Aj (Cg K) (qv 8) As))) A6)
   (Ag (Be (Bw K Pt P4 P5 Bz (qv 6) (Aa (qv 8) Ab))))))))
   (Ag (Au (qv 6))))))))),?_⟩
  have bg:=big
  walk_at "r"
  refine ⟨sz9,fun D hD=>?_⟩
  walk_at "r"
  refine ⟨a0,3,rfl,by decide,by decide,fun a ha0 ha1=>?_⟩
  have hs0:0<=a % 8:=Qq a (by decide)
  have hs1:a % 8 < 8:=Qw a (by decide)
  walk_at "r"
  refine s_rI (by show (0:Int) < 1 + a % 8; omega) ?_
  walk_at "r"
  refine ⟨Bf,fun p hp=>?_⟩
  have hpD:D≠p:=fun z=>by rw [<- z,Ad] at hp; cases hp
  have hp0:H p=none:=(Same.upd hD).free hp
  have sm0:Same H (upd (upd H D (.lst Ky)) p (.lst [])):=(Same.upd (o:=.lst Ky) hD).put hp
  have hD0:upd (upd H D (.lst Ky)) p (.lst []) D=some (.lst Ky):=by rw [Af hpD]; exact Ad
  walk_at "r"
  refine ⟨by decide,by decide,?_⟩
  have hat:0<=Ea a/\Ea a < 1 + a % 8:=⟨Qq _ (by omega),Qw _ (by omega)⟩
  refine Kw (n:=3) (NmJ H a D p) ⟨_,_,_,_,[],rfl,hD0,Ad,rfl,sm0,fun i x h=>by simp at h⟩ ?_ ?_
  ·rintro j σ' H2 hj ⟨v7,v8,v9,v10,ts,rfl,hD2,hp2,hl2,sm2,lt2⟩
   walk_at "r"
   refine ⟨by omega,by omega,?_⟩
   refine Kw (n:=(1 + a % 8).toNat) (fun k σ' H'=>∃ v9 v10 t,σ'=[some (.int a),some (.int 3),some (.str LETS),some (.ref D),some (.int (1 + a % 8)),some (.int (a / 8 % (1 + a % 8))),some (.ref p),some (.int (0 + j)),some (.str t),v9,v10]/\t.length=k/\((Ea a).toNat < k->LetJ a j t)/\H'=H2) ⟨_,_,Str.empty,rfl,rfl,(fun h=>absurd h (Nat.not_lt_zero _)),rfl⟩ ?_ ?_
   ·rintro k σ' H3 hk ⟨v9',v10',t,rfl,hl3,lt3,rfl⟩
    walk_at "r"
    refine s_rI (by show (0:Int) < 0 + k + 1/\(0:Int) + k + 1 < 1073741824; omega) ?_
    walk_at "r"
    refine s_mul_r (by split <;> decide) (by split <;> decide) ?_
    walk_at "r"
    obtain ⟨c,hc,_⟩:=Zfr (xs:=LETS.cps.toList) (i:=(a / 64 / (0 + (k:Int) + 1) + 5 * (0 + (k:Int)) + (0 + (j:Int)) * (if decide (V.int (0 + (k:Int))=V.int (a / 8 % (1 + a % 8)))=true then 1 else 0)) % 27) (Qq _ (by decide)) (by rw [Zi0]; exact Qw _ (by decide))
    refine Zl5 Zmw hc ?_
    refine Zc6 (by rw [Zev]; omega) ?_
    refine ⟨_,_,_,rfl,by rw [Zo3,Zev]; omega,fun hlt=>?_,rfl⟩
    by_cases hk2:(Ea a).toNat < k
    ·exact (lt3 hk2).app _
    ·have ek:(0:Int) + (k:Int)=Ea a:=by omega
     have en:(Ea a).toNat=t.cps.toList.length:=by
      have:t.cps.toList.length=t.length:=by simp [Str.length]
      omega
     refine ⟨c,?_,?_⟩
     ·rw [Zgf,en]
      simp
     ·rw [<- hc,ek,decide_eq_true (show V.int (Ea a)=V.int (a / 8 % (1 + a % 8)) from rfl),if_pos rfl]
   ·rintro σ' H3 ⟨v9',v10',t,rfl,hl3,lt3,rfl⟩
    walk_at "r"
    refine Ec (.inl (SqL.of hD2)) rfl rfl ?_
    have ltE:LetJ a j t:=lt3 (by omega)
    have fin:∀ (t':Str),LetJ a j t'->NmJ H a D p (j + 1) [some (.int a),some (.int 3),some (.str LETS),some (.ref D),some (.int (1 + a % 8)),some (.int (a / 8 % (1 + a % 8))),some (.ref p),some (.int (0 + (j:Int))),some (.str t'),v9',v10'] (upd H3 p (.lst (ts.map V.str++[.str t']))):=fun t' lt' =>
     ⟨_,_,_,_,ts++[t'],rfl,by rw [Af hpD]; exact hD2,by rw [Ad,Qy]; rfl,by simp [hl2],sm2.over hp0,fun i x hx=>by
      by_cases hi:i < ts.length
      ·rw [Qa hi] at hx
       exact lt2 i x hx
      ·have hi2:i < (ts++[t']).length:=(Pq.mp hx).1
       rw [Pi,Pr] at hi2
       have ei:i=ts.length:=by omega
       rw [ei,List.getElem?_concat_length] at hx
       cases hx
       rw [ei,hl2]
       exact lt'⟩
    walk_at "r"
    refine B4 (fun _=>?_) (fun _=>?_)
    ·walk_at "r"
     have l1:(Qs "_").length=1:=by decide +kernel
     refine Zc6 (by rw [l1]; omega) ?_
     walk_at "r"
     refine Bj (SqL.of hp2) ?_
     walk_at "r"
     refine Bt hp2 (by rw [Pp]; omega) ?_
     exact fin _ (ltE.app _)
    ·walk_at "r"
     refine Bj (SqL.of hp2) ?_
     walk_at "r"
     refine Bt hp2 (by rw [Pp]; omega) ?_
     exact fin _ ltE
  ·rintro σ' H2 ⟨v7,v8,v9,v10,ts,rfl,hD2,hp2,hl2,sm2,lt2⟩
   obtain ⟨t0,t1,t2,rfl⟩:=Zlb hl2
   walk_at "r"
   exact q p _ _ _ _ sm2 hp0 ((lt2 0 t0 rfl).ne (lt2 1 t1 rfl)) hp2
end
end K52
namespace K52
open PySem L2
noncomputable def Lu (x:Str×V) (rs:List Rx) (n:Int):Dt:=.tup [Hq x,.lst (rs.map rzD),.flat (.int n)]
theorem L6 {K:Pd} {H:Hp} {A:Addr->Prop} {r rd:Addr} {av:V} {rv:List V} {x:Str×V} {rs:List Rx} {n:Int} (q:SqT K H r [av,.ref rd,.int n]) (hx:ThAt K H av x) (hr:H rd=some (.lst rv)) (al:Al (RwAt K A H) rv rs):IsD K H 6 (.ref r) (Lu x rs n):=by
 refine .tup q rfl fun j v d h1 h2=>?_
 match j,h1,h2 with
 | 0,h1,h2=>cases h1; cases h2; exact (ThAt.d hx).up (by decide)
 | 1,h1,h2=>cases h1; cases h2; exact Al.lstD al (SqL.of hr) fun v x h=>RwAt.d h
 | 2,h1,h2=>cases h1; cases h2; exact .flat rfl
theorem Zao {T:Tk} {n:Nat} {r:Rx} (M:MkR T n r):r.Ok:=by
 cases M with
 | gap h =>
  simp only [Pm,P0,or_false] at h
  rcases h with rfl | rfl | rfl <;> exact ⟨by decide,Pn _,Pn _⟩
 | two h=>rcases h with ⟨_,rfl⟩ | ⟨_,rfl⟩ <;> exact ⟨by show (Ap _).length<=5000; decide,by show 2<=5000; decide,Pn _⟩
 | ifs=>exact ⟨by show (Ap _).length<=5000; decide,by show 1<=5000; decide,Pn _⟩
 | fn=>exact ⟨by show (Ap _).length<=5000; decide,Pn _,Pn _⟩
theorem Zhk {wd:Str} {nv:V} {k:Nat} {pl:List Nat} {ar:List (Str×Str×V)} (hp:pl.length<=10) (ha:ar.length<=10):∀ q∈(B1 wd nv k pl ar).2,q.Ok:=by
 intro q hq
 unfold B1 at hq
 split at hq
 ·cases hq
 ·split at hq
  ·cases hq
  ·rw [P8.mp hq]
   refine ⟨by show (Ap pl).length<=5000; unfold Ap; rw [Pp]; omega,Pn _,?_⟩
   show (if wd = "gap" then ar else []).length<=5000
   split
   ·omega
   ·exact Pn _
theorem Mn {t:Tr} {k:Nat} {pl:List Nat} {ar:List (Str×Str×V)} (ok:Dd t) (hp:pl.length<=10) (ha:ar.length<=10):∀ q∈(Dq t k pl ar).2,q.Ok:=by
 cases ok with
 | leaf ok=>exact Zhk hp ha
 | fn ok=>intro q hq; rw [P8.mp hq]; exact ⟨by show (Ap pl).length<=5000; unfold Ap; rw [Pp]; omega,Pn _,Pn _⟩
 | rc ok=>intro q hq; rw [P8.mp hq]; exact ⟨by show (Ap pl).length<=5000; unfold Ap; rw [Pp]; omega,Pn _,Pn _⟩
theorem Zrd (t:Tr) (x y:Str×V):(Dl t x y).length<=10:=by
 cases t with
 | mk wd d ts =>
  show (if wd = "rec" then (Dj wd d 0).zip [x,y] else (Dj wd d 0).zip [y]).length<=10
  split <;> rw [List.length_zip] <;> have:=Zej wd d 0 <;> omega
theorem Zop {t:Tr} (ok:Dd t):Dd (F4 t):=by
 cases ok with
 | leaf ok=>exact .leaf (.inr (.inr (.inr (.inr ⟨rfl,rfl⟩))))
 | fn ok=>exact .leaf ok
 | rc ok=>exact .leaf ok
theorem Zo0 {T:Tk} {fl:List Nat} {tw:Str} {tn:V} {bc:List (Str×V)} {rs nr:List Rx} {r:Rx} {x:Str×V} {m:Int} (TO:T.Ok) (hf:fl∈([[0],[1,0],[1,1,0]]:List (List Nat))) (ok:LeafOk tw tn) (M:MkR T bc.length r) (O:Du T fl (.mk tw (.flat tn) []) bc rs r x nr m):∀ q∈nr,q.Ok:=by
 have hl:fl.length<=10:=by
  simp only [Pm,P0,or_false] at hf
  rcases hf with rfl | rfl | rfl <;> decide
 cases O with
 | fill h hp=>exact Mn (.leaf ok) hl (by decide)
 | new hn h=>intro q hq; rw [P8.mp hq]; exact ⟨(Zao M).pl,Pn _,Pn _⟩
 | @ift x b h hx =>
  cases b with
  | true=>exact Mn TO.op (by decide) (by decide)
  | false=>exact Mn (.leaf TO.ol) (by decide) (by decide)
 | ifr h hx=>intro q hq; rw [P8.mp hq]; exact ⟨by show (Ap _).length<=5000; decide,by show 1<=5000; decide,Pn _⟩
 | call h hx hq hf=>exact Mn (Zop TO.op) (by decide) (Zrd _ _ _)
 | @join wd pl x y h hc =>
  subst h
  intro q hq
  unfold Ck at hq
  split at hq
  ·cases hq
  ·rw [P8.mp hq]
   exact ⟨(Zao M).pl,by show 2<=5000; decide,Pn _⟩
theorem Zmc {T:Tk} {fl:List Nat} {tw:Str} {tn:V} (TO:T.Ok) (hf:fl∈([[0],[1,0],[1,1,0]]:List (List Nat))) (ok:LeafOk tw tn) {rs:List Rx} {bc bc':List (Str×V)} {ro ro':List Rx} {st st':Int} (D:DusC T fl (.mk tw (.flat tn) []) rs bc ro st bc' ro' st'):(∀ j r,rs[j]?=some r->MkR T (bc.length + j) r)->(∀ q∈ro,q.Ok)->∀ q∈ro',q.Ok:=by
 induction D with
 | nil=>exact fun _ h=>h
 | @cons r rs bc bc' ro nr ro' x m st st' O D ih =>
  intro M h
  refine ih (fun j q hq=>?_) (fun q hq=>?_)
  ·have:=M (j + 1) q hq
   rw [Pi,Pr,show bc.length + 1 + j=bc.length + (j + 1) by omega]
   exact this
  ·rcases Rl.mp hq with z | z
   ·exact h q z
   ·exact Zo0 TO hf ok (M 0 r rfl) O q z
theorem Zga {x:Str×V} {rs:List Rx} {n:Int} (hl:rs.length<=100) (h:∀ q∈rs,q.Ok):Dy (Lu x rs n):=.tup (by show 3<=5000; decide) fun d hd=>by
 simp only [Pm,P0,or_false] at hd
 rcases hd with rfl | rfl | rfl
 ·exact Zar _
 ·exact Zbm (by omega) fun x hx=>Zhh (h x hx)
 ·exact .flat _
theorem Zlm {T:Tk} {fl:List Nat} {tf:Tr} (hf:fl∈([[0],[1,0],[1,1,0]]:List (List Nat))):∃ a b c,K19.withAt (Ci T gapT gapT gapT) fl tf=Ci T a b c/\(fl=[0]/\a=tf\/fl=[1,0]/\b=tf\/fl=[1,1,0]/\c=tf):=by
 simp only [Pm,P0,or_false] at hf
 rcases hf with rfl | rfl | rfl
 ·exact ⟨tf,gapT,gapT,by simp [Ci,K19.withAt],.inl ⟨rfl,rfl⟩⟩
 ·exact ⟨gapT,tf,gapT,by simp [Ci,K19.withAt],.inr (.inl ⟨rfl,rfl⟩)⟩
 ·exact ⟨gapT,gapT,tf,by simp [Ci,K19.withAt],.inr (.inr ⟨rfl,rfl⟩)⟩
end K52
namespace K52
open PySem L2 K19
theorem Zd4 {t:Tr} (h:Dd t):t.size<=2:=by
 cases h <;> simp [Tr.size,Cp]
theorem Zkf {T:Tk} (TO:T.Ok) (a b c:Tr):(Ci T a b c).size<=a.size + b.size + c.size + 6:=by
 have:=Zd4 TO.op
 simp only [Ci,Tk.lf,Tr.size,Cp]
 omega
noncomputable def LgoR (K:Pd) (xa:Str×V) (bc:List (Str×V)) (nro:List Rx) (st:Int) (v:V) (H':Hp):Prop :=
 (st<=500/\∃ (r rd:Addr) (av:V) (rv:List V),v=.ref r/\SqT K H' r [av,.ref rd,.int st]/\ThAt K H' av (A4 bc xa)/\H' rd=some (.lst rv)/\Al (RwAt K (fun b=>b=rd) H') rv nro)\/(500 < st/\v=.non)
theorem Zkw {K:Pd} {TL:Addr} {T:Tk} {fl:List Nat} {tw:Str} {tn:V} {n st:Int} {rs nro:List Rx} {bc:List (Str×V)} {xa:Str×V} {H:Hp} {tv fv av:V} {p q0 rd:Addr} {rv:List V} {Q:VK} {E:XK} (TO:T.Ok) (hf:fl∈([[0],[1,0],[1,1,0]]:List (List Nat))) (ok:LeafOk tw tn) (D:DusC T fl (.mk tw (.flat tn) []) rs [] [] n bc nro st) (M:∀ j r,rs[j]?=some r->MkR T j r) (hl:rs.length<=60) (h5:n<=500) (ox:ThOk rs.length xa)
  (htv:TrAt K H tv (Ci T gapT gapT gapT)) (hp:SqT K H p (A1 fl)) (hfv:TrAt K H fv (.mk tw (.flat tn) [])) (hq:SqT K H q0 [av,.ref rd,.int n]) (hrd:H rd=some (.lst rv)) (al:Al (RwX K (fun b=>b=rd) H) rv rs) (ha:ThAt K H av xa)
  (hQ:∀ v H2,Same H H2->LgoR K xa bc nro st v H2->Q v H2):Za1 K TL [tv,.ref q0,.ref p,fv] H Q E:=by
 obtain ⟨a,b,c,ew,hw⟩:=Zlm (T:=T) (tf:=.mk tw (.flat tn) []) hf
 obtain ⟨⟨o,G,g1,g2⟩,I,le,lb,lr⟩:=Zn7 TO hf ok (Zrr T a b c hw) D ⟨fun q hq=>(nomatch hq),fun x hx=>(nomatch hx)⟩ (fun j r h=>by rw [Q9,T7]; exact M j r h) (by rw [Q9]; omega) h5
 rw [Q9,T7] at lb
 have gz:gapT.size=1:=by simp [gapT,Tr.size,Cp]
 have tz:=Zkf TO gapT gapT gapT
 have wz:(withAt (Ci T gapT gapT gapT) fl (.mk tw (.flat tn) [])).size<=2000:=by
  have fz:(Tr.mk tw (.flat tn) []).size=1:=by simp [Tr.size,Cp]
  have pz:=Zd4 TO.op
  simp only [Pm,P0,or_false] at hf
  rcases hf with rfl | rfl | rfl <;> simp [Ci,withAt,Tk.lf,Tr.size,Cp,gapT] <;> omega
 have sb:Sub (Ci T gapT gapT gapT) fl/\(B2 (Ci T gapT gapT gapT) fl)[fl.length]?=some (.mk "gap" (.flat .non) [])/\fl.length<=1000:=by
  simp only [Pm,P0,or_false] at hf
  rcases hf with rfl | rfl | rfl
  ·exact ⟨.cons rfl (.nil _),rfl,by decide⟩
  ·exact ⟨.cons rfl (.cons rfl (.nil _)),rfl,by decide⟩
  ·exact ⟨.cons rfl (.cons rfl (.cons rfl (.nil _))),rfl,by decide⟩
 refine ⟨tv,.ref q0,.ref p,fv,fun H'=>500 < st/\Same H H',rfl,⟨tv,fv,av,Ci T gapT gapT gapT,.mk tw (.flat tn) [],p,q0,rd,fl,.flat .non,[],n,rv,rs,xa,o,rfl,htv,by omega,hp,sb.1,sb.2.2,sb.2.1,hfv,wz,hq,h5,hrd,al,by omega,ha,by rw [ew]; exact G,fun bc' S' e=>?_,fun e H' s'=>?_⟩,fun H' H2 ⟨h,s⟩ s2=>hQ _ _ (s.trans s2) (.inr ⟨h,rfl⟩)⟩
 ·have h:st<=500:=by
   by_cases h:st<=500
   ·exact h
   ·rw [g2 (by omega)] at e; cases e
  rw [g1 h] at e
  cases e
  exact ⟨by rw [lb]; exact ox.row,fun r' rd' av' rv' H' s' q' t' e' al' _ _=>hQ _ _ s' (.inl ⟨h,r',rd',av',rv',rfl,q',t',e',al'.mono fun v x h=>RwAt.mono (fun b hb _=>.inl hb) _ _ h.1⟩)⟩
 ·have h:500 < st:=by
   by_cases h:st<=500
   ·rw [g1 h] at e; cases e
   ·omega
  exact ⟨rfl,rfl,h,s'⟩
theorem Zk0 {T:Tk} {fl:List Nat} {tw:Str} {tn:V} (TO:T.Ok) (ok:LeafOk tw tn) {rs:List Rx} {bc bc':List (Str×V)} {ro ro':List Rx} {st st':Int} (D:DusC T fl (.mk tw (.flat tn) []) rs bc ro st bc' ro' st'):Ef T ro bc->(∀ j r,rs[j]?=some r->MkR T (bc.length + j) r)->ro'.length<=ro.length + rs.length:=by
 induction D with
 | nil=>exact fun _ _=>Ph _
 | @cons r rs bc bc' ro nr ro' x m st st' O D ih =>
  intro I M
  obtain ⟨I1,_,n1⟩:=Ij TO ok I (M 0 r rfl) O
  have c:=ih I1 (fun j q h=>by
   have:=M (j + 1) q h
   rw [Pi,Pr]
   rw [show bc.length + 1 + j=bc.length + (j + 1) by omega]
   exact this)
  rw [Pi] at c
  rw [P9]
  omega
end K52
namespace K52
open PySem L2
section
variable {P:Program} {w:World} {K:Pd} {mg:Str->Option Value} {base:Heap}
noncomputable def Zgk (K:Pd):Sp:=fun vs H Q _=>∃ (a:Addr) (ns:List Int),vs=[.ref a]/\SqL K H a (ns.map V.int)/\ns.length<=63/\∀ H',Q (.bl true) H'
theorem two_ix {m:Int}:∃ wd:Str,Cf [V.str "plus",.str "minus",.str "less",.str "call"] (m % 4)=some (.str wd)/\(wd∈B7\/wd = "call"):=by
 rcases (show m % 4=0\/m % 4=1\/m % 4=2\/m % 4=3 by omega) with h | h | h | h <;> rw [h]
 ·exact ⟨"plus",rfl,.inl (by decide +kernel)⟩
 ·exact ⟨"minus",rfl,.inl (by decide +kernel)⟩
 ·exact ⟨"less",rfl,.inl (by decide +kernel)⟩
 ·exact ⟨"call",rfl,.inr rfl⟩
theorem tr_2 {K:Pd} {H:Hp} {a p:Addr} {w:Str} {u v:V} {s t:Tr} (h1:H a=some (.tup [.str w,.non,.ref p])) (h2:H p=some (.tup [u,v])) (hu:TrAt K H u s) (hv:TrAt K H v t):TrAt K H (.ref a) (.mk w (.flat .non) [s,t]):=.mk (SqT.of h1) (.inl ⟨rfl,rfl⟩) (SqT.of h2) rfl (fun j v t f1 f2=>by
 match j,f1,f2 with
 | 0,f1,f2=>cases f1; cases f2; exact hu
 | 1,f1,f2=>cases f1; cases f2; exact hv)
theorem tr_3 {K:Pd} {H:Hp} {a p:Addr} {w:Str} {u v x:V} {s t r:Tr} (h1:H a=some (.tup [.str w,.non,.ref p])) (h2:H p=some (.tup [u,v,x])) (hu:TrAt K H u s) (hv:TrAt K H v t) (hx:TrAt K H x r):TrAt K H (.ref a) (.mk w (.flat .non) [s,t,r]):=.mk (SqT.of h1) (.inl ⟨rfl,rfl⟩) (SqT.of h2) rfl (fun j v t f1 f2=>by
 match j,f1,f2 with
 | 0,f1,f2=>cases f1; cases f2; exact hu
 | 1,f1,f2=>cases f1; cases f2; exact hv
 | 2,f1,f2=>cases f1; cases f2; exact hx)
theorem sc_law:A2 ["_law_script", "_law_two", "_law_names_here", "_law_cell_here", "_law_gap", "_law_part_here", "_law_parts", "_law_tree", "_law_place", "_law_form", "_law_steps", "_law_rows", "_law_record", "_law_due_here", "_law_handed", "_law_found"] ["_law_script"] (Az K4):=by walk_at "sc"
local macro_rules | `(tactic| walk_at "r1")=>`(tactic| with_reducible first | refine Znk (fun _ _=>?_) | refine Zdo (by assumption) ?_)
theorem Zio {TL:Addr} {f:Addr} {fd:FuncData} (F:Fun K "law" "law" K4 f fd) (T:Txt K mg) (C__law_cell:Bb P w K mg base 1 "_law_cell" ["_law_script", "_law_k"] (Zew K)) (C__law_mixed:Bb P w K mg base 1 "_law_mixed" ["_law_cell_here", "_law_k"] Za2) (C__law_names:Bb P w K mg base 2 "_law_names" ["_law_cell_here", "_law_many"] Zdk) (C__law_part:Bb P w K mg base 3 "_law_part" ["_law_cell_here", "_law_names_here"] (Zd9 K)) (C__law_leaf:Bb P w K mg base 2 "_law_leaf" ["_law_cell_here"] (Of K)) (C__law_row:Bb P w K mg base 2 "_law_row" ["_law_cell_here", "_law_k", "_law_tree"] (Zc3 K)) (C__law_thing:Bb P w K mg base 1 "_law_thing" ["_law_number_here", "_law_k"] (O6 K)) (C__law_due:Bb P w K mg base 4 "_law_due" ["_law_parts", "_law_record", "_law_place", "_law_form"] (Zf5 K)) (C__law_copy:Bb P w K mg base 1 "_law_copy" ["_law_record"] (Zco K)) (C__law_go_on:Bb P w K mg base 9 "_law_go_on" ["_law_tree", "_law_record", "_law_place", "_law_form"] (Za1 K TL)) (C__law_same:Bb P w K mg base 9 "_law_same" ["_law_found", "_law_due_here"] (F8 K 8)):FnOk P w K mg base Ar 10 f fd ["_law_script"] (Zgk K):=by
 refine F.okq sc_law (fun vs H Q E h=>?_) (fun cdv A outer s H vs Q E hr h=>?_)
 ·obtain ⟨a,ns,rfl,_⟩:=h
  rfl
 ·obtain ⟨a,ns,rfl,hS,hn,q⟩:=h
  have SC:Script K H a:=⟨ns,hS,hn⟩
  refine ⟨_,Ae (Ay 1 sc_law (Bc (He (xs:=[.str "plus",.str "minus",.str "less",.str "call"]) rfl)))
   (Ae (Ay 2 sc_law (A3 C__law_names hr.m (Aa (A3 C__law_cell hr.m (Aa (qv 0) (Aa Ac Ab))) (Aa Ac Ab))))
   (Ae (Ay 3 sc_law (A3 C__law_cell hr.m (Aa (qv 0) (Aa Ac Ab))))
   (Ae (Ay 4 sc_law (An (Aa As (Aa Gf (Aa (An Ab) Ab)))))
   (Ae (Ay 5 sc_law (A3 C__law_part hr.m (Aa (A3 C__law_mixed hr.m (Aa (A3 C__law_cell hr.m (Aa (qv 0) (Aa Ac Ab))) (Aa Ac Ab))) (Aa (qv 2) Ab))))
   (Ae (Ay 6 sc_law (An (Aa (qv 4) (Aa (qv 5) (Aa (A3 C__law_leaf hr.m (Aa (A3 C__law_cell hr.m (Aa (qv 0) (Aa Ac Ab))) Ab)) Ab)))))
   (Ae (Ay 7 sc_law (An (Aa (Ah K (qv 1) (Aj Bq (qv 3) Ac)) (Aa Gf (Aa (An (Aa (qv 4) (Aa (An (Aa (Ah K (qv 1) (Aj Bq (Aj C8 (qv 3) Ac) Ac)) (Aa Gf (Aa (An (Aa (qv 4) (Aa (An (Aa As (Aa Gf (Aa (qv 6) Ab)))) Ab))) Ab)))) Ab))) Ab)))))
   (Ae (Ay 8 sc_law (Ah K (Bc (Aa (An (Aa Ac Ab)) (Aa (An (Aa Ac (Aa Ac Ab))) (Aa (An (Aa Ac (Aa Ac (Aa Ac Ab)))) Ab)))) (Aj Bq (A3 C__law_mixed hr.m (Aa (qv 3) (Aa Ac Ab))) Ac)))
   (Ae (Ay 9 sc_law (A3 C__law_leaf hr.m (Aa (A3 C__law_cell hr.m (Aa (qv 0) (Aa Ac Ab))) Ab)))
   (Ae (Ay 10 sc_law (Aj Bq (A3 C__law_cell hr.m (Aa (qv 0) (Aa Ac Ab))) Ac))
   (Ae (A0 (Ax (Ba K hr.u200) (Aj Bq (A3 C__law_mixed hr.m (Aa (A3 C__law_cell hr.m (Aa (qv 0) (Aa Ac Ab))) (Aa Ac Ab))) Ac) Ac (Aw _)) (Ag (Ay 10 sc_law (Aj D8 Ac (Aj Bq (qv 10) Ac)))) A6)
   (Ae (Ay 11 sc_law (Bc Ab))
   (Ae (Dz Qp rfl (Eo K (Fb (Gs K) (qv 0) (Ey Ac) (Ey Ac))) (A9 (i:=3) sc_law.nd rfl (Or.inl rfl)) (Ag (Be (Bw K Pt P4 P5 Bz (qv 11) (Aa (A3 C__law_row hr.m (Aa (qv 3) (Aa (Bp (C6 K) (by rfl) T.len (by decide +kernel) (Aa (qv 11) Ab)) (Aa (qv 7) Ab)))) Ab)))))
   (Ae (Ay 12 sc_law (An (Aa (A3 C__law_thing hr.m (Aa (Aj Bq (A3 C__law_cell hr.m (Aa (qv 0) (Aa Ac Ab))) Ac) (Aa (Bp (C6 K) (by rfl) T.len (by decide +kernel) (Aa (qv 11) Ab)) Ab))) (Aa (qv 11) (Aa (qv 10) Ab)))))
   (Ae (Ay 13 sc_law (A3 C__law_due hr.m (Aa (qv 6) (Aa (qv 12) (Aa (qv 8) (Aa (qv 9) Ab))))))
   (Ae (Ay 14 sc_law (A3 C__law_copy hr.m (Aa (qv 12) Ab)))
   (Ae (Ay 15 sc_law (A3 C__law_go_on hr.m (Aa (qv 7) (Aa (qv 14) (Aa (qv 8) (Aa (qv 9) Ab))))))
   (Ae (A0 (Kj (Dm (A3 C__law_same hr.m (Aa (qv 14) (Aa (qv 12) Ab))))) (Ag (Au Dw)) A6)
   (Ae (A0 (QW.qt (Me (Ax Jy (Ah K (qv 13) Ac) Ac (Aw _)) (L9 (Zct (Mm (qv 15)))))) (Ag (Au (Fl (Zbp (Mm (qv 15))) (Fd (C3 Jy (Ah K (qv 13) Ac) Ac (Aw _)))))) A6)
   (Ag (Au (A3 C__law_same hr.m (Aa (qv 15) (Aa (qv 13) Ab))))))))))))))))))))))),?_⟩
  have bg:=big
  walk_at "r"
  refine ⟨Dn,fun a4 h4=>?_⟩
  obtain ⟨H4,s4,e4,z9⟩:=Av h4 (.lst [.str "plus",.str "minus",.str "less",.str "call"])
  rw [z9]
  have S4:=s4
  have SC:=SC.same s4
  walk_at "r"
  refine ⟨a,1,rfl,SC,by decide,by decide,fun z1=>?_⟩
  walk_at "r"
  refine ⟨z1,rfl,fun pn t0 t1 t2 Hn sn _ _ hpn=>?_⟩
  have Sn:=S4.trans sn
  have e4:=sn _ _ e4
  have SC:=SC.same sn
  walk_at "r"
  refine ⟨a,0,rfl,SC,by decide,by decide,fun c=>?_⟩
  walk_at "r"
  refine ⟨Bf,fun ag0 hg0=>?_⟩
  obtain ⟨Hg0,sg0,eg0,z9⟩:=Av hg0 (.tup [])
  rw [z9]
  have Sg0:=Sn.trans sg0
  have e4:=sg0 _ _ e4
  have hpn:=sg0 _ _ hpn
  have SC:=SC.same sg0
  walk_at "r"
  refine ⟨Bv,fun ag hg=>?_⟩
  obtain ⟨Hg,sg,eg,z9⟩:=Av hg (.tup [.str "gap",.non,.ref ag0])
  rw [z9]
  have Sg:=Sg0.trans sg
  have e4:=sg _ _ e4
  have hpn:=sg _ _ hpn
  have eg0:=sg _ _ eg0
  have SC:=SC.same sg
  have TG:TrAt K Hg (.ref ag) gapT:=Zdu eg eg0 rfl
  walk_at "r"
  refine ⟨a,1,rfl,SC,by decide,by decide,fun z2=>?_⟩
  walk_at "r"
  refine ⟨z2,0,rfl,by decide,by decide,fun z3 _ _=>?_⟩
  walk_at "r"
  refine ⟨z3,pn,t0,t1,t2,rfl,SqL.of hpn,fun pv Hp pt sp TP okP=>?_⟩
  have Sp:=Sg.trans sp
  have e4:=sp _ _ e4
  have hpn:=sp _ _ hpn
  have TG:=TG.same sp
  have SC:=SC.same sp
  walk_at "r"
  refine ⟨a,2,rfl,SC,by decide,by decide,fun z4=>?_⟩
  walk_at "r"
  refine ⟨z4,rfl,fun lv Hl lw ln sl TLf okL=>?_⟩
  have Sl:=Sp.trans sl
  have e4:=sl _ _ e4
  have hpn:=sl _ _ hpn
  have TG:=TG.same sl
  have TP:=TP.same sl
  have SC:=SC.same sl
  walk_at "r"
  refine ⟨Bv,fun app hpp=>?_⟩
  obtain ⟨Hpp,spp,epp,z9⟩:=Av hpp (.tup [.ref ag,pv,lv])
  rw [z9]
  have Spp:=Sl.trans spp
  have e4:=spp _ _ e4
  have hpn:=spp _ _ hpn
  have TG:=TG.same spp
  have TP:=TP.same spp
  have TLf:=TLf.same spp
  have SC:=SC.same spp
  obtain ⟨w0,hw0,ok0⟩:=two_ix (m:=c)
  obtain ⟨w1,hw1,ok1⟩:=two_ix (m:=c / 4)
  walk_at "r"
  refine Bd (SqL.of e4) hw0 ?_
  walk_at "r"
  refine Bd (SqL.of e4) hw1 ?_
  walk_at "r"
  refine ⟨Bv,fun ai hi=>?_⟩
  obtain ⟨Hi,si,ei,z9⟩:=Av hi (.tup [.str "if",.non,.ref app])
  rw [z9]
  have Si:=Spp.trans si
  have e4:=si _ _ e4
  have hpn:=si _ _ hpn
  have epp:=si _ _ epp
  have TG:=TG.same si
  have TP:=TP.same si
  have TLf:=TLf.same si
  have SC:=SC.same si
  walk_at "r"
  refine ⟨A7,fun aj hj=>?_⟩
  obtain ⟨Hj,sj,ej,z9⟩:=Av hj (.tup [.ref ag,.ref ai])
  rw [z9]
  have Sj:=Si.trans sj
  have e4:=sj _ _ e4
  have hpn:=sj _ _ hpn
  have epp:=sj _ _ epp
  have ei:=sj _ _ ei
  have TG:=TG.same sj
  have TP:=TP.same sj
  have TLf:=TLf.same sj
  have SC:=SC.same sj
  walk_at "r"
  refine ⟨Bv,fun ak hk=>?_⟩
  obtain ⟨Hk,sk,ek,z9⟩:=Av hk (.tup [.str w1,.non,.ref aj])
  rw [z9]
  have Sk:=Sj.trans sk
  have e4:=sk _ _ e4
  have hpn:=sk _ _ hpn
  have epp:=sk _ _ epp
  have ei:=sk _ _ ei
  have ej:=sk _ _ ej
  have TG:=TG.same sk
  have TP:=TP.same sk
  have TLf:=TLf.same sk
  have SC:=SC.same sk
  walk_at "r"
  refine ⟨A7,fun am hm=>?_⟩
  obtain ⟨Hm,sm,em,z9⟩:=Av hm (.tup [.ref ag,.ref ak])
  rw [z9]
  have Sm:=Sk.trans sm
  have e4:=sm _ _ e4
  have hpn:=sm _ _ hpn
  have epp:=sm _ _ epp
  have ei:=sm _ _ ei
  have ej:=sm _ _ ej
  have ek:=sm _ _ ek
  have TG:=TG.same sm
  have TP:=TP.same sm
  have TLf:=TLf.same sm
  have SC:=SC.same sm
  walk_at "r"
  refine ⟨Bv,fun att htt=>?_⟩
  obtain ⟨Htt,stt,ett,z9⟩:=Av htt (.tup [.str w0,.non,.ref am])
  rw [z9]
  have Stt:=Sm.trans stt
  have e4:=stt _ _ e4
  have hpn:=stt _ _ hpn
  have epp:=stt _ _ epp
  have ei:=stt _ _ ei
  have ej:=stt _ _ ej
  have ek:=stt _ _ ek
  have em:=stt _ _ em
  have TG:=TG.same stt
  have TP:=TP.same stt
  have TLf:=TLf.same stt
  have SC:=SC.same stt
  obtain ⟨Tk,eT⟩:∃ Tk:Tk,Tk=⟨w0,w1,pt,lw,ln⟩:=⟨_,rfl⟩
  have TO:Tk.Ok:=by rw [eT]; exact ⟨ok0,ok1,okP,okL⟩
  have TT:TrAt K Htt (.ref att) (Ci Tk gapT gapT gapT):=by
   rw [eT]
   exact tr_2 ett em TG (tr_2 ek ej TG (tr_3 ei epp TG TP TLf))
  have TP2:TrAt K Htt pv Tk.part:=by rw [eT]; exact TP
  have TL2:TrAt K Htt lv Tk.lf:=by rw [eT]; exact TLf
  walk_at "r"
  refine ⟨Cw,fun ax0 hx0=>?_⟩
  obtain ⟨Hx0,sx0,ex0,z9⟩:=Av hx0 (.tup [.int 0])
  rw [z9]
  have Sx0:=Stt.trans sx0
  have e4:=sx0 _ _ e4
  have epp:=sx0 _ _ epp
  have TG:=TG.same sx0
  have TT:=TT.same sx0
  have TP2:=TP2.same sx0
  have TL2:=TL2.same sx0
  have SC:=SC.same sx0
  walk_at "r"
  refine ⟨A7,fun ax1 hx1=>?_⟩
  obtain ⟨Hx1,sx1,ex1,z9⟩:=Av hx1 (.tup [.int 1,.int 0])
  rw [z9]
  have Sx1:=Sx0.trans sx1
  have e4:=sx1 _ _ e4
  have epp:=sx1 _ _ epp
  have ex0:=sx1 _ _ ex0
  have TG:=TG.same sx1
  have TT:=TT.same sx1
  have TP2:=TP2.same sx1
  have TL2:=TL2.same sx1
  have SC:=SC.same sx1
  walk_at "r"
  refine ⟨Bv,fun ax2 hx2=>?_⟩
  obtain ⟨Hx2,sx2,ex2,z9⟩:=Av hx2 (.tup [.int 1,.int 1,.int 0])
  rw [z9]
  have Sx2:=Sx1.trans sx2
  have e4:=sx2 _ _ e4
  have epp:=sx2 _ _ epp
  have ex0:=sx2 _ _ ex0
  have ex1:=sx2 _ _ ex1
  have TG:=TG.same sx2
  have TT:=TT.same sx2
  have TP2:=TP2.same sx2
  have TL2:=TL2.same sx2
  have SC:=SC.same sx2
  walk_at "r"
  refine ⟨Bv,fun axl hxl=>?_⟩
  obtain ⟨Hxl,sxl,exl,z9⟩:=Av hxl (.lst [.ref ax0,.ref ax1,.ref ax2])
  rw [z9]
  have Sxl:=Sx2.trans sxl
  have e4:=sxl _ _ e4
  have epp:=sxl _ _ epp
  have ex0:=sxl _ _ ex0
  have ex1:=sxl _ _ ex1
  have ex2:=sxl _ _ ex2
  have TG:=TG.same sxl
  have TT:=TT.same sxl
  have TP2:=TP2.same sxl
  have TL2:=TL2.same sxl
  have SC:=SC.same sxl
  walk_at "r"
  refine ⟨c,1,rfl,by decide,by decide,fun z5 _ _=>?_⟩
  obtain ⟨pa,fl,hpa,epa,hfl⟩:∃ pa fl,Cf [V.ref ax0,.ref ax1,.ref ax2] (z5 % 3)=some (.ref pa)/\Hxl pa=some (.tup (A1 fl))/\fl∈([[0],[1,0],[1,1,0]]:List (List Nat)):=by
   rcases (show z5 % 3=0\/z5 % 3=1\/z5 % 3=2 by omega) with h | h | h <;> rw [h]
   ·exact ⟨ax0,[0],rfl,ex0,by simp⟩
   ·exact ⟨ax1,[1,0],rfl,ex1,by simp⟩
   ·exact ⟨ax2,[1,1,0],rfl,ex2,by simp⟩
  walk_at "r"
  refine Bd (SqL.of exl) hpa ?_
  walk_at "r"
  refine ⟨a,3,rfl,SC,by decide,by decide,fun z6=>?_⟩
  walk_at "r"
  refine ⟨z6,rfl,fun fv Hf fw fn sf TF okF=>?_⟩
  have Sf:=Sxl.trans sf
  have epp:=sf _ _ epp
  have epa:=sf _ _ epa
  have TG:=TG.same sf
  have TT:=TT.same sf
  have TP2:=TP2.same sf
  have TL2:=TL2.same sf
  have SC:=SC.same sf
  walk_at "r"
  refine ⟨a,4,rfl,SC,by decide,by decide,fun z7=>?_⟩
  iterate 2 walk_at "r1"
  refine s_gname ?_
  refine Zdo (by assumption) ?_
  with_reducible refine s_seq ?_
  refine Kg (fun σ' H'=>∃ n:Int,0<=n/\n<=500/\σ'=[some (.ref a),some (.ref a4),some (.ref pn),some (.int c),some (.ref ag),some pv,some (.ref app),some (.ref att),some (.ref pa),some fv,some (.int n),none,none,none,none,none]/\Hf=H') ?_ ?_
  ·rintro _ _ ⟨n,hn0,hn5,rfl,rfl⟩
   walk_at "r"
   refine ⟨Bf,fun rd hrd=>?_⟩
   obtain ⟨Hr,sr,er,z9⟩:=Av hrd (.lst [])
   rw [z9]
   obtain ⟨ms,hms,hml⟩:=SC
   walk_at "r"
   refine Lh (sr.seq hms) fun pc hpc=>?_
   rw [show B0 (ms.map V.int) (some 5) (some 61)=((ms.drop 5).take 56).map V.int from by rw [show (some (5:Int))=some ((5:Nat):Int) from rfl,show (some (61:Int))=some ((61:Nat):Int) from rfl,Zod,List.map_take,List.map_drop]]
   generalize ecs:(ms.drop 5).take 56=cs
   have hcs:cs.length<=56:=by rw [<- ecs,Qe]; omega
   obtain ⟨Hc,sp2,ep,z9⟩:=Av hpc (.lst (cs.map V.int))
   rw [z9]
   have npr:pc≠rd:=fun z=>by rw [z,er] at hpc; cases hpc
   refine .inl ⟨pc,rfl,⟨_,SqL.of ep⟩,?_⟩
   refine O2 (K:=K) (a:=pc) (xs:=cs.map V.int) (fun i σ' H'=>∃ c' rv rs,σ'=[some (.ref a),some (.ref a4),some (.ref pn),some (.int c'),some (.ref ag),some pv,some (.ref app),some (.ref att),some (.ref pa),some fv,some (.int n),some (.ref rd),none,none,none,none]/\Same Hf H'/\H' rd=some (.lst rv)/\H' pc=some (.lst (cs.map V.int))/\Al (RwX K (fun b=>b=rd) H') rv rs/\(∀ j r,rs[j]?=some r->MkR Tk j r)/\rs.length=i) ⟨c,[],[],rfl,sr.trans sp2,sp2 _ _ er,ep,.nil,fun j r h=>(nomatch h),rfl⟩ ?_ ?_ ?_
   ·rintro i σ' H' _ ⟨_,_,_,_,_,_,e',_⟩
    exact SqL.of e'
   ·rintro i y σ' H3 hy ⟨c',rv,rs,rfl,s3,e3,ep3,al3,M3,l3⟩
    obtain ⟨z,hz,rfl⟩:∃ z,cs[i]?=some z/\V.int z=y:=by
     rw [Qh] at hy
     cases hc:cs[i]? with
     | none=>rw [hc] at hy; cases hy
     | some z=>rw [hc] at hy; cases hy; exact ⟨z,rfl,rfl⟩
    have hi:=(Pq.mp hz).1
    have hrl:=al3.1
    walk_at "r"
    refine Bj (SqL.of e3) ?_
    walk_at "r"
    refine Cm (SqL.of e3) ?_
    walk_at "r"
    refine ⟨z,rv.length,_,Tk,rfl,TT.same s3,TO,fun v H4 rx s4 Mx X4=>?_⟩
    have e4':=s4 _ _ e3
    walk_at "r"
    refine Bt e4' (by omega) ?_
    walk_at "r"
    have A5:SameA (fun b=>b=rd) H4 (upd H4 rd (.lst (rv++[v]))):=SameA.set e4' rfl
    refine ⟨_,rv++[v],rs++[rx],rfl,(s3.trans s4).over hrd,Ad,(Af npr).trans (s4 _ _ ep3),(al3.mono fun v x h=>RwX.same A5 _ _ (RwX.same s4.a _ _ h)).snoc (RwX.same A5 _ _ (RwX.mono (fun b hb _=>by rw [hb,e3]; simp) _ _ X4)),fun j r h=>?_,by rw [Pi,l3]; rfl⟩
    by_cases hj:j < rs.length
    ·rw [Qa hj] at h
     exact M3 j r h
    ·rw [Q2 (by omega)] at h
     have:j - rs.length=0:=by
      have:=(Pq.mp h).1
      simp at this
      omega
     rw [this] at h
     cases h
     rw [show j=rv.length by omega]
     exact Mx
   ·rintro σ' H3 ⟨c',rv,rs,rfl,s3,e3,ep3,al3,M3,l3⟩
    rw [Pp] at l3
    have hrl:=al3.1
    have SC:Script K H3 a:=⟨ms,s3.seq hms,hml⟩
    walk_at "r"
    refine ⟨a,4,rfl,SC,by decide,by decide,fun z8=>?_⟩
    walk_at "r"
    refine Cm (SqL.of e3) ?_
    walk_at "r"
    refine ⟨z8 % 2147483629,rv.length,rfl,Qq _ (by decide),by omega,fun av H4 xa s4 tx okx=>?_⟩
    rw [hrl] at okx
    walk_at "r"
    refine ⟨Bv,fun aq hq=>?_⟩
    obtain ⟨H5,s5,e5,z9⟩:=Av hq (.tup [av,.ref rd,.int n])
    rw [z9]
    have s35:=s4.trans s5
    have s05:=s3.trans s35
    walk_at "r"
    refine ⟨pv,lv,.ref ag,fv,av,Tk,app,aq,pa,rd,fl,fw,fn,n,rv,rs,xa,rfl,SqT.of (s05 _ _ epp),TP2.same s05,TL2.same s05,TO,s05 _ _ epa,hfl,TF.same s05,okF,SqT.of e5,s35 _ _ e3,al3.mono (RwX.same s35.a),M3,by omega,ThAt.same s5.t _ _ tx,okx,fun r' ro av' bc nro st HD sD qD tD DD DC=>?_⟩
    have s5D:=sD
    walk_at "r"
    refine ⟨aq,rd,av,n,rv,rs,fun b=>b=rd,rfl,SqT.of (sD _ _ e5),(s35.trans sD) _ _ e3,al3.mono (RwX.same (s35.trans sD).a),by omega,fun rc qc ws HC sC qC nC eC alC=>?_⟩
    have sDC:=sD.trans sC
    have s4C:=s5.trans sDC
    have s0C:=s05.trans sDC
    walk_at "r"
    have lro:=(Zk0 TO okF DC ⟨fun q hq=>(nomatch hq),fun x hx=>(nomatch hx)⟩ (fun j r h=>by rw [Q9,T7]; exact M3 j r h))
    refine Zkw TO hfl okF DC M3 (by omega) hn5 okx (TT.same s0C) (SqT.of (s0C _ _ epa)) (TF.same s0C) qC eC (alC.mono (RwX.mono fun b hb _=>by rw [hb]; exact .inl rfl)) (ThAt.same s4C.t _ _ tx) fun v HG sG R=>?_
    have sCG:=sC.trans sG
    have sDG:=sCG
    have s5G:=sD.trans sDG
    have s4G:=s5.trans s5G
    have s3G:=s4.trans s4G
    obtain ⟨rvD,eD,alD⟩:=DD.ex
    walk_at "r"
    refine ⟨.ref rc,.ref aq,Lu xa rs n,6,rfl,by decide,L6 (sG.tup qC) (ThAt.same s4G.t _ _ tx) (sG _ _ eC) (alC.mono fun v x h=>RwAt.same sG.a _ _ h.1),L6 (SqT.of (s5G _ _ e5)) (ThAt.same s4G.t _ _ tx) (s3G _ _ e3) (al3.mono fun v x h=>RwAt.same s3G.a _ _ h.1),Zga (by omega) fun q hq=>by obtain ⟨j,hj⟩:=List.mem_iff_getElem?.mp hq; exact Zao (M3 j q hj),fun HS sS=>?_⟩
    have sDS:=sDG.trans sS
    walk_at "r"
    refine Ak (sDS.tup qD) rfl ?_
    walk_at "r"
    rcases R with ⟨h5,r2,rd2,av2,rv2,rfl,qG,tG,eG,alG⟩ | ⟨h5,rfl⟩
    ·rw [decide_eq_false (show ¬ 500 < st by omega)]
     walk_at "r"
     rw [decide_eq_false (show ¬ V.ref r2=V.non from fun z=>by cases z)]
     walk_at "r"
     exact ⟨.ref r2,.ref r',Lu (A4 bc xa) nro st,6,rfl,by decide,L6 (sS.tup qG) (ThAt.same sS.t _ _ tG) (sS _ _ eG) (alG.mono fun v x h=>RwAt.same sS.a _ _ h),L6 (sDS.tup qD) (ThAt.same sDS.t _ _ tD) (sDS _ _ eD) (alD.mono fun v x h=>RwAt.same sDS.a _ _ h.1),Zga (by rw [Q9] at lro; omega) (Zmc TO hfl okF DC (fun j r h=>by rw [Q9,T7]; exact M3 j r h) fun q hq=>(nomatch hq)),fun _ _=>q _⟩
    ·rw [decide_eq_true h5]
     walk_at "r"
     rw [decide_eq_true (show V.non=V.non from rfl)]
     walk_at "r"
     refine Ak (sDS.tup qD) rfl ?_
     walk_at "r"
     rw [decide_eq_true h5]
     exact q _
  ·intro Y hY
   walk_at "r"
   refine ⟨a,4,rfl,SC,by decide,by decide,fun z9=>?_⟩
   walk_at "r"
   refine ⟨z9,0,rfl,by decide,by decide,fun z10 _ _=>?_⟩
   walk_at "r"
   by_cases hz:z10 % 2=0
   ·rw [decide_eq_true (show V.int (z10 % 2)=V.int 0 by rw [hz])]
    walk_at "r"
    refine hY _ _ ⟨500 - z7 % 501 % 7,by omega,by omega,rfl,rfl⟩
   ·rw [decide_eq_false (show ¬ V.int (z10 % 2)=V.int 0 from fun z=>hz (V.int.inj z))]
    walk_at "r"
    refine hY _ _ ⟨z7 % 501,by omega,by omega,rfl,rfl⟩
theorem Zqs:A2 ["_law_thing_here", "_law_become"] ["_law_thing_here", "_law_become"] (Az K7):=by walk_at "sc"
theorem Zgt {f:Addr} {fd:FuncData} (F:Fun K "_law_now" "_law_now" K7 f fd) (T:Txt K mg):FnOk P w K mg base Ar 1 f fd ["_law_thing_here", "_law_become"] (Jq K):=by
 refine F.okq Zqs (fun vs H Q E h=>?_) (fun cdv A outer s H vs Q E hr h=>?_)
 ·obtain ⟨tv,b,bv,x,bc,rfl,_⟩:=h
  rfl
 ·obtain ⟨tv,b,bv,x,bc,rfl,ht,hb,al,ok,q⟩:=h
  refine ⟨_,Ae (A0 (Ax (Ba K hr.u200) (Ah K (qv 0) Ac) As (Aw _)) (Ag (Au (Ah K (qv 1) (Ah K (qv 0) Ac)))) A6)
   (Ag (Au (qv 0))),?_⟩
  obtain ⟨hf,a,rfl,qa⟩:=ht
  walk_at "r"
  refine Ak qa rfl ?_
  walk_at "r"
  rw [A8]
  by_cases hw:x.1 = "row"
  ·obtain ⟨k,ek,hk⟩:=ok hw
   have hkb:k < bv.length:=by rw [al.1]; exact hk
   have hx:=al.2 k bv[k] bc[k] (Pg hkb) (Pg hk)
   have en:A4 bc x=bc[k]:=by
    unfold A4
    rw [if_pos hw,ek]
    simp [Pg hk]
   rw [decide_eq_true hw]
   walk_at "r"
   refine Ak qa rfl ?_
   rw [ek]
   refine Bd hb (Bh (Pg hkb)) ?_
   exact q _ (by rw [en]; exact hx)
  ·rw [decide_eq_false hw]
   walk_at "r"
   refine q _ ?_
   unfold A4
   rw [if_neg hw]
   exact ⟨hf,a,rfl,qa⟩
end
end K52
namespace K52
open PySem L2
local macro_rules | `(tactic| walk_at "zA")=>`(tactic| exact (let +zeta a:=_; let +zeta b:=_; let +zeta c:=_; have +usedOnly q:(‹Stmt›:Stmt)=.Assign a b c:=rfl; .Assign a b c))
local macro_rules | `(tactic| walk_at "zC")=>`(tactic| exact (let +zeta a:=_; let +zeta b:=_; let +zeta c:=_; let +zeta d:=_; let +zeta e:=_; let +zeta f:=_; let +zeta g:=_; let +zeta h:=_; let +zeta i:=_; let +zeta j:=_; let +zeta k:=_; have +usedOnly q:(‹Stmt›:Stmt)=.ClassDef a b c d e f g h i j k:=rfl; .ClassDef a b c d e f g h i j k))
local macro_rules | `(tactic| walk_at "zF")=>`(tactic| exact (let +zeta a:=_; let +zeta b:=_; let +zeta c:=_; let +zeta d:=_; let +zeta e:=_; let +zeta f:=_; let +zeta g:=_; let +zeta h:=_; let +zeta i:=_; let +zeta j:=_; have +usedOnly q:(‹Stmt›:Stmt)=.FunctionDef a b c d e f g h i j:=rfl; .FunctionDef a b c d e f g h i j))
noncomputable def w0:Stmt:=by let +zeta s:=Aq 0; walk_at "zA"
noncomputable def w1:Stmt:=by let +zeta s:=Aq 1; walk_at "zC"
noncomputable def w2:Stmt:=by let +zeta s:=Aq 2; walk_at "zC"
noncomputable def w3:Stmt:=by let +zeta s:=Aq 3; walk_at "zC"
noncomputable def w4:Stmt:=by let +zeta s:=Aq 4; walk_at "zC"
noncomputable def w5:Stmt:=by let +zeta s:=Aq 5; walk_at "zA"
noncomputable def w6:Stmt:=by let +zeta s:=Aq 6; walk_at "zF"
noncomputable def w7:Stmt:=by let +zeta s:=Aq 7; walk_at "zA"
noncomputable def w8:Stmt:=by let +zeta s:=Aq 8; walk_at "zF"
noncomputable def w9:Stmt:=by let +zeta s:=Aq 9; walk_at "zF"
noncomputable def w10:Stmt:=by let +zeta s:=Aq 10; walk_at "zF"
noncomputable def w11:Stmt:=by let +zeta s:=Aq 11; walk_at "zF"
noncomputable def w12:Stmt:=by let +zeta s:=Aq 12; walk_at "zF"
noncomputable def w13:Stmt:=by let +zeta s:=Aq 13; walk_at "zF"
noncomputable def w14:Stmt:=by let +zeta s:=Aq 14; walk_at "zA"
noncomputable def w15:Stmt:=by let +zeta s:=Aq 15; walk_at "zF"
noncomputable def w16:Stmt:=by let +zeta s:=Aq 16; walk_at "zA"
noncomputable def w17:Stmt:=by let +zeta s:=Aq 17; walk_at "zF"
noncomputable def w18:Stmt:=by let +zeta s:=Aq 18; walk_at "zA"
noncomputable def w19:Stmt:=by let +zeta s:=Aq 19; walk_at "zF"
noncomputable def w20:Stmt:=by let +zeta s:=Aq 20; walk_at "zA"
noncomputable def w21:Stmt:=by let +zeta s:=Aq 21; walk_at "zA"
noncomputable def w22:Stmt:=by let +zeta s:=Aq 22; walk_at "zA"
noncomputable def w23:Stmt:=by let +zeta s:=Aq 23; walk_at "zA"
noncomputable def w24:Stmt:=by let +zeta s:=Aq 24; walk_at "zF"
noncomputable def w25:Stmt:=by let +zeta s:=Aq 25; walk_at "zF"
noncomputable def Zlk:Stmt:=by let +zeta s:=(Bx 26 0); walk_at "zF"
noncomputable def Zj8:Stmt:=by let +zeta s:=(Bx 26 1); walk_at "zF"
noncomputable def Zrb:Stmt:=by let +zeta s:=(Bx 26 2); walk_at "zF"
noncomputable def Zna:Stmt:=by let +zeta s:=(Bx 26 3); walk_at "zF"
noncomputable def Zhx:Stmt:=by let +zeta s:=(Bx 26 4); walk_at "zF"
noncomputable def Zo5:Stmt:=by let +zeta s:=(Bx 26 5); walk_at "zF"
noncomputable def Zj3:Stmt:=by let +zeta s:=(Bx 26 6); walk_at "zF"
noncomputable def Zni:Stmt:=by let +zeta s:=(Bx 26 7); walk_at "zF"
noncomputable def Znb:Stmt:=by let +zeta s:=(Bx 26 8); walk_at "zF"
noncomputable def Zk7:Stmt:=by let +zeta s:=(Bx 26 9); walk_at "zF"
noncomputable def Zhg:Stmt:=by let +zeta s:=(Bx 26 10); walk_at "zF"
noncomputable def Zoc:Stmt:=by let +zeta s:=(Bx 26 11); walk_at "zF"
noncomputable def Znz:Stmt:=by let +zeta s:=(Bx 26 12); walk_at "zF"
noncomputable def w26:Stmt:=let +zeta a:=_; let +zeta b:=_; let +zeta c:=_; let +zeta d:=_; let +zeta e:=_; let +zeta f:=_; let +zeta g:=_; let +zeta h:=_; let +zeta i:=_; let +zeta j:=_; let +zeta k:=_; have +usedOnly q:Aq 26=.ClassDef a b c d e f g h i j k:=rfl; .ClassDef a b c [Zlk,Zj8,Zrb,Zna,Zhx,Zo5,Zj3,Zni,Znb,Zk7,Zhg,Zoc,Znz] e f g h i j k
noncomputable def w27:Stmt:=by let +zeta s:=Aq 27; walk_at "zA"
noncomputable def w28:Stmt:=by let +zeta s:=Aq 28; walk_at "zF"
noncomputable def w29:Stmt:=by let +zeta s:=Aq 29; walk_at "zF"
noncomputable def w30:Stmt:=by let +zeta s:=Aq 30; walk_at "zF"
noncomputable def w31:Stmt:=by let +zeta s:=Aq 31; walk_at "zA"
noncomputable def w32:Stmt:=by let +zeta s:=Aq 32; walk_at "zF"
noncomputable def w33:Stmt:=by let +zeta s:=Aq 33; walk_at "zF"
noncomputable def w34:Stmt:=by let +zeta s:=Aq 34; walk_at "zF"
noncomputable def w35:Stmt:=by let +zeta s:=Aq 35; walk_at "zF"
noncomputable def w36:Stmt:=by let +zeta s:=Aq 36; walk_at "zF"
noncomputable def w37:Stmt:=by let +zeta s:=Aq 37; walk_at "zF"
noncomputable def w38:Stmt:=by let +zeta s:=Aq 38; walk_at "zF"
noncomputable def w39:Stmt:=by let +zeta s:=Aq 39; walk_at "zF"
noncomputable def w40:Stmt:=by let +zeta s:=Aq 40; walk_at "zF"
noncomputable def w41:Stmt:=by let +zeta s:=Aq 41; walk_at "zF"
noncomputable def w42:Stmt:=by let +zeta s:=Aq 42; walk_at "zF"
noncomputable def w43:Stmt:=by let +zeta s:=Aq 43; walk_at "zF"
noncomputable def w44:Stmt:=by let +zeta s:=Aq 44; walk_at "zF"
noncomputable def w45:Stmt:=by let +zeta s:=Aq 45; walk_at "zF"
noncomputable def w46:Stmt:=by let +zeta s:=Aq 46; walk_at "zF"
noncomputable def w47:Stmt:=by let +zeta s:=Aq 47; walk_at "zF"
noncomputable def w48:Stmt:=by let +zeta s:=Aq 48; walk_at "zF"
noncomputable def w49:Stmt:=by let +zeta s:=Aq 49; walk_at "zF"
noncomputable def w50:Stmt:=by let +zeta s:=Aq 50; walk_at "zF"
noncomputable def PWc:Program:=let +zeta a:=_; let +zeta b:=_; let +zeta c:=_; let +zeta d:=_; let +zeta e:=_; let +zeta f:=_; let +zeta g:=_; let +zeta h:=_; let +zeta i:=_; let +zeta j:=_; have +usedOnly q:R9=⟨⟨a,b,c,d,e⟩,f,g,h,i,j⟩:=rfl; ⟨⟨[w0,w1,w2,w3,w4,w5,w6,w7,w8,w9,w10,w11,w12,w13,w14,w15,w16,w17,w18,w19,w20,w21,w22,w23,w24,w25,w26,w27,w28,w29,w30,w31,w32,w33,w34,w35,w36,w37,w38,w39,w40,w41,w42,w43,w44,w45,w46,w47,w48,w49,w50],b,c,d,e⟩,f,g,h,i,j⟩
theorem e_PW:PWc=PWc:=rfl
name_quick x_PW for K52.PWc by K52.e_PW
end K52
noncomputable def PySem.W.Fast.tw4067310256508157031:PySem.Program:=PySem.W.Fast.tw12200205565987900727
theorem PySem.W.Fast.te4067310256508157031:R9=PySem.W.Fast.tw4067310256508157031:=(rfl:R9=K52.PWc).trans PySem.W.Fast.te12200205565987900727
namespace K52
open PySem L2
noncomputable def VWc:Program:={ R9 with main:={ R9.main with body:=[w1,w2,w3,w4,w6,w8,w9,w10,w11,w12,w13,w15,w17,w19,w21,w22,w23,w24,w25,w26,w28,w29,w30,w32,w33,w34,w35,w36,w37,w38,w39,w40,w41,w42,w43,w44,w45,w46,w47,w48,w49,w50] } }
noncomputable def S0:List Stmt:=[w11,w12,w13,w14,w15,w16,w17,w18,w19,w20,w21,w22,w23,w24]
noncomputable def S1:List Stmt:=[w26]
noncomputable def S2:List Stmt:=[w25]
noncomputable def S3:List Stmt:=[w2]
noncomputable def S4:List Stmt:=[w41,w42,w43,w44,w45,w46,w47,w48,w49,w50]
noncomputable def S5:List Stmt:=[w27,w28,w29,w30,w31,w32,w33,w34,w35,w36,w37,w38,w39,w40]
noncomputable def S6:List Stmt:=[w4,w5,w6,w7,w8,w9,w10]
noncomputable def S7:List Stmt:=[w3]
noncomputable def S8:List Stmt:=[w0,w1]
noncomputable def SB:Program×List (List Stmt):=(VWc,[S0,S1,S2,S3,S4,S5,S6,S7,S8])
theorem e_SB:SB=SB:=rfl
name_quick x_SB for K52.SB by K52.e_SB
end K52
noncomputable def PySem.W.Fast.tw10847805717903354627:PySem.Program:=PySem.W.Fast.tw15036786896509483393
theorem PySem.W.Fast.te10847805717903354627:K52.VWc=PySem.W.Fast.tw10847805717903354627:=PySem.W.Fast.te15036786896509483393
noncomputable def PySem.W.Fast.tw7799205718448147812:List Ro:=PySem.W.Fast.tw13595750639653153165
theorem PySem.W.Fast.te7799205718448147812:K52.S0=PySem.W.Fast.tw7799205718448147812:=PySem.W.Fast.te13595750639653153165
noncomputable def PySem.W.Fast.tw11426867884280439592:List Ro:=PySem.W.Fast.tw1190678651907289960
theorem PySem.W.Fast.te11426867884280439592:K52.S1=PySem.W.Fast.tw11426867884280439592:=PySem.W.Fast.te1190678651907289960
noncomputable def PySem.W.Fast.tw11677633984989607306:List Ro:=PySem.W.Fast.tw6610459538393074711
theorem PySem.W.Fast.te11677633984989607306:K52.S2=PySem.W.Fast.tw11677633984989607306:=PySem.W.Fast.te6610459538393074711
noncomputable def PySem.W.Fast.tw12943664513819538222:List Ro:=PySem.W.Fast.tw15504286296739743441
theorem PySem.W.Fast.te12943664513819538222:K52.S3=PySem.W.Fast.tw12943664513819538222:=PySem.W.Fast.te15504286296739743441
noncomputable def PySem.W.Fast.tw4515844528649738031:List Ro:=PySem.W.Fast.tw8603713877880454332
theorem PySem.W.Fast.te4515844528649738031:K52.S4=PySem.W.Fast.tw4515844528649738031:=PySem.W.Fast.te8603713877880454332
noncomputable def PySem.W.Fast.tw3451614222160718320:List Ro:=PySem.W.Fast.tw11718770776172452436
theorem PySem.W.Fast.te3451614222160718320:K52.S5=PySem.W.Fast.tw3451614222160718320:=PySem.W.Fast.te11718770776172452436
noncomputable def PySem.W.Fast.tw222226105307164279:List Ro:=PySem.W.Fast.tw1966451659305288997
theorem PySem.W.Fast.te222226105307164279:K52.S6=PySem.W.Fast.tw222226105307164279:=PySem.W.Fast.te1966451659305288997
noncomputable def PySem.W.Fast.tw394830260776058109:List Ro:=PySem.W.Fast.tw10125449572066936741
theorem PySem.W.Fast.te394830260776058109:K52.S7=PySem.W.Fast.tw394830260776058109:=PySem.W.Fast.te10125449572066936741
noncomputable def PySem.W.Fast.tw3608089957796223679:List Ro:=PySem.W.Fast.tw4292885946749406866
theorem PySem.W.Fast.te3608089957796223679:K52.S8=PySem.W.Fast.tw3608089957796223679:=PySem.W.Fast.te4292885946749406866
namespace K52
open PySem L2 PySem.W
noncomputable def zs (i j:Nat):Stmt:=match Aq i with | .ClassDef _ _ _ b _ _ _ _ _ _ _=>b.getD j (.Pass ⟨0,0,0,0⟩) | s=>s
noncomputable def ze (P:Params) (s:Str) (t:Tok) (v:Value):DictEntry:=⟨PyData.keyHash P s,.str s t,v⟩
noncomputable abbrev B:=Q0
noncomputable def evb (l:List Obj):Bool->List Obj:=@List.rec Obj (fun _=>Bool->List Obj) (fun _=>[]) (fun a _ ih b=>@Bool.rec (fun _=>List Obj) (ih true) (a :: ih false) b) l
noncomputable def tO (l:List Obj):B:=@Nat.rec (fun _=>List Obj->B) (fun _=>.nil) (fun _ ih l=>@List.rec Obj (fun _=>B) .nil (fun x r _=>.node x (ih (evb r true)) (ih (evb r false))) l) 12 l
noncomputable def zv:List (Str×Tok)->List Value
 | []=>[]
 | (a,b) :: t=>.str a b :: zv t
noncomputable def zu (l:List (Str×Tok)):Obj:=⟨.type "tuple",none,.seq ⟨zv l⟩,#[]⟩
noncomputable def zt (c:String) (d:Data):Obj:=⟨.type c,none,d,#[]⟩
noncomputable def zf (n q:Str) (s:Stmt) (m:Str) (t:Tok) (c:Addr):Obj:=⟨.type "function",none,.func (Rv n q (Ge s) (Er s) (Az s) .none .none .none (.str m t) none (.ref c) .none),#[]⟩
noncomputable def zh (n q:Str) (s:Stmt):Obj:=⟨.none,none,.func ⟨n,q,Ge s,.stmts (Er s),Az s,0,[],.none,.none,.none,.none,none,.none,.none,0⟩,#[]⟩
noncomputable def zk (n q:Str) (t:Tok) (l a g:Int) (r:Addr) (b:Bool) (x:Value) (u:Int) (v:Tok):Obj:=⟨.type "code",none,.fields #[.str n t,.str q (t + 1),.str "/claim/cut.py" (t + 2),.int l 0,.int a 0,.int 0 0,.int 0 0,.int g 0,.ref r,.bool b,.int 181 0,.ref (r + 1),.none,.none,.none,x,.int u 0,.int l 0,.str "/claim/cut.py" v],#[]⟩
noncomputable def zw:List (Int×Int×Addr)->List Value
 | []=>[]
 | (a,b,c) :: t=>.int a 0 :: .int b 0 :: .ref c :: zw t
noncomputable def zy (l:List (Int×Int×Addr)):Obj:=⟨.none,none,.fields ⟨zw l⟩,#[]⟩
noncomputable def zc (n q:Str) (t:Tok) (l a g:Int) (r:Addr) (u:Int) (v:Tok):Obj:=⟨.type "code",none,.fields #[.str n t,.str q (t + 1),.str "/claim/cut.py" (t + 2),.int l 0,.int a 0,.int 0 0,.int 0 0,.int g 0,.ref r,.bool true,.int 181 0,.ref (r + 1),.none,.ref (r + 2),.ref (r + 3),.ref (r + 4),.int u 0,.int l 0,.str "/claim/cut.py" v],#[]⟩
noncomputable def zb (n:Str):=zc n n
noncomputable def zi (n:Str):=zf n n
noncomputable def zj (n:Str):=zh n n
noncomputable def d0 (P:Params):List DictEntry:=[ze P "__name__" 165 (.str "gapscribe.errors" 187),ze P "__doc__" 166 .none,ze P "__package__" 167 .none,ze P "__loader__" 168 (.builtin "__main__.__loader__#opaque"),ze P "__spec__" 169 .none,ze P "__annotations__" 170 (.ref 6),ze P "__builtins__" 171 (.ref 4),ze P "__file__" 173 (.str "/claim/cut.py" 172),ze P "__cached__" 174 .none,ze P "GapError" 206 (.ref 24),ze P "NoDeed" 222 (.ref 37)]
noncomputable def z0 (P:Params):Obj:=zt "dict" (.dict ⟨d0 P⟩ 11)
noncomputable def z1:Obj:=zt "tuple" (.seq #[])
noncomputable def z2:Obj:=zy [(2,0,20),(4,0,33)]
noncomputable def z3:Obj:=zk "<module>" "<module>" 182 1 0 0 11 false .none 185 186
noncomputable def z4:Obj:=Obj.mk (.type "frame") none Data.plain #[some (.ref 13),some (.ref 3),some (.ref 3),none,some (.str "__main__" 164),none,some (.ref 0)]
noncomputable def z5:Obj:=zt "tuple" (.seq #[.type "ValueError"])
noncomputable def h0_0 (P:Params) (t:List Obj):List Obj:=(boot_o_0 P) :: (boot_o_1 P) :: (boot_o_2 P) :: (z0 P) :: (boot_o_4 P) :: (boot_o_5 P) :: (boot_o_6 P) :: (boot_o_7 P) :: (boot_o_8 P) :: (boot_o_9 P) :: (boot_o_10 P) :: z1 :: z2 :: z3 :: z4 :: z5 :: t
noncomputable def z6:Obj:=zt "builtin_function_or_method" (.fields #[.builtin "type.__prepare__",.type "type"])
noncomputable def z7 (P:Params):Obj:=zt "dict" (.dict #[ze P "__module__" 196 (.str "gapscribe.errors" 187),ze P "__qualname__" 198 (.str "GapError" 197),ze P "__firstlineno__" 200 (.int 2 199),ze P "__static_attributes__" 201 (.ref 22)] 4)
noncomputable def z8:Obj:=Obj.mk .none none (.fields #[]) #[]
noncomputable def z9:Obj:=zk "GapError" "GapError" 191 2 0 0 18 false .none 194 195
noncomputable def z10:Obj:=Obj.mk (.type "frame") none Data.plain #[some (.ref 20),some (.ref 3),some (.ref 17),none,some (.str "gapscribe.errors" 187),none,some (.ref 0)]
noncomputable def z11 (P:Params):Obj:=zt "dict" (.dict #[ze P "__module__" 196 (.str "gapscribe.errors" 187),ze P "__firstlineno__" 200 (.int 2 199),ze P "__static_attributes__" 201 (.ref 22),ze P "__weakref__" 203 (.ref 25),ze P "__doc__" 204 .none] 3)
noncomputable def z12:Obj:=Obj.mk (.type "type") none (.cls (ClassData.mk "GapError" [.type "ValueError"] [.ref 24,.type "ValueError",.type "Exception",.type "BaseException",.type "object"] 23 "GapError" true [] [.ref 37] false none false)) #[some (.ref 15),none,some (.str "GapError" 189),some (.str "GapError" 197),some (.builtin "ValueError.__new__"),some (.bool true)]
noncomputable def z13:Obj:=zt "getset_descriptor" (.fields #[.str "__weakref__" 202,.ref 24,.builtin "ExceptionGroup.__weakref__",.none])
noncomputable def z14:Obj:=zt "super" (.fields #[.ref 24,.ref 24,.ref 24])
noncomputable def z15:Obj:=zt "builtin_function_or_method" (.fields #[.builtin "object.__init_subclass__",.ref 24])
noncomputable def z16:Obj:=zt "tuple" (.seq #[.ref 24])
noncomputable def z17 (P:Params):Obj:=zt "dict" (.dict #[ze P "__module__" 214 (.str "gapscribe.errors" 187),ze P "__qualname__" 216 (.str "NoDeed" 215),ze P "__firstlineno__" 218 (.int 4 217),ze P "__static_attributes__" 219 (.ref 35)] 4)
noncomputable def h1_0 (P:Params) (t:List Obj):List Obj:=z6 :: (z7 P) :: z1 :: z8 :: z9 :: z10 :: z1 :: (z11 P) :: z12 :: z13 :: z14 :: z15 :: z16 :: z6 :: (z17 P) :: z1 :: t
noncomputable def z18:Obj:=zk "NoDeed" "NoDeed" 209 4 0 0 31 false .none 212 213
noncomputable def z19:Obj:=Obj.mk (.type "frame") none Data.plain #[some (.ref 33),some (.ref 3),some (.ref 30),none,some (.str "gapscribe.errors" 187),none,some (.ref 0)]
noncomputable def z20 (P:Params):Obj:=zt "dict" (.dict #[ze P "__module__" 214 (.str "gapscribe.errors" 187),ze P "__firstlineno__" 218 (.int 4 217),ze P "__static_attributes__" 219 (.ref 35),ze P "__doc__" 220 .none] 2)
noncomputable def z21:Obj:=Obj.mk (.type "type") none (.cls (ClassData.mk "NoDeed" [.ref 24] [.ref 37,.ref 24,.type "ValueError",.type "Exception",.type "BaseException",.type "object"] 36 "NoDeed" true [] [] false none false)) #[some (.ref 28),none,some (.str "NoDeed" 207),some (.str "NoDeed" 215),some (.builtin "ValueError.__new__"),some (.bool true)]
noncomputable def z22:Obj:=zt "super" (.fields #[.ref 37,.ref 37,.ref 37])
noncomputable def z23:Obj:=zt "builtin_function_or_method" (.fields #[.builtin "object.__init_subclass__",.ref 37])
noncomputable def h2_0 (P:Params) (t:List Obj):List Obj:=z8 :: z18 :: z19 :: z1 :: (z20 P) :: z21 :: z22 :: z23 :: t
noncomputable def Rtree_78:Params->B:=fun P=>tO (h0_0 P (h1_0 P (h2_0 P [])))
noncomputable def d1 (P:Params):List DictEntry:=d0 P++[ze P "TooLong" 238 (.ref 49)]
noncomputable def z24 (P:Params):Obj:=zt "dict" (.dict ⟨d1 P⟩ 12)
noncomputable def z25:Obj:=zy [(2,0,20),(4,0,33),(6,0,45)]
noncomputable def h3_0 (P:Params) (t:List Obj):List Obj:=(boot_o_0 P) :: (boot_o_1 P) :: (boot_o_2 P) :: (z24 P) :: (boot_o_4 P) :: (boot_o_5 P) :: (boot_o_6 P) :: (boot_o_7 P) :: (boot_o_8 P) :: (boot_o_9 P) :: (boot_o_10 P) :: z1 :: z25 :: z3 :: z4 :: z5 :: t
noncomputable def z26:Obj:=Obj.mk (.type "type") none (.cls (ClassData.mk "GapError" [.type "ValueError"] [.ref 24,.type "ValueError",.type "Exception",.type "BaseException",.type "object"] 23 "GapError" true [] [.ref 37,.ref 49] false none false)) #[some (.ref 15),none,some (.str "GapError" 189),some (.str "GapError" 197),some (.builtin "ValueError.__new__"),some (.bool true)]
noncomputable def h4_0 (P:Params) (t:List Obj):List Obj:=z6 :: (z7 P) :: z1 :: z8 :: z9 :: z10 :: z1 :: (z11 P) :: z26 :: z13 :: z14 :: z15 :: z16 :: z6 :: (z17 P) :: z1 :: t
noncomputable def z27 (P:Params):Obj:=zt "dict" (.dict #[ze P "__module__" 230 (.str "gapscribe.errors" 187),ze P "__qualname__" 232 (.str "TooLong" 231),ze P "__firstlineno__" 234 (.int 6 233),ze P "__static_attributes__" 235 (.ref 47)] 4)
noncomputable def z28:Obj:=zk "TooLong" "TooLong" 225 6 0 0 43 false .none 228 229
noncomputable def z29:Obj:=Obj.mk (.type "frame") none Data.plain #[some (.ref 45),some (.ref 3),some (.ref 42),none,some (.str "gapscribe.errors" 187),none,some (.ref 0)]
noncomputable def Fi (P:Params) (t:List Obj):List Obj:=z8 :: z18 :: z19 :: z1 :: (z20 P) :: z21 :: z22 :: z23 :: z16 :: z6 :: (z27 P) :: z1 :: z8 :: z28 :: z29 :: z1 :: t
noncomputable def z30 (P:Params):Obj:=zt "dict" (.dict #[ze P "__module__" 230 (.str "gapscribe.errors" 187),ze P "__firstlineno__" 234 (.int 6 233),ze P "__static_attributes__" 235 (.ref 47),ze P "__doc__" 236 .none] 2)
noncomputable def z31:Obj:=Obj.mk (.type "type") none (.cls (ClassData.mk "TooLong" [.ref 24] [.ref 49,.ref 24,.type "ValueError",.type "Exception",.type "BaseException",.type "object"] 48 "TooLong" true [] [] false none false)) #[some (.ref 40),none,some (.str "TooLong" 223),some (.str "TooLong" 231),some (.builtin "ValueError.__new__"),some (.bool true)]
noncomputable def z32:Obj:=zt "super" (.fields #[.ref 49,.ref 49,.ref 49])
noncomputable def z33:Obj:=zt "builtin_function_or_method" (.fields #[.builtin "object.__init_subclass__",.ref 49])
noncomputable def h6_0 (P:Params) (t:List Obj):List Obj:=(z30 P) :: z31 :: z32 :: z33 :: t
noncomputable def Rtree_93:Params->B:=fun P=>tO (h3_0 P (h4_0 P (Fi P (h6_0 P []))))
noncomputable def d2 (P:Params):List DictEntry:=[ze P "__name__" 165 (.str "gapscribe.places" 273),ze P "__doc__" 166 .none,ze P "__package__" 167 .none,ze P "__loader__" 168 (.builtin "__main__.__loader__#opaque"),ze P "__spec__" 169 .none,ze P "__annotations__" 170 (.ref 6),ze P "__builtins__" 171 (.ref 4),ze P "__file__" 173 (.str "/claim/cut.py" 172),ze P "__cached__" 174 .none,ze P "GapError" 206 (.ref 24),ze P "NoDeed" 222 (.ref 37),ze P "TooLong" 238 (.ref 49),ze P "NoPlace" 263 (.ref 68),ze P "is_whole" 272 (.ref 77),ze P "placed_forms" 286 (.ref 84),ze P "has_part" 294 (.ref 91),ze P "forms_down_to" 304 (.ref 98)]
noncomputable def z34 (P:Params):Obj:=zt "dict" (.dict ⟨d2 P⟩ 17)
noncomputable def z35:Obj:=zy [(2,0,20),(4,0,33),(6,0,45),(8,0,57),(13,0,76),(16,0,83),(25,0,90),(27,0,97)]
noncomputable def h7_0 (P:Params) (t:List Obj):List Obj:=(boot_o_0 P) :: (boot_o_1 P) :: (boot_o_2 P) :: (z34 P) :: (boot_o_4 P) :: (boot_o_5 P) :: (boot_o_6 P) :: (boot_o_7 P) :: (boot_o_8 P) :: (boot_o_9 P) :: (boot_o_10 P) :: z1 :: z35 :: z3 :: z4 :: z5 :: t
noncomputable def z36:Obj:=Obj.mk (.type "type") none (.cls (ClassData.mk "GapError" [.type "ValueError"] [.ref 24,.type "ValueError",.type "Exception",.type "BaseException",.type "object"] 23 "GapError" true [] [.ref 37,.ref 49,.ref 68] false none false)) #[some (.ref 15),none,some (.str "GapError" 189),some (.str "GapError" 197),some (.builtin "ValueError.__new__"),some (.bool true)]
noncomputable def Fq (P:Params) (t:List Obj):List Obj:=z6 :: (z7 P) :: z1 :: z8 :: z9 :: z10 :: z1 :: (z11 P) :: z36 :: z13 :: z14 :: z15 :: z16 :: z6 :: (z17 P) :: z1 :: t
noncomputable def d3 (P:Params):List DictEntry:=[ze P "__module__" 246 (.str "gapscribe.errors" 187),ze P "__qualname__" 248 (.str "NoPlace" 247),ze P "__firstlineno__" 250 (.int 8 249),ze P "__init__" 258 (.ref 65),ze P "__static_attributes__" 260 (.ref 66)]
noncomputable def z37 (P:Params):Obj:=zt "dict" (.dict ⟨d3 P⟩ 5)
noncomputable def z38:Obj:=zy [(10,4,64)]
noncomputable def z39:Obj:=zk "NoPlace" "NoPlace" 241 8 0 0 55 false .none 244 245
noncomputable def z40:Obj:=Obj.mk (.type "frame") none Data.plain #[some (.ref 57),some (.ref 3),some (.ref 54),none,some (.str "gapscribe.errors" 187),none,some (.ref 0)]
noncomputable def z41:Obj:=zu [("self",254),("place",255)]
noncomputable def z42:Obj:=zh "__init__" "NoPlace.__init__" (Bx 4 0)
noncomputable def Fu (P:Params) (t:List Obj):List Obj:=(z30 P) :: z31 :: z32 :: z33 :: z16 :: z6 :: (z37 P) :: z1 :: z38 :: z39 :: z40 :: z1 :: z8 :: z41 :: z1 :: z42 :: t
noncomputable def z43:Obj:=zc "__init__" "NoPlace.__init__" 251 10 2 3 59 256 257
noncomputable def z44:Obj:=zf "__init__" "NoPlace.__init__" (Bx 4 0) "gapscribe.errors" 187 64
noncomputable def z45:Obj:=zu [("place",259)]
noncomputable def z46 (P:Params):Obj:=zt "dict" (.dict #[ze P "__module__" 246 (.str "gapscribe.errors" 187),ze P "__firstlineno__" 250 (.int 8 249),ze P "__init__" 258 (.ref 65),ze P "__static_attributes__" 260 (.ref 66),ze P "__doc__" 261 .none] 2)
noncomputable def z47:Obj:=Obj.mk (.type "type") none (.cls (ClassData.mk "NoPlace" [.ref 24] [.ref 68,.ref 24,.type "ValueError",.type "Exception",.type "BaseException",.type "object"] 67 "NoPlace" true [] [] false none false)) #[some (.ref 52),none,some (.str "NoPlace" 239),some (.str "NoPlace" 247),some (.builtin "ValueError.__new__"),some (.bool true)]
noncomputable def z48:Obj:=zt "super" (.fields #[.ref 68,.ref 68,.ref 68])
noncomputable def z49:Obj:=zt "builtin_function_or_method" (.fields #[.builtin "object.__init_subclass__",.ref 68])
noncomputable def z50:Obj:=zu [("thing",269)]
noncomputable def z51:Obj:=zj "is_whole" Ka
noncomputable def z52:Obj:=zb "is_whole" 266 13 1 3 71 270 271
noncomputable def z53:Obj:=zi "is_whole" Ka "gapscribe.forms" 264 76
noncomputable def Fo (P:Params) (t:List Obj):List Obj:=z43 :: z44 :: z45 :: (z46 P) :: z47 :: z48 :: z49 :: z1 :: z8 :: z50 :: z1 :: z51 :: z52 :: z53 :: z1 :: z8 :: t
noncomputable def z54:Obj:=zu [("tree",278),("told",279),("waiting",280),("pair",281),("number",282),("part",283)]
noncomputable def z55:Obj:=zj "placed_forms" Jj
noncomputable def z56:Obj:=zb "placed_forms" 275 16 1 3 78 284 285
noncomputable def z57:Obj:=zi "placed_forms" Jj "gapscribe.places" 273 83
noncomputable def z58:Obj:=zu [("form",290),("number",291)]
noncomputable def z59:Obj:=zj "has_part" J3
noncomputable def z60:Obj:=zb "has_part" 287 25 2 3 85 292 293
noncomputable def z61:Obj:=zi "has_part" J3 "gapscribe.places" 273 90
noncomputable def z62:Obj:=zu [("tree",298),("place",299),("passed",300),("number",301)]
noncomputable def Fv (P:Params) (t:List Obj):List Obj:=z54 :: z1 :: z55 :: z56 :: z57 :: z1 :: z8 :: z58 :: z1 :: z59 :: z60 :: z61 :: z1 :: z8 :: z62 :: z1 :: t
noncomputable def z63:Obj:=zj "forms_down_to" K6
noncomputable def z64:Obj:=zb "forms_down_to" 295 27 2 3 92 302 303
noncomputable def z65:Obj:=zi "forms_down_to" K6 "gapscribe.places" 273 97
noncomputable def Zl4 (P:Params) (t:List Obj):List Obj:=z63 :: z64 :: z65 :: t
noncomputable def Rtree_143:Params->B:=fun P=>tO (h7_0 P (Fq P (Fi P (Fu P (Fo P (Fv P (Zl4 P [])))))))
noncomputable def d4 (P:Params):List DictEntry:=[ze P "__name__" 165 (.str "gapscribe.machine" 364),ze P "__doc__" 166 .none,ze P "__package__" 167 .none,ze P "__loader__" 168 (.builtin "__main__.__loader__#opaque"),ze P "__spec__" 169 .none,ze P "__annotations__" 170 (.ref 6),ze P "__builtins__" 171 (.ref 4),ze P "__file__" 173 (.str "/claim/cut.py" 172),ze P "__cached__" 174 .none,ze P "GapError" 206 (.ref 24),ze P "NoDeed" 222 (.ref 37),ze P "TooLong" 238 (.ref 49),ze P "NoPlace" 263 (.ref 68),ze P "is_whole" 272 (.ref 77),ze P "placed_forms" 286 (.ref 84),ze P "has_part" 294 (.ref 91),ze P "forms_down_to" 304 (.ref 98),ze P "form_at" 312 (.ref 105),ze P "with_part" 322 (.ref 112),ze P "with_at" 334 (.ref 119),ze P "refuse_no_gap" 343 (.ref 126),ze P "is_finished" 353 (.ref 133),ze P "names_bound" 363 (.ref 140),ze P "MOST_STEPS" 367 (.int 500 366),ze P "PARTS_AWAITED" 390 (.ref 141),ze P "WORDS_WITH_AROUND" 395 (.ref 148),ze P "are_numbers" 401 (.ref 153)]
noncomputable def z66 (P:Params):Obj:=zt "dict" (.dict ⟨d4 P⟩ 27)
noncomputable def z67:Obj:=zy [(2,0,20),(4,0,33),(6,0,45),(8,0,57),(13,0,76),(16,0,83),(25,0,90),(27,0,97),(34,0,104),(36,0,111),(39,0,118),(45,0,125),(49,0,132),(52,0,139),(64,0,152)]
noncomputable def Zhe (P:Params) (t:List Obj):List Obj:=(boot_o_0 P) :: (boot_o_1 P) :: (boot_o_2 P) :: (z66 P) :: (boot_o_4 P) :: (boot_o_5 P) :: (boot_o_6 P) :: (boot_o_7 P) :: (boot_o_8 P) :: (boot_o_9 P) :: (boot_o_10 P) :: z1 :: z67 :: z3 :: z4 :: z5 :: t
noncomputable def z68:Obj:=zu [("tree",308),("place",309)]
noncomputable def z69:Obj:=zj "form_at" J0
noncomputable def z70:Obj:=zb "form_at" 305 34 2 3 99 310 311
noncomputable def z71:Obj:=zi "form_at" J0 "gapscribe.places" 273 104
noncomputable def z72:Obj:=zu [("form",316),("number",317),("part",318),("parts",319)]
noncomputable def z73:Obj:=zj "with_part" Kh
noncomputable def z74:Obj:=zb "with_part" 313 36 3 3 106 320 321
noncomputable def F6 (P:Params) (t:List Obj):List Obj:=z63 :: z64 :: z65 :: z1 :: z8 :: z68 :: z1 :: z69 :: z70 :: z71 :: z1 :: z8 :: z72 :: z1 :: z73 :: z74 :: t
noncomputable def z75:Obj:=zi "with_part" Kh "gapscribe.places" 273 111
noncomputable def z76:Obj:=zu [("tree",326),("place",327),("form",328),("made",329),("number",330),("above",331)]
noncomputable def z77:Obj:=zj "with_at" Kd
noncomputable def z78:Obj:=zb "with_at" 323 39 3 3 113 332 333
noncomputable def z79:Obj:=zi "with_at" Kd "gapscribe.places" 273 118
noncomputable def z80:Obj:=zu [("form",340)]
noncomputable def z81:Obj:=zj "refuse_no_gap" Kl
noncomputable def z82:Obj:=zb "refuse_no_gap" 337 45 1 3 120 341 342
noncomputable def z83:Obj:=zi "refuse_no_gap" Kl "gapscribe.deeds" 335 125
noncomputable def Gv (P:Params) (t:List Obj):List Obj:=z75 :: z1 :: z8 :: z76 :: z1 :: z77 :: z78 :: z79 :: z1 :: z8 :: z80 :: z1 :: z81 :: z82 :: z83 :: z1 :: t
noncomputable def z84:Obj:=zu [("thing",349),("rows",350)]
noncomputable def z85:Obj:=zj "is_finished" Ko
noncomputable def z86:Obj:=zb "is_finished" 346 49 2 3 127 351 352
noncomputable def z87:Obj:=zi "is_finished" Ko "gapscribe.rows" 344 132
noncomputable def z88:Obj:=zu [("form",359),("number",360)]
noncomputable def z89:Obj:=zj "names_bound" K5
noncomputable def z90:Obj:=zb "names_bound" 356 52 2 3 134 361 362
noncomputable def z91:Obj:=zi "names_bound" K5 "gapscribe.scopes" 354 139
noncomputable def z92 (P:Params):Obj:=zt "dict" (.dict #[ze P "plus" 368 (.ref 142),ze P "minus" 371 (.ref 143),ze P "less" 374 (.ref 144),ze P "call" 377 (.ref 145),ze P "if" 380 (.ref 146),ze P "let" 382 (.ref 147)] 6)
noncomputable def z93:Obj:=zt "tuple" (.seq #[.int 1 369,.int 0 370])
noncomputable def z94:Obj:=zt "tuple" (.seq #[.int 1 372,.int 0 373])
noncomputable def F7 (P:Params) (t:List Obj):List Obj:=z8 :: z84 :: z1 :: z85 :: z86 :: z87 :: z1 :: z8 :: z88 :: z1 :: z89 :: z90 :: z91 :: (z92 P) :: z93 :: z94 :: t
noncomputable def z95:Obj:=zt "tuple" (.seq #[.int 1 375,.int 0 376])
noncomputable def z96:Obj:=zt "tuple" (.seq #[.int 1 378,.int 0 379])
noncomputable def z97:Obj:=zt "tuple" (.seq #[.int 0 381])
noncomputable def z98:Obj:=zt "tuple" (.seq #[.int 0 383])
noncomputable def z99:Obj:=zu [("gap",391),("fn",392),("rec",393),("if",394)]
noncomputable def z100:Obj:=zj "are_numbers" Ji
noncomputable def Op:Obj:=zk "are_numbers" "are_numbers" 396 64 1 3 149 true (.ref 151) 399 400
noncomputable def Zbj:Obj:=zi "are_numbers" Ji "gapscribe.machine" 364 152
noncomputable def Zoy (P:Params) (t:List Obj):List Obj:=z95 :: z96 :: z97 :: z98 :: z99 :: z1 :: z8 :: z100 :: Op :: Zbj :: t
noncomputable def Rtree_200:Params->B:=fun P=>tO (Zhe P (Fq P (Fi P (Fu P (Fo P (Fv P (F6 P (Gv P (F7 P (Zoy P []))))))))))
noncomputable def d5 (P:Params):List DictEntry:=d4 P++[ze P "reckoned" 410 (.ref 160)]
noncomputable def z103 (P:Params):Obj:=zt "dict" (.dict ⟨d5 P⟩ 28)
noncomputable def z104:Obj:=zy [(2,0,20),(4,0,33),(6,0,45),(8,0,57),(13,0,76),(16,0,83),(25,0,90),(27,0,97),(34,0,104),(36,0,111),(39,0,118),(45,0,125),(49,0,132),(52,0,139),(64,0,152),(66,0,159)]
noncomputable def Zo9 (P:Params) (t:List Obj):List Obj:=(boot_o_0 P) :: (boot_o_1 P) :: (boot_o_2 P) :: (z103 P) :: (boot_o_4 P) :: (boot_o_5 P) :: (boot_o_6 P) :: (boot_o_7 P) :: (boot_o_8 P) :: (boot_o_9 P) :: (boot_o_10 P) :: z1 :: z104 :: z3 :: z4 :: z5 :: t
noncomputable def z105:Obj:=zu [("word",405),("left",406),("right",407)]
noncomputable def z106:Obj:=zj "reckoned" Km
noncomputable def z107:Obj:=zb "reckoned" 402 66 3 3 154 408 409
noncomputable def Hy (P:Params) (t:List Obj):List Obj:=z95 :: z96 :: z97 :: z98 :: z99 :: z1 :: z8 :: z100 :: Op :: Zbj :: z1 :: z8 :: z105 :: z1 :: z106 :: z107 :: t
noncomputable def Lr:Obj:=zi "reckoned" Km "gapscribe.machine" 364 159
noncomputable def Zpr (P:Params) (t:List Obj):List Obj:=Lr :: t
noncomputable def Rtree_211:Params->B:=fun P=>tO (Zo9 P (Fq P (Fi P (Fu P (Fo P (Fv P (F6 P (Gv P (F7 P (Hy P (Zpr P [])))))))))))
noncomputable def d6 (P:Params):List DictEntry:=d5 P++[ze P "Machine" 560 (.ref 259)]
noncomputable def z109 (P:Params):Obj:=zt "dict" (.dict ⟨d6 P⟩ 29)
noncomputable def z110:Obj:=zy [(2,0,20),(4,0,33),(6,0,45),(8,0,57),(13,0,76),(16,0,83),(25,0,90),(27,0,97),(34,0,104),(36,0,111),(39,0,118),(45,0,125),(49,0,132),(52,0,139),(64,0,152),(66,0,159),(72,0,166)]
noncomputable def Zlv (P:Params) (t:List Obj):List Obj:=(boot_o_0 P) :: (boot_o_1 P) :: (boot_o_2 P) :: (z109 P) :: (boot_o_4 P) :: (boot_o_5 P) :: (boot_o_6 P) :: (boot_o_7 P) :: (boot_o_8 P) :: (boot_o_9 P) :: (boot_o_10 P) :: z1 :: z110 :: z3 :: z4 :: z5 :: t
noncomputable def d7 (P:Params):List DictEntry:=[ze P "__module__" 418 (.str "gapscribe.machine" 364),ze P "__qualname__" 420 (.str "Machine" 419),ze P "__firstlineno__" 422 (.int 72 421),ze P "__init__" 431 (.ref 174),ze P "make_steps" 439 (.ref 181),ze P "new_row" 451 (.ref 188),ze P "thing_of_form" 460 (.ref 195),ze P "thing_of_parts" 470 (.ref 202),ze P "thing_at_the_end" 480 (.ref 209),ze P "come_to" 486 (.ref 214),ze P "thing_of_leaf" 498 (.ref 221),ze P "go_further" 509 (.ref 228),ze P "taken_things" 518 (.ref 235),ze P "is_function" 526 (.ref 242),ze P "call" 535 (.ref 249),ze P "go_within" 547 (.ref 256),ze P "__static_attributes__" 553 (.ref 257)]
noncomputable def z111 (P:Params):Obj:=zt "dict" (.dict ⟨d7 P⟩ 17)
noncomputable def z112:Obj:=zy [(74,4,173),(82,4,180),(87,4,187),(92,4,194),(96,4,201),(101,4,208),(110,4,213),(120,4,220),(128,4,227),(142,4,234),(147,4,241),(150,4,248),(154,4,255)]
noncomputable def z113:Obj:=zk "Machine" "Machine" 413 72 0 0 164 false .none 416 417
noncomputable def z114:Obj:=Obj.mk (.type "frame") none Data.plain #[some (.ref 166),some (.ref 3),some (.ref 163),none,some (.str "gapscribe.machine" 364),none,some (.ref 0)]
noncomputable def z115:Obj:=zu [("self",426),("tree",427),("steps",428)]
noncomputable def z116:Obj:=zh "__init__" "Machine.__init__" J7
noncomputable def Nm:Obj:=zc "__init__" "Machine.__init__" 423 74 3 3 168 429 430
noncomputable def Zat:Obj:=zf "__init__" "Machine.__init__" J7 "gapscribe.machine" 364 173
noncomputable def Mo (P:Params) (t:List Obj):List Obj:=Lr :: z1 :: z6 :: (z111 P) :: z1 :: z112 :: z113 :: z114 :: z1 :: z8 :: z115 :: z1 :: z116 :: Nm :: Zat :: z1 :: t
noncomputable def z119:Obj:=zu [("self",435),("many",436)]
noncomputable def z120:Obj:=zh "make_steps" "Machine.make_steps" G4
noncomputable def z121:Obj:=zc "make_steps" "Machine.make_steps" 432 82 2 3 175 437 438
noncomputable def z122:Obj:=zf "make_steps" "Machine.make_steps" G4 "gapscribe.machine" 364 180
noncomputable def z123:Obj:=zu [("self",443),("word",444),("place",445),("operands",446),("around",447),("kept",448)]
noncomputable def z124:Obj:=zh "new_row" "Machine.new_row" Ix
noncomputable def z125:Obj:=zc "new_row" "Machine.new_row" 440 87 5 3 182 449 450
noncomputable def z126:Obj:=zf "new_row" "Machine.new_row" Ix "gapscribe.machine" 364 187
noncomputable def z127:Obj:=zu [("self",455),("place",456),("around",457)]
noncomputable def Kb (P:Params) (t:List Obj):List Obj:=z8 :: z119 :: z1 :: z120 :: z121 :: z122 :: z1 :: z8 :: z123 :: z1 :: z124 :: z125 :: z126 :: z1 :: z8 :: z127 :: t
noncomputable def z128:Obj:=zh "thing_of_form" "Machine.thing_of_form" Ki
noncomputable def z129:Obj:=zc "thing_of_form" "Machine.thing_of_form" 452 92 3 3 189 458 459
noncomputable def z130:Obj:=zf "thing_of_form" "Machine.thing_of_form" Ki "gapscribe.machine" 364 194
noncomputable def z131:Obj:=zu [("self",464),("place",465),("operands",466),("around",467)]
noncomputable def z132:Obj:=zh "thing_of_parts" "Machine.thing_of_parts" Im
noncomputable def z133:Obj:=zc "thing_of_parts" "Machine.thing_of_parts" 461 96 4 3 196 468 469
noncomputable def z134:Obj:=zf "thing_of_parts" "Machine.thing_of_parts" Im "gapscribe.machine" 364 201
noncomputable def z135:Obj:=zu [("self",474),("place",475),("around",476),("parts_came",477)]
noncomputable def z136:Obj:=zh "thing_at_the_end" "Machine.thing_at_the_end" J6
noncomputable def Il (P:Params) (t:List Obj):List Obj:=z1 :: z128 :: z129 :: z130 :: z1 :: z8 :: z131 :: z1 :: z132 :: z133 :: z134 :: z1 :: z8 :: z135 :: z1 :: z136 :: t
noncomputable def z137:Obj:=zc "thing_at_the_end" "Machine.thing_at_the_end" 471 101 1 3 203 478 479
noncomputable def z138:Obj:=zf "thing_at_the_end" "Machine.thing_at_the_end" J6 "gapscribe.machine" 364 208
noncomputable def z139:Obj:=zh "come_to" "Machine.come_to" Ha
noncomputable def z140:Obj:=zk "come_to" "Machine.come_to" 481 110 3 3 210 true (.ref 212) 484 485
noncomputable def z141:Obj:=zf "come_to" "Machine.come_to" Ha "gapscribe.machine" 364 213
noncomputable def z142:Obj:=zu [("self",490),("word",491),("note",492),("place",493),("around",494),("bound",495)]
noncomputable def z143:Obj:=zh "thing_of_leaf" "Machine.thing_of_leaf" Kn
noncomputable def z144:Obj:=zc "thing_of_leaf" "Machine.thing_of_leaf" 487 120 5 3 215 496 497
noncomputable def z145:Obj:=zf "thing_of_leaf" "Machine.thing_of_leaf" Kn "gapscribe.machine" 364 220
noncomputable def Jo (P:Params) (t:List Obj):List Obj:=z137 :: z138 :: z1 :: z8 :: z139 :: z140 :: z141 :: z1 :: z8 :: z142 :: z1 :: z143 :: z144 :: z145 :: z1 :: z8 :: t
noncomputable def z146:Obj:=zu [("self",502),("place",503),("around",504),("word",505),("operands",506)]
noncomputable def z147:Obj:=zh "go_further" "Machine.go_further" Jt
noncomputable def z148:Obj:=zc "go_further" "Machine.go_further" 499 128 3 3 222 507 508
noncomputable def z149:Obj:=zf "go_further" "Machine.go_further" Jt "gapscribe.machine" 364 227
noncomputable def z150:Obj:=zu [("self",513),("many",514),("taken",515)]
noncomputable def z151:Obj:=zh "taken_things" "Machine.taken_things" Jv
noncomputable def z152:Obj:=zc "taken_things" "Machine.taken_things" 510 142 2 3 229 516 517
noncomputable def z153:Obj:=zf "taken_things" "Machine.taken_things" Jv "gapscribe.machine" 364 234
noncomputable def z154:Obj:=zu [("self",522),("thing",523)]
noncomputable def Je (P:Params) (t:List Obj):List Obj:=z146 :: z1 :: z147 :: z148 :: z149 :: z1 :: z8 :: z150 :: z1 :: z151 :: z152 :: z153 :: z1 :: z8 :: z154 :: z1 :: t
noncomputable def z155:Obj:=zh "is_function" "Machine.is_function" Iz
noncomputable def N1:Obj:=zc "is_function" "Machine.is_function" 519 147 2 3 236 524 525
noncomputable def z157:Obj:=zf "is_function" "Machine.is_function" Iz "gapscribe.machine" 364 241
noncomputable def z158:Obj:=zu [("self",530),("operands",531),("row",532)]
noncomputable def z159:Obj:=zh "call" "Machine.call" Ik
noncomputable def z160:Obj:=zc "call" "Machine.call" 527 150 2 3 243 533 534
noncomputable def z161:Obj:=zf "call" "Machine.call" Ik "gapscribe.machine" 364 248
noncomputable def z162:Obj:=zu [("self",539),("place",540),("number",541),("around",542),("things",543),("names",544)]
noncomputable def z163:Obj:=zh "go_within" "Machine.go_within" Jp
noncomputable def z164:Obj:=zc "go_within" "Machine.go_within" 536 154 5 3 250 545 546
noncomputable def Li (P:Params) (t:List Obj):List Obj:=z155 :: N1 :: z157 :: z1 :: z8 :: z158 :: z1 :: z159 :: z160 :: z161 :: z1 :: z8 :: z162 :: z1 :: z163 :: z164 :: t
noncomputable def Pa:Obj:=zf "go_within" "Machine.go_within" Jp "gapscribe.machine" 364 255
noncomputable def z166:Obj:=zu [("forms",548),("rows",549),("steps",550),("things",551),("waiting",552)]
noncomputable def d8 (P:Params):List DictEntry:=[ze P "__module__" 418 (.str "gapscribe.machine" 364),ze P "__firstlineno__" 422 (.int 72 421),ze P "__init__" 431 (.ref 174),ze P "make_steps" 439 (.ref 181),ze P "new_row" 451 (.ref 188),ze P "thing_of_form" 460 (.ref 195),ze P "thing_of_parts" 470 (.ref 202),ze P "thing_at_the_end" 480 (.ref 209),ze P "come_to" 486 (.ref 214),ze P "thing_of_leaf" 498 (.ref 221),ze P "go_further" 509 (.ref 228),ze P "taken_things" 518 (.ref 235),ze P "is_function" 526 (.ref 242),ze P "call" 535 (.ref 249),ze P "go_within" 547 (.ref 256),ze P "__static_attributes__" 553 (.ref 257),ze P "__dict__" 555 (.ref 260),ze P "__weakref__" 557 (.ref 261),ze P "__doc__" 558 .none]
noncomputable def Nh (P:Params):Obj:=zt "dict" (.dict ⟨d8 P⟩ 4)
noncomputable def Zbr:Obj:=Obj.mk (.type "type") none (.cls (ClassData.mk "Machine" [.type "object"] [.ref 259,.type "object"] 258 "Machine" true [] [] false none false)) #[none,none,some (.str "Machine" 411),some (.str "Machine" 419),some (.builtin "object.__new__"),some (.bool true)]
noncomputable def z169:Obj:=zt "getset_descriptor" (.fields #[.str "__dict__" 554,.ref 259,.builtin "function.__dict__",.builtin "function.__dict__#set"])
noncomputable def z170:Obj:=zt "getset_descriptor" (.fields #[.str "__weakref__" 556,.ref 259,.builtin "ExceptionGroup.__weakref__",.none])
noncomputable def z171:Obj:=zt "super" (.fields #[.ref 259,.ref 259,.ref 259])
noncomputable def z172:Obj:=zt "builtin_function_or_method" (.fields #[.builtin "object.__init_subclass__",.ref 259])
noncomputable def Zj4 (P:Params) (t:List Obj):List Obj:=Pa :: z166 :: (Nh P) :: Zbr :: z169 :: z170 :: z171 :: z172 :: t
noncomputable def Rtree_316:Params->B:=fun P=>tO (Zlv P (Fq P (Fi P (Fu P (Fo P (Fv P (F6 P (Gv P (F7 P (Hy P (Mo P (Kb P (Il P (Jo P (Je P (Li P (Zj4 P [])))))))))))))))))
noncomputable def Zpv (P:Params) (t:List Obj):List Obj:=(boot_o_0 P) :: (boot_o_1 P) :: (boot_o_2 P) :: (z103 P) :: (boot_o_4 P) :: (boot_o_5 P) :: (boot_o_6 P) :: (boot_o_7 P) :: (boot_o_8 P) :: (boot_o_9 P) :: (boot_o_10 P) :: z1 :: z110 :: z3 :: z4 :: z5 :: t
noncomputable def d9 (P:Params):List DictEntry:=[ze P "__module__" 418 (.str "gapscribe.machine" 364),ze P "__qualname__" 420 (.str "Machine" 419),ze P "__firstlineno__" 422 (.int 72 421),ze P "__init__" 431 (.ref 174),ze P "make_steps" 439 (.ref 181),ze P "new_row" 451 (.ref 188),ze P "thing_of_form" 460 (.ref 195),ze P "thing_of_parts" 470 (.ref 202),ze P "thing_at_the_end" 480 (.ref 209),ze P "come_to" 486 (.ref 214),ze P "thing_of_leaf" 498 (.ref 221),ze P "go_further" 509 (.ref 228),ze P "taken_things" 518 (.ref 235)]
noncomputable def z173 (P:Params):Obj:=zt "dict" (.dict ⟨d9 P⟩ 13)
noncomputable def z174:Obj:=zy [(74,4,173),(82,4,180),(87,4,187),(92,4,194),(96,4,201),(101,4,208),(110,4,213),(120,4,220),(128,4,227),(142,4,234)]
noncomputable def Znn (P:Params) (t:List Obj):List Obj:=Lr :: z1 :: z6 :: (z173 P) :: z1 :: z174 :: z113 :: z114 :: z1 :: z8 :: z115 :: z1 :: z116 :: Nm :: Zat :: z1 :: t
noncomputable def Zo8 (P:Params) (t:List Obj):List Obj:=z155 :: N1 :: t
noncomputable def Rtree_398:Params->B:=fun P=>tO (Zpv P (Fq P (Fi P (Fu P (Fo P (Fv P (F6 P (Gv P (F7 P (Hy P (Znn P (Kb P (Il P (Jo P (Je P (Zo8 P []))))))))))))))))
noncomputable def d10 (P:Params):List DictEntry:=[ze P "__name__" 165 (.str "law_gapscribe_k52_made_up_rows" 593),ze P "__doc__" 166 .none,ze P "__package__" 167 .none,ze P "__loader__" 168 (.builtin "__main__.__loader__#opaque"),ze P "__spec__" 169 .none,ze P "__annotations__" 170 (.ref 6),ze P "__builtins__" 171 (.ref 4),ze P "__file__" 173 (.str "/claim/cut.py" 172),ze P "__cached__" 174 .none,ze P "GapError" 206 (.ref 24),ze P "NoDeed" 222 (.ref 37),ze P "TooLong" 238 (.ref 49),ze P "NoPlace" 263 (.ref 68),ze P "is_whole" 272 (.ref 77),ze P "placed_forms" 286 (.ref 84),ze P "has_part" 294 (.ref 91),ze P "forms_down_to" 304 (.ref 98),ze P "form_at" 312 (.ref 105),ze P "with_part" 322 (.ref 112),ze P "with_at" 334 (.ref 119),ze P "refuse_no_gap" 343 (.ref 126),ze P "is_finished" 353 (.ref 133),ze P "names_bound" 363 (.ref 140),ze P "MOST_STEPS" 367 (.int 500 366),ze P "PARTS_AWAITED" 390 (.ref 141),ze P "WORDS_WITH_AROUND" 395 (.ref 148),ze P "are_numbers" 401 (.ref 153),ze P "reckoned" 410 (.ref 160),ze P "Machine" 560 (.ref 259),ze P "thing_now" 570 (.ref 270),ze P "thing_of_row" 576 (.ref 275),ze P "go_on" 592 (.ref 282),ze P "_law_cell" 602 (.ref 289),ze P "_law_mixed" 610 (.ref 296),ze P "_law_same" 619 (.ref 303),ze P "_law_names" 636 (.ref 310),ze P "_law_number" 643 (.ref 317),ze P "_law_comes" 658 (.ref 324),ze P "_law_joined" 669 (.ref 331),ze P "_law_go_on" 680 (.ref 338),ze P "_law_copy" 686 (.ref 343)]
noncomputable def z175 (P:Params):Obj:=zt "dict" (.dict ⟨d10 P⟩ 41)
noncomputable def z176:Obj:=zy [(2,0,20),(4,0,33),(6,0,45),(8,0,57),(13,0,76),(16,0,83),(25,0,90),(27,0,97),(34,0,104),(36,0,111),(39,0,118),(45,0,125),(49,0,132),(52,0,139),(64,0,152),(66,0,159),(72,0,166),(158,0,269),(160,0,274),(169,0,281),(178,0,288),(182,0,295),(184,0,302),(201,0,309),(217,0,316),(223,0,323),(235,0,330),(244,0,337),(251,0,342)]
noncomputable def Zk2 (P:Params) (t:List Obj):List Obj:=(boot_o_0 P) :: (boot_o_1 P) :: (boot_o_2 P) :: (z175 P) :: (boot_o_4 P) :: (boot_o_5 P) :: (boot_o_6 P) :: (boot_o_7 P) :: (boot_o_8 P) :: (boot_o_9 P) :: (boot_o_10 P) :: z1 :: z176 :: z3 :: z4 :: z5 :: t
noncomputable def z177:Obj:=zu [("thing",566),("became",567)]
noncomputable def z178:Obj:=zj "thing_now" K0
noncomputable def z179:Obj:=zb "thing_now" 563 158 2 3 264 568 569
noncomputable def z180:Obj:=zi "thing_now" K0 "gapscribe.going" 561 269
noncomputable def Nq (P:Params) (t:List Obj):List Obj:=Pa :: z166 :: (Nh P) :: Zbr :: z169 :: z170 :: z171 :: z172 :: z1 :: z8 :: z177 :: z1 :: z178 :: z179 :: z180 :: z1 :: t
noncomputable def z181:Obj:=zj "thing_of_row" Jg
noncomputable def z182:Obj:=zk "thing_of_row" "thing_of_row" 571 160 4 3 271 true (.ref 273) 574 575
noncomputable def z183:Obj:=zi "thing_of_row" Jg "gapscribe.going" 561 274
noncomputable def z184:Obj:=zu [("tree",580),("record",581),("place",582),("form",583),("answer",584),("rows",585),("steps",586),("machine",587),("became",588),("row",589)]
noncomputable def z185:Obj:=zj "go_on" Jk
noncomputable def z186:Obj:=zb "go_on" 577 169 4 3 276 590 591
noncomputable def z187:Obj:=zi "go_on" Jk "gapscribe.going" 561 281
noncomputable def z188:Obj:=zu [("_law_script",598),("_law_k",599)]
noncomputable def z189:Obj:=zj "_law_cell" Jb
noncomputable def Zak (P:Params) (t:List Obj):List Obj:=z8 :: z181 :: z182 :: z183 :: z1 :: z8 :: z184 :: z1 :: z185 :: z186 :: z187 :: z1 :: z8 :: z188 :: z1 :: z189 :: t
noncomputable def z190:Obj:=zb "_law_cell" 595 178 2 3 283 600 601
noncomputable def z191:Obj:=zi "_law_cell" Jb "law_gapscribe_k52_made_up_rows" 593 288
noncomputable def z192:Obj:=zu [("_law_cell_here",606),("_law_k",607)]
noncomputable def z193:Obj:=zj "_law_mixed" La
noncomputable def z194:Obj:=zb "_law_mixed" 603 182 2 3 290 608 609
noncomputable def z195:Obj:=zi "_law_mixed" La "law_gapscribe_k52_made_up_rows" 593 295
noncomputable def z196:Obj:=zu [("_law_found",614),("_law_due_here",615),("_law_k",616)]
noncomputable def z197:Obj:=zj "_law_same" Ig
noncomputable def z198:Obj:=zb "_law_same" 611 184 2 3 297 617 618
noncomputable def z199:Obj:=zi "_law_same" Ig "law_gapscribe_k52_made_up_rows" 593 302
noncomputable def Zax (P:Params) (t:List Obj):List Obj:=z190 :: z191 :: z1 :: z8 :: z192 :: z1 :: z193 :: z194 :: z195 :: z1 :: z8 :: z196 :: z1 :: z197 :: z198 :: z199 :: t
noncomputable def z200:Obj:=zu [("_law_cell_here",623),("_law_many",624),("_law_signs",625),("_law_kept",626),("_law_size",627),("_law_at",628),("_law_names_here",629),("_law_k",630),("_law_word",631),("_law_j",632),("_law_step",633)]
noncomputable def z201:Obj:=zj "_law_names" Kk
noncomputable def z202:Obj:=zb "_law_names" 620 201 2 3 304 634 635
noncomputable def z203:Obj:=zi "_law_names" Kk "law_gapscribe_k52_made_up_rows" 593 309
noncomputable def z204:Obj:=zu [("_law_cell_here",640)]
noncomputable def z205:Obj:=zj "_law_number" Iv
noncomputable def z206:Obj:=zb "_law_number" 637 217 1 3 311 641 642
noncomputable def z207:Obj:=zi "_law_number" Iv "law_gapscribe_k52_made_up_rows" 593 316
noncomputable def On (P:Params) (t:List Obj):List Obj:=z1 :: z8 :: z200 :: z1 :: z201 :: z202 :: z203 :: z1 :: z8 :: z204 :: z1 :: z205 :: z206 :: z207 :: z1 :: z8 :: t
noncomputable def z208:Obj:=zu [("_law_form",647),("_law_place",648),("_law_around",649),("_law_rows",650),("_law_word",651),("_law_note",652),("_law_parts",653),("_law_name",654),("_law_thing_here",655)]
noncomputable def z209:Obj:=zj "_law_comes" Ht
noncomputable def z210:Obj:=zb "_law_comes" 644 223 4 3 318 656 657
noncomputable def z211:Obj:=zi "_law_comes" Ht "law_gapscribe_k52_made_up_rows" 593 323
noncomputable def z212:Obj:=zu [("_law_word",662),("_law_place",663),("_law_one",664),("_law_other",665),("_law_rows",666)]
noncomputable def z213:Obj:=zj "_law_joined" Iy
noncomputable def z214:Obj:=zb "_law_joined" 659 235 5 3 325 667 668
noncomputable def z215:Obj:=zi "_law_joined" Iy "law_gapscribe_k52_made_up_rows" 593 330
noncomputable def z216:Obj:=zu [("_law_tree",673),("_law_record",674),("_law_place",675),("_law_form",676),("_law_found",677)]
noncomputable def Oz (P:Params) (t:List Obj):List Obj:=z208 :: z1 :: z209 :: z210 :: z211 :: z1 :: z8 :: z212 :: z1 :: z213 :: z214 :: z215 :: z1 :: z8 :: z216 :: z1 :: t
noncomputable def z217:Obj:=zj "_law_go_on" K1
noncomputable def N0:Obj:=zb "_law_go_on" 670 244 4 3 332 678 679
noncomputable def Nz:Obj:=zi "_law_go_on" K1 "law_gapscribe_k52_made_up_rows" 593 337
noncomputable def z220:Obj:=zj "_law_copy" Jx
noncomputable def Ni:Obj:=zk "_law_copy" "_law_copy" 681 251 1 3 339 true (.ref 341) 684 685
noncomputable def Zad:Obj:=zi "_law_copy" Jx "law_gapscribe_k52_made_up_rows" 593 342
noncomputable def Zii (P:Params) (t:List Obj):List Obj:=z217 :: N0 :: Nz :: z1 :: z8 :: z220 :: Ni :: Zad :: t
noncomputable def Rtree_483:Params->B:=fun P=>tO (Zk2 P (Fq P (Fi P (Fu P (Fo P (Fv P (F6 P (Gv P (F7 P (Hy P (Mo P (Kb P (Il P (Jo P (Je P (Li P (Nq P (Zak P (Zax P (On P (Oz P (Zii P []))))))))))))))))))))))
noncomputable def d11 (P:Params):List DictEntry:=d10 P++[ze P "_law_next" 694 (.ref 350),ze P "_law_thing" 703 (.ref 357),ze P "_law_leaf" 710 (.ref 364),ze P "_law_part" 719 (.ref 371),ze P "_law_row" 736 (.ref 378),ze P "_law_now" 744 (.ref 385),ze P "_law_called" 754 (.ref 392),ze P "_law_over" 769 (.ref 399),ze P "_law_due" 775 (.ref 404),ze P "law" 797 (.ref 411)]
noncomputable def z223 (P:Params):Obj:=zt "dict" (.dict ⟨d11 P⟩ 51)
noncomputable def z224:Obj:=zy [(2,0,20),(4,0,33),(6,0,45),(8,0,57),(13,0,76),(16,0,83),(25,0,90),(27,0,97),(34,0,104),(36,0,111),(39,0,118),(45,0,125),(49,0,132),(52,0,139),(64,0,152),(66,0,159),(72,0,166),(158,0,269),(160,0,274),(169,0,281),(178,0,288),(182,0,295),(184,0,302),(201,0,309),(217,0,316),(223,0,323),(235,0,330),(244,0,337),(251,0,342),(254,0,349),(256,0,356),(265,0,363),(271,0,370),(280,0,377),(294,0,384),(298,0,391),(303,0,398),(314,0,403),(328,0,410)]
noncomputable def Zdg (P:Params) (t:List Obj):List Obj:=(boot_o_0 P) :: (boot_o_1 P) :: (boot_o_2 P) :: (z223 P) :: (boot_o_4 P) :: (boot_o_5 P) :: (boot_o_6 P) :: (boot_o_7 P) :: (boot_o_8 P) :: (boot_o_9 P) :: (boot_o_10 P) :: z1 :: z224 :: z3 :: z4 :: z5 :: t
noncomputable def z225:Obj:=zu [("_law_number_here",690),("_law_k",691)]
noncomputable def z226:Obj:=zj "_law_next" J4
noncomputable def z227:Obj:=zb "_law_next" 687 254 2 3 344 692 693
noncomputable def z228:Obj:=zi "_law_next" J4 "law_gapscribe_k52_made_up_rows" 593 349
noncomputable def Zb8 (P:Params) (t:List Obj):List Obj:=z217 :: N0 :: Nz :: z1 :: z8 :: z220 :: Ni :: Zad :: z1 :: z8 :: z225 :: z1 :: z226 :: z227 :: z228 :: z1 :: t
noncomputable def z229:Obj:=zu [("_law_number_here",698),("_law_k",699),("_law_far",700)]
noncomputable def z230:Obj:=zj "_law_thing" Ks
noncomputable def z231:Obj:=zb "_law_thing" 695 256 2 3 351 701 702
noncomputable def z232:Obj:=zi "_law_thing" Ks "law_gapscribe_k52_made_up_rows" 593 356
noncomputable def z233:Obj:=zu [("_law_cell_here",707)]
noncomputable def z234:Obj:=zj "_law_leaf" Kr
noncomputable def z235:Obj:=zb "_law_leaf" 704 265 1 3 358 708 709
noncomputable def z236:Obj:=zi "_law_leaf" Kr "law_gapscribe_k52_made_up_rows" 593 363
noncomputable def z237:Obj:=zu [("_law_cell_here",714),("_law_names_here",715),("_law_form",716)]
noncomputable def Zet (P:Params) (t:List Obj):List Obj:=z8 :: z229 :: z1 :: z230 :: z231 :: z232 :: z1 :: z8 :: z233 :: z1 :: z234 :: z235 :: z236 :: z1 :: z8 :: z237 :: t
noncomputable def z238:Obj:=zj "_law_part" Iq
noncomputable def z239:Obj:=zb "_law_part" 711 271 2 3 365 717 718
noncomputable def z240:Obj:=zi "_law_part" Iq "law_gapscribe_k52_made_up_rows" 593 370
noncomputable def z241:Obj:=zu [("_law_cell_here",723),("_law_k",724),("_law_tree",725),("_law_part_here",726),("_law_picks",727),("_law_pick",728),("_law_spot",729),("_law_word",730),("_law_number_here",731),("_law_operands",732),("_law_turn",733)]
noncomputable def z242:Obj:=zj "_law_row" J1
noncomputable def z243:Obj:=zb "_law_row" 720 280 3 3 372 734 735
noncomputable def z244:Obj:=zi "_law_row" J1 "law_gapscribe_k52_made_up_rows" 593 377
noncomputable def z245:Obj:=zu [("_law_thing_here",740),("_law_become",741)]
noncomputable def z246:Obj:=zj "_law_now" K7
noncomputable def Zge (P:Params) (t:List Obj):List Obj:=z1 :: z238 :: z239 :: z240 :: z1 :: z8 :: z241 :: z1 :: z242 :: z243 :: z244 :: z1 :: z8 :: z245 :: z1 :: z246 :: t
noncomputable def z247:Obj:=zb "_law_now" 737 294 2 3 379 742 743
noncomputable def z248:Obj:=zi "_law_now" K7 "law_gapscribe_k52_made_up_rows" 593 384
noncomputable def z249:Obj:=zu [("_law_part_here",748),("_law_things",749),("_law_rows",750),("_law_pairs",751)]
noncomputable def z250:Obj:=zj "_law_called" K9
noncomputable def z251:Obj:=zb "_law_called" 745 298 3 3 386 752 753
noncomputable def z252:Obj:=zi "_law_called" K9 "law_gapscribe_k52_made_up_rows" 593 391
noncomputable def z253:Obj:=zu [("_law_row_here",758),("_law_things",759),("_law_parts",760),("_law_rows",761),("_law_word",762),("_law_spot",763),("_law_operands",764),("_law_around",765),("_law_at",766)]
noncomputable def z254:Obj:=zj "_law_over" Jm
noncomputable def z255:Obj:=zb "_law_over" 755 303 4 3 393 767 768
noncomputable def z256:Obj:=zi "_law_over" Jm "law_gapscribe_k52_made_up_rows" 593 398
noncomputable def Zb3 (P:Params) (t:List Obj):List Obj:=z247 :: z248 :: z1 :: z8 :: z249 :: z1 :: z250 :: z251 :: z252 :: z1 :: z8 :: z253 :: z1 :: z254 :: z255 :: z256 :: t
noncomputable def z257:Obj:=zj "_law_due" Kc
noncomputable def z258:Obj:=zk "_law_due" "_law_due" 770 314 4 3 400 true (.ref 402) 773 774
noncomputable def z259:Obj:=zi "_law_due" Kc "law_gapscribe_k52_made_up_rows" 593 403
noncomputable def z260:Obj:=zu [("_law_script",779),("_law_two",780),("_law_names_here",781),("_law_cell_here",782),("_law_gap",783),("_law_part_here",784),("_law_parts",785),("_law_tree",786),("_law_place",787),("_law_form",788),("_law_steps",789),("_law_rows",790),("_law_record",791),("_law_due_here",792),("_law_handed",793),("_law_found",794)]
noncomputable def z261:Obj:=zj "law" K4
noncomputable def z262:Obj:=zb "law" 776 328 1 3 405 795 796
noncomputable def z263:Obj:=zi "law" K4 "law_gapscribe_k52_made_up_rows" 593 410
noncomputable def Zcv (P:Params) (t:List Obj):List Obj:=z1 :: z8 :: z257 :: z258 :: z259 :: z1 :: z8 :: z260 :: z1 :: z261 :: z262 :: z263 :: t
noncomputable def Rtree_553:Params->B:=fun P=>tO (Zdg P (Fq P (Fi P (Fu P (Fo P (Fv P (F6 P (Gv P (F7 P (Hy P (Mo P (Kb P (Il P (Jo P (Je P (Li P (Nq P (Zak P (Zax P (On P (Oz P (Zb8 P (Zet P (Zge P (Zb3 P (Zcv P []))))))))))))))))))))))))))
noncomputable def Rheap_554:Params->Heap:=fun P=>⟨⟨Zdg P (Fq P (Fi P (Fu P (Fo P (Fv P (F6 P (Gv P (F7 P (Hy P (Mo P (Kb P (Il P (Jo P (Je P (Li P (Nq P (Zak P (Zax P (On P (Oz P (Zb8 P (Zet P (Zge P (Zb3 P (Zcv P [])))))))))))))))))))))))))⟩,Life.mk [] [] [] 0 [] [] false #[] [] 0 false false false 0 [2000,10,10] false 0 true [] [] 0 false⟩
noncomputable def KK:Params->Pd:=fun P=>(nat_lit 2,boot_o_2 P) :: (nat_lit 3,z223 P) :: (nat_lit 23,z11 P) :: (nat_lit 24,z36) :: (nat_lit 36,z20 P) :: (nat_lit 37,z21) :: (nat_lit 48,z30 P) :: (nat_lit 49,z31) :: (nat_lit 67,z46 P) :: (nat_lit 68,z47) :: (nat_lit 76,z52) :: (nat_lit 77,z53) :: (nat_lit 83,z56) :: (nat_lit 84,z57) :: (nat_lit 90,z60) :: (nat_lit 91,z61) :: (nat_lit 97,z64) :: (nat_lit 98,z65) :: (nat_lit 104,z70) :: (nat_lit 105,z71) :: (nat_lit 111,z74) :: (nat_lit 112,z75) :: (nat_lit 118,z78) :: (nat_lit 119,z79) :: (nat_lit 125,z82) :: (nat_lit 126,z83) :: (nat_lit 132,z86) :: (nat_lit 133,z87) :: (nat_lit 139,z90) :: (nat_lit 140,z91) :: (nat_lit 141,z92 P) :: (nat_lit 142,z93) :: (nat_lit 143,z94) :: (nat_lit 144,z95) :: (nat_lit 145,z96) :: (nat_lit 146,z97) :: (nat_lit 147,z98) :: (nat_lit 148,z99) :: (nat_lit 152,Op) :: (nat_lit 153,Zbj) :: (nat_lit 159,z107) :: (nat_lit 160,Lr) :: (nat_lit 173,Nm) :: (nat_lit 174,Zat) :: (nat_lit 180,z121) :: (nat_lit 181,z122) :: (nat_lit 187,z125) :: (nat_lit 188,z126) :: (nat_lit 194,z129) :: (nat_lit 195,z130) :: (nat_lit 201,z133) :: (nat_lit 202,z134) :: (nat_lit 208,z137) :: (nat_lit 209,z138) :: (nat_lit 213,z140) :: (nat_lit 214,z141) :: (nat_lit 220,z144) :: (nat_lit 221,z145) :: (nat_lit 227,z148) :: (nat_lit 228,z149) :: (nat_lit 234,z152) :: (nat_lit 235,z153) :: (nat_lit 241,N1) :: (nat_lit 242,z157) :: (nat_lit 248,z160) :: (nat_lit 249,z161) :: (nat_lit 255,z164) :: (nat_lit 256,Pa) :: (nat_lit 258,Nh P) :: (nat_lit 259,Zbr) :: (nat_lit 269,z179) :: (nat_lit 270,z180) :: (nat_lit 274,z182) :: (nat_lit 275,z183) :: (nat_lit 281,z186) :: (nat_lit 282,z187) :: (nat_lit 288,z190) :: (nat_lit 289,z191) :: (nat_lit 295,z194) :: (nat_lit 296,z195) :: (nat_lit 302,z198) :: (nat_lit 303,z199) :: (nat_lit 309,z202) :: (nat_lit 310,z203) :: (nat_lit 316,z206) :: (nat_lit 317,z207) :: (nat_lit 323,z210) :: (nat_lit 324,z211) :: (nat_lit 330,z214) :: (nat_lit 331,z215) :: (nat_lit 337,N0) :: (nat_lit 338,Nz) :: (nat_lit 342,Ni) :: (nat_lit 343,Zad) :: (nat_lit 349,z227) :: (nat_lit 350,z228) :: (nat_lit 356,z231) :: (nat_lit 357,z232) :: (nat_lit 363,z235) :: (nat_lit 364,z236) :: (nat_lit 370,z239) :: (nat_lit 371,z240) :: (nat_lit 377,z243) :: (nat_lit 378,z244) :: (nat_lit 384,z247) :: (nat_lit 385,z248) :: (nat_lit 391,z251) :: (nat_lit 392,z252) :: (nat_lit 398,z255) :: (nat_lit 399,z256) :: (nat_lit 403,z258) :: (nat_lit 404,z259) :: (nat_lit 410,z262) :: (nat_lit 411,z263) :: []
noncomputable def KA:List Addr:=[2,3,23,24,36,37,48,49,67,68,76,77,83,84,90,91,97,98,104,105,111,112,118,119,125,126,132,133,139,140,141,142,143,144,145,146,147,148,152,153,159,160,173,174,180,181,187,188,194,195,201,202,208,209,213,214,220,221,227,228,234,235,241,242,248,249,255,256,258,259,269,270,274,275,281,282,288,289,295,296,302,303,309,310,316,317,323,324,330,331,337,338,342,343,349,350,356,357,363,364,370,371,377,378,384,385,391,392,398,399,403,404,410,411]
noncomputable def RB (P:Params):List Q0×List Heap:=([Rtree_78 P,Rtree_93 P,Rtree_143 P,Rtree_200 P,Rtree_211 P,Rtree_316 P,Rtree_398 P,Rtree_483 P,Rtree_553 P],[Rheap_554 P])
theorem e_RB:RB=RB:=rfl
name_quick x_RB for K52.RB by K52.e_RB
end K52
namespace PySem.W.Fast
noncomputable def tw8867259210241555199:Re->Q0:=tw9539100746690284213
theorem te8867259210241555199:K52.Rtree_78=tw8867259210241555199:=te9539100746690284213
noncomputable def tw3325800653583684357:Re->Q0:=tw12503234136075854768
theorem te3325800653583684357:K52.Rtree_93=tw3325800653583684357:=te12503234136075854768
noncomputable def tw14493693649628705156:Re->Q0:=tw12195160049817143435
theorem te14493693649628705156:K52.Rtree_143=tw14493693649628705156:=te12195160049817143435
noncomputable def tw8459160646053995660:Re->Q0:=tw8728207274758009560
theorem te8459160646053995660:K52.Rtree_200=tw8459160646053995660:=te8728207274758009560
noncomputable def tw741669257506865121:Re->Q0:=tw15201137751218156918
theorem te741669257506865121:K52.Rtree_211=tw741669257506865121:=te15201137751218156918
noncomputable def tw8295028943479348930:Re->Q0:=tw3735270206219737141
theorem te8295028943479348930:K52.Rtree_316=tw8295028943479348930:=te3735270206219737141
noncomputable def tw1634837714202529425:Re->Q0:=tw10415618047356797184
theorem te1634837714202529425:K52.Rtree_398=tw1634837714202529425:=te10415618047356797184
noncomputable def tw14562715939404949468:Re->Q0:=tw5090243700183763478
theorem te14562715939404949468:K52.Rtree_483=tw14562715939404949468:=te5090243700183763478
noncomputable def tw10844074112282868546:Re->Q0:=tw11981128731332717358
theorem te10844074112282868546:K52.Rtree_553=tw10844074112282868546:=te11981128731332717358
noncomputable def tw380115472238318487:Re->PySem.Heap:=tw18123357761008479667
theorem te380115472238318487:K52.Rheap_554=tw380115472238318487:=te18123357761008479667
end PySem.W.Fast
local macro_rules | `(tactic| walk_at "gd")=>`(tactic| (refine' ⟨?ka,_,L2.fun_mk ?kl ?kc ?kk⟩; (case ka=>k_is); (case kl=>k_is); (case kc=>k_is); (case kk=>k_is)))
local macro_rules | `(tactic| walk_at "gm")=>`(tactic| (refine' ⟨?ka,?ki,_,L2.fun_mk ?kl ?kc ?kk⟩; (case ka=>k_is); (case ki=>k_is); (case kl=>k_is); (case kc=>k_is); (case kk=>k_is)))
namespace K52
open PySem L2
noncomputable abbrev Nu:=Zgk
theorem all1 {α:Type} {P:List α->Prop} (h:∀ a,P [a]):∀ us:List α,us.length=1->P us
 | [a],_=>h a
theorem all2 {α:Type} {P:List α->Prop} (h:∀ a b,P [a,b]):∀ us:List α,us.length=2->P us
 | [a,b],_=>h a b
theorem all3 {α:Type} {P:List α->Prop} (h:∀ a b c,P [a,b,c]):∀ us:List α,us.length=3->P us
 | [a,b,c],_=>h a b c
theorem all4 {α:Type} {P:List α->Prop} (h:∀ a b c d,P [a,b,c,d]):∀ us:List α,us.length=4->P us
 | [a,b,c,d],_=>h a b c d
theorem all5 {α:Type} {P:List α->Prop} (h:∀ a b c d e,P [a,b,c,d,e]):∀ us:List α,us.length=5->P us
 | [a,b,c,d,e],_=>h a b c d e
local macro_rules | `(tactic| walk_at "bi")=>`(tactic| first | exact fun _ _ _ _ _ _=>K52.all1 fun _=>rfl | exact fun _ _ _ _ _ _=>K52.all2 fun _ _=>rfl | exact fun _ _ _ _ _ _=>K52.all3 fun _ _ _=>rfl | exact fun _ _ _ _ _ _=>K52.all4 fun _ _ _ _=>rfl | exact fun _ _ _ _ _ _=>K52.all5 fun _ _ _ _ _=>rfl)
theorem Zgi {P:Program} {w:World} {K:Pd} {mg:Str->Option Value} {base:Heap} {f:Addr} {fd:FuncData} (F:Fun K "_law_same" "_law_same" Ig f fd) (T:Txt K mg)
  (mk:∀ n,FnOk P w K mg base Ar (n + 1) f fd ["_law_found", "_law_due_here"] (F8 K n)->Bb P w K mg base (n + 1) "_law_same" ["_law_found", "_law_due_here"] (F8 K n)):∀ n,FnOk P w K mg base Ar (n + 1) f fd ["_law_found", "_law_due_here"] (F8 K n)
 | 0=>by
  have no:∀ vs H Q E,¬ F8 K 0 vs H Q E:=by
   rintro vs H Q E ⟨x,y,d,m,_,h,_⟩
   exact absurd h (Nat.not_lt_zero _)
  exact ⟨fun vs H Q E h=>absurd h (no _ _ _ _),fun A outer s H args us vs Q E _ _ _ _ h=>absurd h (no _ _ _ _)⟩
 | n + 1=>Zhj F T (mk n (Zgi F T mk n))
theorem Zjs {K:Pd} {GE:Addr} {ddG:Option Addr} {cdG:ClassData} {slG:Array (Option Value)} {cG:Value} (ho:K.lookup GE=some ⟨cG,ddG,.cls cdG,slG⟩) (hok:T0 K cdG.ns=true) (hni:P7 K cdG.ns "__init__" = some none):T1 K VE (.ref GE :: VE)=true/\(Sw K GE).isSome=true:=by
 have e:T1 K VE VE=true:=by unfold T1; rfl
 refine ⟨?_,by unfold Sw; rw [ho]; rfl⟩
 unfold T1
 dsimp only
 rw [ho]
 dsimp only
 rw [hok,hni,e]
 simp
theorem Zpl {K:Pd} {C GE:Addr} {ddC:Option Addr} {cdC:ClassData} {slC:Array (Option Value)} {k0 k1 k2 k3 k5:Option Value} (hC:K.lookup C=some ⟨.type "type",ddC,.cls cdC,slC⟩) (hm:cdC.mro=.ref C :: .ref GE :: VE) (hs:slC.toList=[k0,k1,k2,k3,some (.builtin "ValueError.__new__"),k5]) (hd:cdC.hasDel=false) (h:T1 K VE (.ref GE :: VE)=true) (hok:T0 K cdC.ns=true) (hni:P7 K cdC.ns "__init__" = some none):Sv K C VE "ValueError.__new__" = true:=by
 unfold Sv
 rw [hC]
 simp only [hm,hs]
 rw [hd,h,hok,hni]
 simp
noncomputable def F9 (t1 t2 t3 t4 t5 t6:Addr):List (Str×V):=[("plus",.ref t1),("minus",.ref t2),("less",.ref t3),("call",.ref t4),("if",.ref t5),("let",.ref t6)]
theorem Zql {t1 t2 t3 t4 t5 t6:Addr}:((F9 t1 t2 t3 t4 t5 t6).map (·.1)).Nodup:=by
 show (["plus", "minus", "less", "call", "if", "let"]:List Str).Nodup
 decide +kernel
theorem Zjj {K:Pd} {t1 t2 t3 t4 t5 t6:Addr} (h1:∀ H,SqT K H t1 ([1,0].map V.int)) (h2:∀ H,SqT K H t2 ([1,0].map V.int)) (h3:∀ H,SqT K H t3 ([1,0].map V.int)) (h4:∀ H,SqT K H t4 ([1,0].map V.int)) (h5:∀ H,SqT K H t5 ([0].map V.int)) (h6:∀ H,SqT K H t6 ([0].map V.int)) (wd:Str) :
  (Cu (F9 t1 t2 t3 t4 t5 t6) wd).isSome=(Bg wd).isSome/\∀ ns,Bg wd=some ns->∃ b,Cu (F9 t1 t2 t3 t4 t5 t6) wd=some (.ref b)/\∀ H,SqT K H b (ns.map V.int):=by
 by_cases e1:wd = "plus"
 ·subst e1
  have p:Bg "plus" = some [1,0]:=by decide +kernel
  exact ⟨by rw [p]; rfl,fun ns h=>by rw [p] at h; cases h; exact ⟨t1,rfl,h1⟩⟩
 by_cases e2:wd = "minus"
 ·subst e2
  have p:Bg "minus" = some [1,0]:=by decide +kernel
  exact ⟨by rw [p]; rfl,fun ns h=>by rw [p] at h; cases h; exact ⟨t2,rfl,h2⟩⟩
 by_cases e3:wd = "less"
 ·subst e3
  have p:Bg "less" = some [1,0]:=by decide +kernel
  exact ⟨by rw [p]; rfl,fun ns h=>by rw [p] at h; cases h; exact ⟨t3,rfl,h3⟩⟩
 by_cases e4:wd = "call"
 ·subst e4
  have p:Bg "call" = some [1,0]:=by decide +kernel
  exact ⟨by rw [p]; rfl,fun ns h=>by rw [p] at h; cases h; exact ⟨t4,rfl,h4⟩⟩
 by_cases e5:wd = "if"
 ·subst e5
  have p:Bg "if" = some [0]:=by decide +kernel
  exact ⟨by rw [p]; rfl,fun ns h=>by rw [p] at h; cases h; exact ⟨t5,rfl,h5⟩⟩
 by_cases e6:wd = "let"
 ·subst e6
  have p:Bg "let" = some [0]:=by decide +kernel
  exact ⟨by rw [p]; rfl,fun ns h=>by rw [p] at h; cases h; exact ⟨t6,rfl,h6⟩⟩
 have p:Bg wd=none:=by
  unfold Bg
  rw [if_neg (by simp [e1,e2,e3,e4]),if_neg (by simp [e5,e6])]
 have q:Cu (F9 t1 t2 t3 t4 t5 t6) wd=none:=by
  unfold Cu F9
  simp [Ps e1,Ps e2,Ps e3,Ps e4,Ps e5,Ps e6]
 rw [p,q]
 exact ⟨rfl,fun ns h=>nomatch h⟩
noncomputable abbrev Gd (K:Pd) (n:Str) (st:Stmt) (f:Addr):Prop:=P7 K mainGlobals n=some (some (.ref f))/\∃ fd,Fun K n n st f fd
noncomputable abbrev Gm (K:Pd) (C:Addr) (n q:Str) (st:Stmt) (f:Addr):Prop:=Qb K (.ref C) n=some (some (.ref f))/\Ve K (.ref f)=true/\∃ fd,Fun K n q st f fd
noncomputable abbrev Bi (n q:Str) (st:Stmt) (ps:List Str):Prop:=∀ (kV doc pm:Value) (an:Option Addr) (cdv ct:Value) (us:List Value),us.length=ps.length->bindArgs (Rv n q (Ge st) (Er st) (Az st) .none kV doc pm an cdv ct) ⟨us,[]⟩=pure (ps.zip us)
section
variable {P:Program} {w:World} {K:Pd} {mg:Str->Option Value} {base h:Heap} (X:K.In h) (G:h.Ns mainGlobals mg) {n q:Str} {st:Stmt} {f C:Addr} {k:Nat} {ps:List Str} {sp:Sp}
include X G
theorem cal (g:Gd K n st f) (ok:∀ fd,Fun K n n st f fd->FnOk P w K mg base Ar k f fd ps sp) (b:Bi n n st ps:=by walk_at "bi"):Bb P w K mg base k n ps sp:=by
 obtain ⟨a,fd,F⟩:=g
 exact Zc7 (ok fd F) (Vc X G a) F.kp (F.binds b)
theorem calx (g:Gd K n st f) (ok:∀ fd,Fun K n n st f fd->FnOk P w K mg base (Bk P w) k f fd ps sp) (b:Bi n n st ps:=by walk_at "bi"):Hd P w K mg base k n ps sp:=by
 obtain ⟨a,fd,F⟩:=g
 exact Zm9 (ok fd F) (Vc X G a) F.kp (F.binds b)
omit X G
theorem met {CX:B3} (cl:Cls K C) (g:Gm K C n q st f) (ok:∀ fd,Fun K n q st f fd->FnOk P w K mg base CX k f fd ps sp) (b:Bi n q st ps:=by walk_at "bi"):Ce CX P w K mg base k C n ps sp:=by
 obtain ⟨a,i,fd,F⟩:=g
 exact ⟨f,fd,ok fd F,cl,⟨a,i,F.kp⟩,F.binds b⟩
end
theorem all_mk {l:Wd} {w:World} {K:Pd} {h:Heap} {mg:Str->Option Value} {fa f1 f2 f3 f4 f5 f6 f7 f8 f9 f10 f11 f12 f13 f14 f15 f16 f17 f18 f19 f20 f21 f22 f23 f24 f25 f26 f27 f28 f29 f30 f31 f32 f33 f34:Addr} (X:K.In h) (G:h.Ns mainGlobals mg) (hfa:mg "law" = some (.ref fa))
  (a1:Gd K "is_whole" Ka f1) (a2:Gd K "placed_forms" Jj f2) (a3:Gd K "has_part" J3 f3) (a4:Gd K "forms_down_to" K6 f4) (a5:Gd K "form_at" J0 f5) (a6:Gd K "with_part" Kh f6) (a7:Gd K "with_at" Kd f7) (a8:Gd K "refuse_no_gap" Kl f8) (a9:Gd K "is_finished" Ko f9) (a10:Gd K "names_bound" K5 f10) (a11:Gd K "are_numbers" Ji f11) (a12:Gd K "reckoned" Km f12) (a13:Gd K "thing_now" K0 f13) (a14:Gd K "thing_of_row" Jg f14) (a15:Gd K "go_on" Jk f15)
  (a16:Gd K "_law_cell" Jb f16) (a17:Gd K "_law_mixed" La f17) (a18:Gd K "_law_same" Ig f18) (a19:Gd K "_law_names" Kk f19) (a20:Gd K "_law_number" Iv f20) (a21:Gd K "_law_comes" Ht f21) (a22:Gd K "_law_joined" Iy f22) (a23:Gd K "_law_go_on" K1 f23) (a24:Gd K "_law_copy" Jx f24) (a25:Gd K "_law_next" J4 f25) (a26:Gd K "_law_thing" Ks f26) (a27:Gd K "_law_leaf" Kr f27) (a28:Gd K "_law_part" Iq f28) (a29:Gd K "_law_row" J1 f29) (a30:Gd K "_law_now" K7 f30)
  (a31:Gd K "_law_called" K9 f31) (a32:Gd K "_law_over" Jm f32) (a33:Gd K "_law_due" Kc f33) (a34:Gd K "law" K4 f34) (z1:P7 K mainGlobals "isinstance" = some none) (z2:P7 K mainGlobals "int" = some none) (z3:P7 K mainGlobals "bool" = some none) (z4:P7 K mainGlobals "reversed" = some none) (z5:P7 K mainGlobals "list" = some none) (z6:P7 K mainGlobals "enumerate" = some none) (z7:P7 K mainGlobals "len" = some none) (z8:P7 K mainGlobals "zip" = some none) (z9:P7 K mainGlobals "all" = some none)
  (z10:P7 K mainGlobals "tuple" = some none) (z11:P7 K mainGlobals "range" = some none) (z12:P7 K mainGlobals "str" = some none) (z13:P7 K mainGlobals "dict" = some none) {u1:Tok} (b1:P7 K mainGlobals "MOST_STEPS" = some (some (.int 500 u1))) {wa pa t1 t2 t3 t4 t5 t6:Addr} {wo o1 o2 o3 o4 o5 o6:Option Addr} {wi i1 i2 i3 i4 i5 i6:Array Value} {wn pn n1 n2 n3 n4 n5 n6:Nat} {ws s1 s2 s3 s4 s5 s6:Array (Option Value)} {pi:Array DictEntry} (b2:P7 K mainGlobals "WORDS_WITH_AROUND" = some (some (.ref wa))) (b3:K.lookup wa=some ⟨.type "tuple",wo,.seq wi wn,ws⟩)
  (b4:Eg wi.toList=some (WA.map V.str)) (b5:P7 K mainGlobals "PARTS_AWAITED" = some (some (.ref pa))) (b6:K.lookup pa=some ⟨.type "dict",none,.dict pi pn,#[]⟩) (b7:(pa == sysModules)=false) (b8:Ents w.params pi.toList (F9 t1 t2 t3 t4 t5 t6)) (gt1:K.lookup t1=some ⟨.type "tuple",o1,.seq i1 n1,s1⟩) (gu1:Eg i1.toList=some ([1,0].map V.int)) (gt2:K.lookup t2=some ⟨.type "tuple",o2,.seq i2 n2,s2⟩) (gu2:Eg i2.toList=some ([1,0].map V.int)) (gt3:K.lookup t3=some ⟨.type "tuple",o3,.seq i3 n3,s3⟩) (gu3:Eg i3.toList=some ([1,0].map V.int))
  (gt4:K.lookup t4=some ⟨.type "tuple",o4,.seq i4 n4,s4⟩) (gu4:Eg i4.toList=some ([1,0].map V.int)) (gt5:K.lookup t5=some ⟨.type "tuple",o5,.seq i5 n5,s5⟩) (gu5:Eg i5.toList=some ([0].map V.int)) (gt6:K.lookup t6=some ⟨.type "tuple",o6,.seq i6 n6,s6⟩) (gu6:Eg i6.toList=some ([0].map V.int)) {GE TL AM g1 g2 g3 g4 g5 g6 g7 g8 g9 g10 g11 g12 g13:Addr} {cG cN cM:Value} {dG dN dT dM:Option Addr} {kG kT:ClassData} {lG lN lT lM:Array (Option Value)} {eN eM:Array DictEntry} {nN nM:Nat} {j0 j1 j2 j3 j5:Option Value} (x1:P7 K mainGlobals "GapError" = some (some (.ref GE)))
  (x2:K.lookup GE=some ⟨cG,dG,.cls kG,lG⟩) (x3:K.lookup kG.ns=some ⟨cN,dN,.dict eN nN,lN⟩) (x4:(eN.toList.all fun e=>match e.key with | .str _ _=>true | _=>false)=true) (x5:P7 K kG.ns "__init__" = some none) (y1:P7 K mainGlobals "TooLong" = some (some (.ref TL))) (y2:K.lookup TL=some ⟨.type "type",dT,.cls kT,lT⟩) (y3:kT.mro=.ref TL :: .ref GE :: VE) (y4:lT.toList=[j0,j1,j2,j3,some (.builtin "ValueError.__new__"),j5]) (y5:kT.hasDel=false) (y6:K.lookup kT.ns=some ⟨cM,dM,.dict eM nM,lM⟩) (y7:(eM.toList.all fun e=>match e.key with | .str _ _=>true | _=>false)=true)
  (y8:P7 K kT.ns "__init__" = some none) (y9:PySem.W.typeIn K (.ref TL)=some (.type "type")) (yf:R6 K (.ref TL) (.ref TL)=some true) (yg:R6 K (.ref TL) (.type "BaseException")=some true) (m0:P7 K mainGlobals "Machine" = some (some (.ref AM))) (m1:To K AM Str.empty=true) (m2:Uw K AM=true) (m3:V4 K AM=true) (m4:Qb K (.ref AM) "__setattr__" = some (some (.builtin "object.__setattr__"))) (m5:Wb K AM=true) (m6:Ra K (.ref AM)=true) (m7:Qb K (.ref AM) "forms" = some none)
  (m8:Qb K (.ref AM) "rows" = some none) (m9:Qb K (.ref AM) "waiting" = some none) (ma:Qb K (.ref AM) "things" = some none) (mb:Qb K (.ref AM) "steps" = some none) (h1:Gm K AM "__init__" "Machine.__init__" J7 g1) (h2:Gm K AM "make_steps" "Machine.make_steps" G4 g2) (h3:Gm K AM "new_row" "Machine.new_row" Ix g3) (h4:Gm K AM "thing_of_leaf" "Machine.thing_of_leaf" Kn g4) (h5:Gm K AM "come_to" "Machine.come_to" Ha g5) (h6:Gm K AM "taken_things" "Machine.taken_things" Jv g6)
  (h7:Gm K AM "go_further" "Machine.go_further" Jt g7) (h8:Gm K AM "thing_at_the_end" "Machine.thing_at_the_end" J6 g8) (h9:Gm K AM "thing_of_form" "Machine.thing_of_form" Ki g9) (h10:Gm K AM "thing_of_parts" "Machine.thing_of_parts" Im g10) (h11:Gm K AM "go_within" "Machine.go_within" Jp g11) (h12:Gm K AM "is_function" "Machine.is_function" Iz g12) (h13:Gm K AM "call" "Machine.call" Ik g13) :
  ∃ fd:FuncData,(∀ (s:Shared) (v:Value),BindsTo s fd ⟨[v],[]⟩ [("_law_script",v)])/\∀ base:Heap,K.In base->base.Ns mainGlobals mg->FnOk l.prog w K mg base Ar 10 fa fd ["_law_script"] (Nu K):=by
 obtain ⟨aL,fd,FL⟩:=a34
 have e:=hfa.symm.trans (Vc X G aL)
 cases e
 have FX:=FL
 obtain ⟨_,_,kV,doc,pm,an,cdv,ct,_,ef,_,_⟩:=FL.ex
 refine ⟨fd,fun s v=>by rw [ef]; exact .of_eq rfl,fun base _ _=>?_⟩
 have gl:=fun {n v}=>@Vc K h mg n v X G
 have no:=fun {n}=>@PySem.W.mg_none_of K h mg n X G
 have T:Txt K mg:=⟨no z1,no z2,no z3,no z4,no z5,no z6,no z7,no z8,no z9,no z10,no z11,no z12,no z13⟩
 have GMS:En mg "MOST_STEPS" (.int 500):=⟨_,gl b1,⟨_,rfl⟩⟩
 have GWA:En mg "WORDS_WITH_AROUND" (.ref wa):=⟨_,gl b2,rfl⟩
 have HWA:=Gh b3 b4 (by decide)
 have GPA:En mg "PARTS_AWAITED" (.ref pa):=⟨_,gl b5,rfl⟩
 have HPA:F5 l.prog w K pa (F9 t1 t2 t3 t4 t5 t6):=Zil b6 b7 b8 Zql
 have HPK:=Zjj (K:=K) (Gh gt1 gu1 (by decide)) (Gh gt2 gu2 (by decide)) (Gh gt3 gu3 (by decide)) (Gh gt4 gu4 (by decide)) (Gh gt5 gu5 (by decide)) (Gh gt6 gu6 (by decide))
 obtain ⟨tG,iG⟩:=Zjs x2 (by unfold T0; rw [x3]; show (eN.all fun e=>match e.key with | .str _ _=>true | _=>false)=true; rw [<- Array.all_toList]; exact x4) x5
 have rTL:=Zpl y2 y3 y4 y5 tG (by unfold T0; rw [y6]; show (eM.all fun e=>match e.key with | .str _ _=>true | _=>false)=true; rw [<- Array.all_toList]; exact y7) y8
 have gTL:=gl y1
 have XTL:Lc K TL:=⟨y9,by unfold Sw; rw [y2]; rfl,yg⟩
 have clM:Cls K AM:=⟨m1,m2,m3,m4⟩
 have MCx:Mc K AM:=⟨clM,m7,m8,m9,ma,mb⟩
 have me:=fun {CX k n q st f ps sp}=>@met l.prog w K mg base n q st f AM k ps sp CX clM
 have ca:=fun {k n st f ps sp}=>@cal l.prog w K mg base h X G n st f k ps sp
 have cx:=fun {k n st f ps sp}=>@calx l.prog w K mg base h X G n st f k ps sp
 have C_is_whole:=ca a1 fun _ F=>Zgr F T
 have C_placed_forms:=ca a2 fun _ F=>Zqe F T
 have C_has_part:=ca a3 fun _ F=>Zq2 F T C_is_whole
 have C_forms_down_to:=ca a4 fun _ F=>Zgu F T C_has_part
 have C_form_at:=ca a5 fun _ F=>Zh1 F T C_forms_down_to
 have C_with_part:=ca a6 fun _ F=>Zhl F T
 have C_with_at:=ca a7 fun _ F=>Zl7 F T C_forms_down_to C_with_part
 have C_refuse_no_gap:=ca a8 fun _ F=>Zlz F T
 have C_is_finished:=ca a9 fun _ F=>Zhn F T
 have C_names_bound:=ca a10 fun _ F=>Zqm F T
 have C_are_numbers:=ca a11 fun _ F=>Zjm F T
 have C_reckoned:=ca a12 fun _ F=>Znt F T
 have C_thing_now:=ca a13 fun _ F=>Zm2 F T
 have M1:=me h2 fun _ F=>Zqb F T MCx GMS
 have M2:=me h3 fun _ F=>Zi4 F T MCx GWA HWA
 have M3:=me h4 fun _ F=>Zol F T MCx M2
 have M5:=me h6 fun _ F=>Zm8 F T MCx
 have MW:=me h11 fun _ F=>Zkl F T MCx C_names_bound
 have MI:=me h12 fun _ F=>Znp F T MCx C_is_finished
 have MCa:=me h13 fun _ F=>Zrj F T MCx MW
 have M6:=me h7 fun _ F=>Zmr F T MCx GPA HPA HPK M5 M2 MW MCa MI C_are_numbers C_reckoned
 have M1L:=me h2 fun _ F=>Zik F T MCx GMS rTL gTL
 have M4X:=me h5 fun _ F=>Zcx (Zlr (Zhm F T MCx GPA HPA HPK M1 M3)) (Zpk F T MCx GPA HPA HPK M1L M3)
 have M7X:=me h8 fun _ F=>Zpa F T MCx M4X M6
 have MFX:=me h9 fun _ F=>Zkv (Zkd F T MCx M7X)
 have MPX:=me h10 fun _ F=>Zhu (Zog F T MCx M7X)
 have MkM:Og Ar l.prog w K mg base 2 "Machine" AM ["self", "tree", "steps"] (Zbg K AM):=by
  obtain ⟨a,i,fd,F⟩:=h1
  exact ⟨g1,fd,Zgz F T MCx C_placed_forms M1,⟨m5,a,i,m6⟩,gl m0,F.binds (by walk_at "bi")⟩
 have C_thing_of_row:=cx a14 fun _ F=>Zls F T MCx GPA HPA HPK C_thing_now M2 MFX MPX
 have C_go_on:=cx a15 fun _ F=>Zq7 F T MCx C_refuse_no_gap C_form_at C_with_at C_thing_now C_thing_of_row MkM
 have C__law_cell:=ca a16 fun _ F=>Zn1 F T
 have C__law_mixed:=ca a17 fun _ F=>Zrp F T
 have C__law_same:=ca a18 fun _ F=>Zgi F T (fun n h=>Zc7 h (gl a18.1) F.kp (F.binds (by walk_at "bi"))) 8
 have C__law_names:=ca a19 fun _ F=>Zmd F T C__law_mixed
 have C__law_number:=ca a20 fun _ F=>Zgo F T
 have C__law_comes:=ca a21 fun _ F=>Zcx (Zll F T) (Zns F T)
 have C__law_joined:=ca a22 fun _ F=>Zi7 F T
 have C__law_go_on:=ca a23 fun _ F=>Zjr F T C_go_on XTL gTL yf
 have C__law_copy:=ca a24 fun _ F=>Zi6 F T
 have C__law_next:=ca a25 fun _ F=>Zko F T
 have C__law_thing:=ca a26 fun _ F=>Zqr F T
 have C__law_leaf:=ca a27 fun _ F=>Znh F T C__law_number
 have C__law_part:=ca a28 fun _ F=>Zk8 F T C__law_leaf
 have C__law_row:=ca a29 fun _ F=>Zpz F T C__law_next C__law_thing
 have C__law_now:=ca a30 fun _ F=>Zgt F T
 have C__law_called:=ca a31 fun _ F=>Zoo F T C__law_comes
 have C__law_over:=ca a32 fun _ F=>Zot F T C__law_comes C__law_called C__law_joined
 have C__law_due:=ca a33 fun _ F=>Zo7 F T C__law_now C__law_comes C__law_over
 exact Zio FX T C__law_cell C__law_mixed C__law_names C__law_part C__law_leaf C__law_row C__law_thing C__law_due C__law_copy C__law_go_on C__law_same
theorem walk {l:Wd} {q:Program} {loose:List Str} {XP:(Str->Option Value)->Heap->Prop} {YP:World->Heap->Prop} {d:DefRec} {K:Params->Pd} (hn:l.most=some 63) (hdf:d.params.defaults=[])
  (hY:∀ (w:World) (h:Heap),YP w h->(K w.params).In h)
  (F:∀ (w:World) (mg:Str->Option Value) (fa:Addr) (h:Heap),(K w.params).In h->h.Ns mainGlobals mg->mg d.name=some (.ref fa) ->
   ∃ fd:FuncData,(∀ (s:Shared) (u:Value),BindsTo s fd ⟨[u],[]⟩ [("_law_script",u)])/\∀ base:Heap,(K w.params).In base->base.Ns mainGlobals mg->FnOk l.prog w (K w.params) mg base Ar 10 fa fd ["_law_script"] (Nu (K w.params))) :
  PySem.W.WalkO q loose XP YP l.row.toRowW d [] (fun f vs=>PySem.call f vs) :=
 L2.walk_of (n:=63) (k:=10) (x := "_law_script") (CX:=fun _=>Ar) (sp:=fun w=>Nu (K w.params)) hn (by decide) hdf ⟨rfl,by decide,by decide⟩ hY F (fun _ _ a ns hl _ hS=>⟨a,ns,rfl,hS,hl,fun _=>rfl⟩) fun _ _ _ _ _ z=>z
end K52
open PySem PySem.W PyProof.Rows
set_option maxRecDepth 100000 in
set_option maxHeartbeats 0 in
theorem PySem.Challenge.cw_gapscribe_k52_made_up_rows_holds : PySem.Challenge.rw_gapscribe_k52_made_up_rows.Holds := by
 w_on; o_law; o_head (PySem.W.kHook K52.KK K52.KA (fun _=>by kernel_rfl)); (case hw=>w_witness2)
 k_fill
 refine K52.walk (l:=PySem.Challenge.rw_gapscribe_k52_made_up_rows) rfl rfl (fun w h Y=>PySem.W.kIn_of Y) ?F
 case F =>
  intro w mg fa h KX G hmg
  refine' K52.all_mk KX G hmg ?a1 ?a2 ?a3 ?a4 ?a5 ?a6 ?a7 ?a8 ?a9 ?a10 ?a11 ?a12 ?a13 ?a14 ?a15 ?a16 ?a17 ?a18 ?a19 ?a20 ?a21 ?a22 ?a23 ?a24 ?a25 ?a26 ?a27 ?a28 ?a29 ?a30 ?a31 ?a32 ?a33 ?a34 ?z1 ?z2 ?z3 ?z4 ?z5 ?z6 ?z7 ?z8 ?z9 ?z10 ?z11 ?z12 ?z13 ?b1 ?b2 ?b3 ?b4 ?b5 ?b6 ?b7 ?b8 ?gt1 ?gu1 ?gt2 ?gu2 ?gt3 ?gu3 ?gt4 ?gu4 ?gt5 ?gu5 ?gt6 ?gu6 ?x1 ?x2 ?x3 ?x4 ?x5 ?y1 ?y2 ?y3 ?y4 ?y5 ?y6 ?y7 ?y8 ?y9 ?yf ?yg ?m0 ?m1 ?m2 ?m3 ?m4 ?m5 ?m6 ?m7 ?m8 ?m9 ?ma ?mb ?h1 ?h2 ?h3 ?h4 ?h5 ?h6 ?h7 ?h8 ?h9 ?h10 ?h11 ?h12 ?h13
  (case a1=>walk_at "gd")
  (case a2=>walk_at "gd")
  (case a3=>walk_at "gd")
  (case a4=>walk_at "gd")
  (case a5=>walk_at "gd")
  (case a6=>walk_at "gd")
  (case a7=>walk_at "gd")
  (case a8=>walk_at "gd")
  (case a9=>walk_at "gd")
  (case a10=>walk_at "gd")
  (case a11=>walk_at "gd")
  (case a12=>walk_at "gd")
  (case a13=>walk_at "gd")
  (case a14=>walk_at "gd")
  (case a15=>walk_at "gd")
  (case a16=>walk_at "gd")
  (case a17=>walk_at "gd")
  (case a18=>walk_at "gd")
  (case a19=>walk_at "gd")
  (case a20=>walk_at "gd")
  (case a21=>walk_at "gd")
  (case a22=>walk_at "gd")
  (case a23=>walk_at "gd")
  (case a24=>walk_at "gd")
  (case a25=>walk_at "gd")
  (case a26=>walk_at "gd")
  (case a27=>walk_at "gd")
  (case a28=>walk_at "gd")
  (case a29=>walk_at "gd")
  (case a30=>walk_at "gd")
  (case a31=>walk_at "gd")
  (case a32=>walk_at "gd")
  (case a33=>walk_at "gd")
  (case a34=>walk_at "gd")
  (case z1=>k_is)
  (case z2=>k_is)
  (case z3=>k_is)
  (case z4=>k_is)
  (case z5=>k_is)
  (case z6=>k_is)
  (case z7=>k_is)
  (case z8=>k_is)
  (case z9=>k_is)
  (case z10=>k_is)
  (case z11=>k_is)
  (case z12=>k_is)
  (case z13=>k_is)
  (case b1=>k_is)
  (case b2=>k_is)
  (case b3=>k_is)
  (case b4=>rfl)
  (case b5=>k_is)
  (case b6=>k_is)
  (case b7=>rfl)
  (case b8=>(repeat (first | exact .nil | refine .cons rfl ?_)))
  (case gt1=>k_is)
  (case gu1=>rfl)
  (case gt2=>k_is)
  (case gu2=>rfl)
  (case gt3=>k_is)
  (case gu3=>rfl)
  (case gt4=>k_is)
  (case gu4=>rfl)
  (case gt5=>k_is)
  (case gu5=>rfl)
  (case gt6=>k_is)
  (case gu6=>rfl)
  (case x1=>k_is)
  (case x2=>k_is)
  (case x3=>k_is)
  (case x4=>rfl)
  (case x5=>k_is)
  (case y1=>k_is)
  (case y2=>k_is)
  (case y3=>rfl)
  (case y4=>rfl)
  (case y5=>rfl)
  (case y6=>k_is)
  (case y7=>rfl)
  (case y8=>k_is)
  (case y9=>k_is)
  (case yf=>k_is)
  (case yg=>k_is)
  (case m0=>k_is)
  (case m1=>k_is)
  (case m2=>k_is)
  (case m3=>k_is)
  (case m4=>k_is)
  (case m5=>k_is)
  (case m6=>k_is)
  (case m7=>k_is)
  (case m8=>k_is)
  (case m9=>k_is)
  (case ma=>k_is)
  (case mb=>k_is)
  (case h1=>walk_at "gm")
  (case h2=>walk_at "gm")
  (case h3=>walk_at "gm")
  (case h4=>walk_at "gm")
  (case h5=>walk_at "gm")
  (case h6=>walk_at "gm")
  (case h7=>walk_at "gm")
  (case h8=>walk_at "gm")
  (case h9=>walk_at "gm")
  (case h10=>walk_at "gm")
  (case h11=>walk_at "gm")
  (case h12=>walk_at "gm")
  (case h13=>walk_at "gm")
#print axioms PySem.Challenge.cw_gapscribe_k52_made_up_rows_holds
