import PyProof.Rows.All
import Wide.All
import OpenK.AllK
import Wide.FinOn
import Lean
import PyProof.EqAt
import PyProof.EqKinds
import PyProof.TupleCall
import PyProof.StrBlock2
import KE.KDictOf
import PyProof.AttrMissHeap
import KE.KRevSl
import PySem.Challenge.RW_gapscribe_k57_lets_that_double
set_option compiler.extract_closed false
set_option bootstrap.genMatcherCode false
set_option genSizeOfSpec false
set_option Elab.async false
set_option linter.all false
set_option maxRecDepth 100000
open Array renaming getElem?_eq_some_iff->Tx,length_toList->Uh
open Bool renaming false_ne_true->Pk,and_eq_true->Q5,false_eq_true->Rz,eq_iff_iff->Tf
open False renaming elim->P6
open Int renaming emod_lt_of_pos->Qd,emod_nonneg->Qg,toNat_natCast->Rf,toNat_of_nonneg->Sz
open List renaming getElem?_eq_getElem->Pb,length_append->Pc,getElem?_eq_some_iff->Pj,size_toArray->Pf,length_singleton->Ph,length_map->Pi,getElem?_append_left->P0,mem_cons->Pm,getElem?_append_right->Rb,append_nil->P5,getElem?_cons_zero->Q0,append_assoc->Qe,length_cons->P8,not_mem_nil->P9,range->Pw,mem_append_right->Q2,replicate->P7,length_take->Qi,getElem?_map->Qn,mem_singleton->Qt,drop_eq_getElem_cons->Rt,map_append->Qo,mem_cons_of_mem->Rk,mem_of_getElem?->Rl,drop_of_length_le->Ru,take_of_length_le->Rv,mem_append->Qu,find?_cons->Qv,eq_nil_of_length_eq_zero->Ss,map_cons->Qq,getElem?_cons_succ->R9,lookup_cons->Rn,all_cons->Q7,take_add_one->R0,reverse_append->Sc,getElem?_concat_length->Tw,getD_eq_getElem?_getD->Tz,append_inj'->R3,length_replicate->Sv,replicate_succ->Sy,length_drop->Se,all_eq_true->Sf,cons_append->Sg,getElem?_set_self->Ub,reverse_singleton->Ud,lookup->Rh,getElem?_set_ne->Uf,take_length->Te,filterMap_cons->Ug,mem_cons_self->Ui,forIn_cons->Tg,flatten_cons->Um,singleton_append->Vi,any_cons->To,dropLast_concat_getLast->We,nodup_cons->Uq,length_nil->Ut,map_singleton->Vo,forIn_nil->Uw,reverse_cons->Vu,getElem_mem->Vw,mem_reverse->Vy,of_mem_zip->V2,length->U9
open List.cons renaming injEq->V7
open Nat renaming le_refl->Pa,lt_of_lt_of_le->Pr,ne_of_lt->Pl,zero_le->Pu,le_trans->P3,lt_irrefl->Qp,ne_of_gt->Qk,sub_self->Rs,lt_succ_self->Td,le_add_right->Up,sub_zero->Tp,le_of_lt->U2,succ_pos->U6,not_lt_zero->V8,le_succ->U8
open Ne renaming symm->Pg
open Option renaming bind_some->Qa,map_eq_some_iff->Sa,isSome_iff_exists->Su,map_some->Ti,toList_some->Ul
open Option.some renaming inj->Qf
open PyProof.Rows renaming callWith_type1->Ra,slot_tuple_getitem->R8
open PySem renaming wpAny_bind->O8,wpAny_pure->O9,wpAny_field->Pn,wpAny_callSpecial?_slot->Qz,wpAny_setField_rec->Q3,wpAny_call_entry->Q4,wpAny_truthy_bool->Rc,wpAny_seqItems->Qw,wpAny_holding->Qr,mem_of_lookup->Ry,wpAny_newObj_type->Rm,builtinLookup_eq_fast->Sw,Params->Q8,wpAny_passesOwn->R4,wpAny_getItem_str_slice->T9,wpAny_attempt->Rq,wpAny_Call_Name_kw->S9,wpAny_pyIter_tuple->Ta,wpAny_execs_nil->Sh,codeAny_builtin->Sj,wpAny_mono->Q9,wpAny_pyIter_list->Tb,codeAny_mono->R6,Stmt->Ri,plainId_quiet->Sk,typeLookup_type->Th,wpAny_setField->Tj,wpAny_typeOf->Sn,noFill_tuple_add->Uo,wpAny_updateSeq_pair->Vl,post_val_or_str->Ur,wpAny_updateSeq->Us,call_meets->Sq,wpAny_rule->Sr,seq_tuple_add->Uy,wpAny_onRaise->Uz,wpAny_execs_cons->Vv,wpAny_isInstance->Vx,Within->U1,concat_meets->U4,wpAny_specialOf->V5,wpAny_call->Tq,sizeLine_eq->U7,wpAny_letGo->Va
open PySem.Around renaming under_plainId->Sb
open PySem.AutoSeq1 renaming wpAny_loadPart'->Tu
open PySem.Builtin.List renaming listTooLong->T6,listExtendWith->Vb
open PySem.Builtin.Range renaming rangeSize->T7
open PySem.Builtin.Slice renaming slicePlaces->T1,sliceAdjust->Vd
open PySem.Builtin.SmallTypes renaming ownedTupleIsFree->Qy,nextOf->Qm,ownedTupleHandOut->V9
open PySem.Builtin.Tuple renaming tupleExact->T4
open PySem.Calls renaming spliced_cons->Vn,spliced_nil->Vt
open PySem.Challenge renaming pw_gapscribe_k57_lets_that_double->R7
open PySem.F renaming plainAttrs_list->Po,slot_list_append->Py,type_list_append->Pz,slot_zip_next->Rj,slot_tuple_iterator_next->Tt,slot_enumerate_next->Tv,plain_extend_loop->T2,args_tuple_add_2->T3,entry_tuple_add->T8,args_zip_next_1->Ua,slot_tuple_add->Uc,entry_zip_next->Ue,excBase_ValueError->Vc,slot_list_getattribute->Ve,slot_list_extend->Vf,type_list_extend->Vg,args_tuple_iterator_next_1->Wa,entry_tuple_iterator_next->Wb,slot_list_pop->Vj,type_list_pop->Vk,args_enumerate_next_1->Wc,entry_enumerate_next->Wd
open PySem.Heap renaming get?_push_of_some->Pd,lt_size->Pe,get?_push_size->Pp,SameBut->Pq,get?_update_other->Q1,size_push->Qc,get?_update_self->Rw,get?_none_of_le->Sx,ExtBut->So,dictOf_iff->V6
open PySem.Obj renaming mapSeq->Qs,data_mapFields->Uk,mapFields->Sl,isFreed_of_fields->Vh
open PySem.Paired renaming length->Ux
open PySem.PassesOwn renaming never->Qj
open PySem.SeqAt renaming EqAt->Pt
open PySem.SeqAt.EqAt renaming same->V3
open PySem.Str renaming ofString->Ql
open PySem.Txt renaming slice_le->U5,slice->Ts
open PySem.W renaming Frag->O7,findIn->Px,nsIn->Ps,kitOne->P4,kia_one->Qb,subIn->Qh,emptyDict->Re,keepIn->Q6,instObj->Ro,clsIn->Rg,typeIn->Rp,hasDictIn->Sd,tailIn->R5,BT->Qx,fnOf->Rr,plainGet->Tc,callWith_K->Uj,excIn->Sm,nsOkIn->Tk,Looks->Tl,plainGet_of->Vm,lookIn->Uu,InstAt->Uv,methodObj->Vp,plainOver->Vq,specialIn->Vr,kitx_list->Vs,mg_of->U0,isFn->U3,takerIn->Vz,makesIn->V0,takesIn->V1,OpenLaw->V4
namespace L2
open PySem PySem.Spec PyProof.Rows
noncomputable abbrev Ao:=Sum Int Str
noncomputable def Hk:Ao->Value->Bool
 | .inl k,v=>Value.isInt k v
 | .inr x,v=>Value.isStrOf x v
noncomputable def keyH (w:World):Ao->Int
 | .inl k=>hashInt k
 | .inr x=>hashStr w x
theorem Ff:∀ {k:Ao} {v:Value},Hk k v=true->(∃ i t,k=Sum.inl i/\v=Value.int i t)\/(∃ x t,k=Sum.inr x/\v=Value.str x t)
 | .inl i,v,h=>by
  obtain ⟨t,e⟩:=Value.isInt_shape (k:=i) (v:=v) h
  exact .inl ⟨i,t,rfl,e⟩
 | .inr x,v,h=>by
  obtain ⟨t,e⟩:=Value.isStrOf_shape (x:=x) (v:=v) h
  exact .inr ⟨x,t,rfl,e⟩
theorem Zrf (i:Int) (t:Tok):Hk (.inl i) (.int i t)=true:=by simp [Hk,Value.isInt]
theorem Zrj (x:Str) (t:Tok):Hk (.inr x) (.str x t)=true:=by simp [Hk,Value.isStrOf]
theorem Zlu (a b:Int):decide ((Sum.inl a:Ao)=Sum.inl b)=(a == b):=by
 by_cases e:a=b
 ·subst e; simp
 ·have h:¬ (Sum.inl a:Ao)=Sum.inl b:=fun q=>e (Sum.inl.inj q)
  rw [decide_eq_false h]
  exact (beq_eq_false_iff_ne.mpr e).symm
theorem Znl (a b:Str):decide ((Sum.inr a:Ao)=Sum.inr b)=decide (a=b):=by
 by_cases e:a=b
 ·subst e; simp
 ·have h:¬ (Sum.inr a:Ao)=Sum.inr b:=fun q=>e (Sum.inr.inj q)
  rw [decide_eq_false h,decide_eq_false e]
theorem Zls (a:Int) (b:Str):decide ((Sum.inl a:Ao)=Sum.inr b)=false:=decide_eq_false (fun q=>nomatch q)
theorem Zpk (a:Str) (b:Int):decide ((Sum.inr a:Ao)=Sum.inl b)=false:=decide_eq_false (fun q=>nomatch q)
noncomputable def Di (prog:Program) (w:World):PySem.KeyKind prog w Ao where
 is:=Hk
 hash:=keyH w
 inj:=fun v a b ha hb=>by
  rcases Ff ha with ⟨i,t,rfl,rfl⟩ | ⟨x,t,rfl,rfl⟩
  ·rcases Ff hb with ⟨j,u,rfl,e⟩ | ⟨y,u,rfl,e⟩
   ·injection e with e1 _; rw [e1]
   ·exact nomatch e
  ·rcases Ff hb with ⟨j,u,rfl,e⟩ | ⟨y,u,rfl,e⟩
   ·exact nomatch e
   ·injection e with e1 _; rw [e1]
 byValue:=fun k v h=>by
  rcases Ff h with ⟨i,t,rfl,rfl⟩ | ⟨x,t,rfl,rfl⟩ <;> rfl
 pyHash:=fun hv h=>by
  rcases Ff hv with ⟨i,t,rfl,rfl⟩ | ⟨x,t,rfl,rfl⟩
  ·exact wpAny_pyHash_int h
  ·exact wpAny_pyHash_str h
 eqBool:=fun hu hv h=>by
  rcases Ff hu with ⟨i,t,rfl,rfl⟩ | ⟨x,t,rfl,rfl⟩
  ·rcases Ff hv with ⟨j,u,rfl,rfl⟩ | ⟨y,u,rfl,rfl⟩
   ·rw [Zlu] at h; exact wpAny_eqBool_int h
   ·rw [Zls] at h; exact Pt.int_str i t y u _ _ _ _ h
  ·rcases Ff hv with ⟨j,u,rfl,rfl⟩ | ⟨y,u,rfl,rfl⟩
   ·rw [Zpk] at h; exact Pt.str_int x t j u _ _ _ _ h
   ·rw [Znl] at h; exact wpAny_eqBool_str h
 «strs»:=fun k x t v h=>by
  rcases Ff h with ⟨i,u,rfl,e⟩ | ⟨y,u,rfl,e⟩
  ·exact nomatch e
  ·injection e with e1 _
   subst e1
   cases v <;> rfl
theorem Zp3 (prog:Program) (w:World) (i:Int) (t:Tok):(Di prog w).is (.inl i) (.int i t)=true:=Zrf i t
theorem Zkb (prog:Program) (w:World) (x:Str) (t:Tok):(Di prog w).is (.inr x) (.str x t)=true:=Zrj x t
end L2
namespace L2
open PySem PySem.Spec PyProof.Rows
inductive V where
 | non | bl (b:Bool) | int (i:Int) | str (x:Str) | byt (b:Array UInt8) | flt (b:UInt64) | ref (a:Addr) | ty (n:String)
 deriving DecidableEq
noncomputable def RelV:V->Value->Prop
 | .non,u=>u=Value.none
 | .bl b,u=>u=Value.bool b
 | .int i,u=>∃ t,u=Value.int i t
 | .str x,u=>∃ t,u=Value.str x t
 | .byt b,u=>∃ t,u=Value.bytes b t
 | .flt b,u=>∃ t,u=Value.float b t
 | .ref a,u=>u=Value.ref a
 | .ty n,u=>u=Value.type n
noncomputable abbrev Vals:List V->List Value->Prop:=Paired RelV
theorem Vals.length {xs:List V} {us:List Value} (r:Vals xs us):xs.length=us.length:=Ux r
theorem Vals.get:∀ {xs:List V} {us:List Value} {i:Nat} {x:V},Vals xs us->xs[i]?=some x->∃ u,us[i]?=some u/\RelV x u
 | _,_,_,_,.nil,e=>by simp at e
 | _,_,0,_,.cons r _,e=>by simp at e; subst e; exact ⟨_,rfl,r⟩
 | _,_,i + 1,x,.cons _ t,e=>by
  obtain ⟨u,h1,h2⟩:=Vals.get (i:=i) (x:=x) t (by simpa using e)
  exact ⟨u,by simpa using h1,h2⟩
theorem Vals.append:∀ {xs ys:List V} {us ws:List Value},Vals xs us->Vals ys ws->Vals (xs++ys) (us++ws)
 | _,_,_,_,.nil,s=>s
 | _,_,_,_,.cons r t,s=>.cons r (Vals.append t s)
theorem Vals.take:∀ {xs:List V} {us:List Value} (n:Nat),Vals xs us->Vals (xs.take n) (us.take n)
 | _,_,0,_=>.nil
 | _,_,_ + 1,.nil=>.nil
 | _,_,n + 1,.cons r t=>.cons r (Vals.take n t)
theorem Vals.drop:∀ {xs:List V} {us:List Value} (n:Nat),Vals xs us->Vals (xs.drop n) (us.drop n)
 | _,_,0,r=>r
 | _,_,_ + 1,.nil=>.nil
 | _,_,n + 1,.cons _ t=>Vals.drop n t
noncomputable def RelO:Option V->Option Value->Prop
 | some v,some u=>RelV v u
 | none,none=>True
 | _,_=>False
noncomputable def KV {κ:Type}:List (κ×V)->List (κ×Value)->Prop:=Paired fun (p:κ×V) (q:κ×Value)=>p.1=q.1/\RelV p.2 q.2
noncomputable def kV:Ao->V
 | .inl i=>.int i
 | .inr x=>.str x
inductive HO where
  | lst (xs:List V)
  | tup (xs:List V)
  | dK (kvs:List (Ao×V)) | dT (kvs:List (List Ao×V))
  | set (S:Int->Bool) (n:Nat)
  | ins (C dx:Addr) (fs:List (Str×V))
  | own (x:Addr)
  | xd (fs:List (Str×V))
  | met (f x:Addr)
  | rng (lo hi:Int)
  | frz (o:Obj) (u:HO)
  | tbl (ps:Array Value)
  | ext (φ:Heap->Prop)
noncomputable abbrev Hp:=Addr->Option HO
noncomputable def upd (H:Hp) (a:Addr) (o:HO):Hp:=fun b=>if b=a then some o else H b
theorem Ae {H:Hp} {a:Addr} {o:HO}:upd H a o a=some o:=by unfold upd; rw [if_pos rfl]
theorem Af {H:Hp} {a b:Addr} {o:HO} (h:b≠a):upd H a o b=H b:=by unfold upd; rw [if_neg h]
theorem Gr {H:Hp} {a:Addr} {o u:HO}:upd (upd H a o) a u=upd H a u:=by
 funext b; unfold upd; split <;> rfl
theorem Dj {H:Hp} {a b:Addr} {o u:HO} (h:H a=some o) (h':H b=some u) (d:o≠u):a≠b:=by
 intro e; subst e; rw [h] at h'; exact d (Qf h')
theorem Cg {H:Hp} {a b:Addr} {o:HO} (h:H a=some o) (h':H b=none):a≠b:=by
 intro e; subst e; rw [h] at h'; cases h'
section
variable (P:Program) (w:World)
noncomputable def ObjOk (H:Hp) (h:Heap) (a:Addr):HO->Prop
 | .lst xs=>xs.length<=sizeLine/\∃ (its:List Value) (n:Nat),Vals xs its/\h.get? a=some { cls:=.type "list",data:=.seq its.toArray n }
 | .tup xs=>xs.length<=sizeLine/\∃ its:List Value,Vals xs its/\IsTup h a its.toArray
 | .dK kvs=>kvs.length<=sizeLine/\(a == sysModules)=false/\∃ vs,KV kvs vs/\h.DictOf (Di P w) a vs
 | .dT kvs=>kvs.length<=sizeLine/\(a == sysModules)=false/\∃ xs:List (List Ao×Addr×Value),
   Paired (fun (p:List Ao×V) (q:List Ao×Addr×Value)=>p.1=q.1/\H q.2.1=some (.tup (p.1.map kV))/\RelV p.2 q.2.2) kvs xs /\
   ∃ o es ep,h.get? a=some o/\o.ExactDict/\o.data=.dict es ep/\es.toList=xs.map (entryOfKey (tupleKind (Di P w)))/\(xs.map (·.1)).Nodup
 | .set S n=>h.SetOf (intKind P w) a S n
 | .ins C dx fs=>H dx=some (.own a)/\fs.length<=1000/\dx≠a/\h.get? a=some (Ro C dx) /\
   ∃ mA,h.Ns1 dx mA/\(∀ f,RelO (fs.lookup f) (mA f))/\U1 mA (fs.map (·.1))
 | .own _=>∃ o,h.get? a=some o
 | .xd fs=>∃ mA,h.Ns1 a mA/\∀ f,RelO (fs.lookup f) (mA f)
 | .rng lo hi=>∃ t u v,h.get? a=some { cls:=.type "range",data:=.fields #[.int lo t,.int hi u,.int 1 v] }
 | .frz o u=>h.get? a=some o/\ObjOk H h a u
 | .tbl ps=>h.get? a=some { cls:=.none,data:=.fields ps }
 | .met f x=>h.get? a=some (Vp (.ref f) (.ref x))
 | .ext φ=>φ h/\(∃ o,h.get? a=some o)/\∀ h1 h2:Heap,φ h1->(∀ o,h1.get? a=some o->h2.get? a=some o)->φ h2
noncomputable def HOk (H:Hp) (h:Heap):Prop:=∀ a o,H a=some o->ObjOk P w H h a o
end
section
variable {P:Program} {w:World} {H H':Hp} {h h':Heap} {a:Addr} {o:HO}
theorem ObjOk.lt (x:ObjOk P w H h a o):a < h.objs.size:=by
 cases o with
 | lst xs=>obtain ⟨_,_,_,_,e⟩:=x; exact Pe e
 | tup xs=>obtain ⟨_,_,_,p⟩:=x; exact p.lt
 | dK kvs=>obtain ⟨_,_,_,_,o,_,_,e,_⟩:=x; exact Pe e
 | dT kvs=>obtain ⟨_,_,_,_,o,_,_,e,_⟩:=x; exact Pe e
 | set S n=>obtain ⟨o,_,_,_,e,_⟩:=x; exact Pe e
 | ins C dx fs=>obtain ⟨_,_,_,e,_⟩:=x; exact Pe e
 | own y=>obtain ⟨_,e⟩:=x; exact Pe e
 | xd fs=>obtain ⟨_,⟨_,_,_,e,_⟩,_⟩:=x; exact Pe e
 | rng lo hi=>obtain ⟨_,_,_,e⟩:=x; exact Pe e
 | frz ob u=>obtain ⟨e,_⟩:=x; exact Pe e
 | tbl ps=>exact Pe (show h.get? a=some _ from x)
 | met f y=>exact Pe (show h.get? a=some _ from x)
 | ext φ=>obtain ⟨_,⟨_,e⟩,_⟩:=x; exact Pe e
theorem Paired.mapP {α β:Type} {F G:α->β->Prop}:∀ {l₁:List α} {l₂:List β},Paired F l₁ l₂->(∀ a b,F a b->G a b)->Paired G l₁ l₂
 | _,_,.nil,_=>.nil
 | _,_,.cons r t,f=>.cons (f _ _ r) (Paired.mapP t f)
theorem ObjOk.stay (x:ObjOk P w H h a o) (k:∀ b u,(b=a\/H b=some (.own a))->h.get? b=some u->h'.get? b=some u)
  (ho:∀ b,H b=some (.own a)->H' b=some (.own a)) (ht:∀ b xs,H b=some (.tup xs)->H' b=some (.tup xs)):ObjOk P w H' h' a o:=by
 induction o with
 | lst xs=>obtain ⟨z,its,n,r,e⟩:=x; exact ⟨z,its,n,r,k _ _ (.inl rfl) e⟩
 | tup xs=>obtain ⟨z,its,r,ob,e,c⟩:=x; exact ⟨z,its,r,ob,k _ _ (.inl rfl) e,c⟩
 | dK kvs=>obtain ⟨z,y,vs,r,ob,es,ep,e,c⟩:=x; exact ⟨z,y,vs,r,ob,es,ep,k _ _ (.inl rfl) e,c⟩
 | dT kvs =>
  obtain ⟨z,y,xs,r,ob,es,ep,e,c⟩:=x
  exact ⟨z,y,xs,Paired.mapP r fun p q z=>⟨z.1,ht _ _ z.2.1,z.2.2⟩,ob,es,ep,k _ _ (.inl rfl) e,c⟩
 | set S n=>obtain ⟨ob,es,ep,t,e,c⟩:=x; exact ⟨ob,es,ep,t,k _ _ (.inl rfl) e,c⟩
 | ins C dx fs =>
  obtain ⟨d,z,ne,e,mA,⟨od,es,ep,e2,c⟩,r⟩:=x
  exact ⟨ho _ d,z,ne,k _ _ (.inl rfl) e,mA,⟨od,es,ep,k _ _ (.inr d) e2,c⟩,r⟩
 | own y=>obtain ⟨ob,e⟩:=x; exact ⟨ob,k _ _ (.inl rfl) e⟩
 | xd fs=>obtain ⟨mA,⟨od,es,ep,e,c⟩,r⟩:=x; exact ⟨mA,⟨od,es,ep,k _ _ (.inl rfl) e,c⟩,r⟩
 | rng lo hi=>obtain ⟨t,u,v,e⟩:=x; exact ⟨t,u,v,k _ _ (.inl rfl) e⟩
 | frz ob u ih=>obtain ⟨e,q⟩:=x; exact ⟨k _ _ (.inl rfl) e,ih q⟩
 | tbl ps =>
  have e:h.get? a=some { cls:=.none,data:=.fields ps }:=x
  show h'.get? a=some { cls:=.none,data:=.fields ps }
  exact k a _ (.inl rfl) e
 | met f y =>
  have e:h.get? a=some (Vp (.ref f) (.ref y)):=x
  show h'.get? a=some (Vp (.ref f) (.ref y))
  exact k a _ (.inl rfl) e
 | ext φ=>obtain ⟨p,⟨o,e⟩,st⟩:=x; exact ⟨st _ _ p fun o q=>k _ _ (.inl rfl) q,⟨o,k _ _ (.inl rfl) e⟩,st⟩
theorem HOk.lt (x:HOk P w H h) (e:H a=some o):a < h.objs.size:=(x a o e).lt
theorem HOk.fresh (x:HOk P w H h) (e:h.objs.size<=a):H a=none:=by
 cases q:H a with
 | none=>rfl
 | some u=>exact absurd (Pr (x.lt q) e) (Qp _)
theorem HOk.kept (x:HOk P w H h) (k:∀ b u,h.get? b=some u->h'.get? b=some u):HOk P w H h':=fun a o e =>
 (x a o e).stay (fun b u _ q=>k b u q) (fun _ q=>q) fun _ _ q=>q
theorem HOk.laid (x:HOk P w H h) (k:∀ b u,h.get? b=some u->h'.get? b=some u) (hp:h.objs.size<=a) (new:ObjOk P w (upd H a o) h' a o):HOk P w (upd H a o) h':=fun b u e=>by
 have hn:=x.fresh hp
 by_cases hb:b=a
 ·subst hb; rw [Ae] at e; cases e; exact new
 ·rw [Af hb] at e
  exact (x b u e).stay (fun c v _ q=>k c v q) (fun c q=>by rw [Af (Cg q hn)]; exact q) fun c xs q=>by rw [Af (Cg q hn)]; exact q
end
noncomputable def Rd (H:Hp) (a:Addr) (u:HO):Prop:=H a=some u\/∃ o,H a=some (.frz o u)
theorem Rd.ok {P:Program} {w:World} {H:Hp} {h:Heap} {a:Addr} {u:HO} (r:Rd H a u) (x:HOk P w H h):ObjOk P w H h a u:=by
 rcases r with r | ⟨o,r⟩
 ·exact x a u r
 ·obtain ⟨_,q⟩:=x a _ r
  exact q
noncomputable def Mut:Option HO->Prop
 | some (.lst _)=>True
 | some (.dK _)=>True
 | some (.dT _)=>True
 | some (.set _ _)=>True
 | some (.ins _ _ _)=>True
 | some (.ext _)=>True
 | _=>False
section
variable {P:Program} {w:World} {H:Hp} {h h':Heap} {x e:Addr} {o':HO}
theorem HOk.write (ok:HOk P w H h) (mu:Mut (H x)) (he:e=x\/H e=some (.own x)) (k:∀ b u,b≠e->h.get? b=some u->h'.get? b=some u) (heo:∃ u,h'.get? e=some u)
  (new:ObjOk P w (upd H x o') h' x o'):HOk P w (upd H x o') h':=fun b u q=>by
 have nown:∀ c y,H c=some (.own y)->c≠x:=fun c y r z=>by subst z; rw [r] at mu; exact mu
 have ntup:∀ c xs,H c=some (.tup xs)->c≠x:=fun c xs r z=>by subst z; rw [r] at mu; exact mu
 by_cases hb:b=x
 ·subst hb; rw [Ae] at q; cases q; exact new
 ·rw [Af hb] at q
  by_cases hbe:b=e
  ·have q':H b=some (.own x):=by
    rcases he with z | z
    ·exact absurd (hbe.trans z) hb
    ·rw [hbe]; exact z
   rw [q] at q'; cases q'
   obtain ⟨v,hv⟩:=heo
   exact ⟨v,by rw [hbe]; exact hv⟩
  ·refine (ok b u q).stay (fun c v hc r=>k c v ?_ r) (fun c r=>by rw [Af (nown c b r)]; exact r) fun c xs r=>by rw [Af (ntup c xs r)]; exact r
   rcases hc with rfl | hc
   ·exact hbe
   ·rintro rfl
    rcases he with z | z
    ·exact nown c b hc z
    ·rw [hc] at z; cases z; exact hb rfl
end
structure Un (fs ex:List Addr) (H H':Hp) (h h':Heap):Prop where
 keep:∀ b o,h.get? b=some o->H b=none->b ∉ fs->b ∉ ex->h'.get? b=some o
 slot:∀ b o,h.get? b=some o->H b=none->b∈fs->b ∉ ex->∃ sl,h'.get? b=some { o with slots:=sl }
 free:∀ b o,h.get? b=some o->H b=none->b ∉ ex->H' b=none
 there:∀ b o,h.get? b=some o->b ∉ ex->∃ o',h'.get? b=some o'
 tups:∀ b xs,H b=some (.tup xs)->H' b=some (.tup xs)
 frzs:∀ b o u,H b=some (.frz o u)->H' b=some (.frz o u)
 tbls:∀ b ps,H b=some (.tbl ps)->∃ more,H' b=some (.tbl (ps++more))
section
variable {fs fs' ex ex':List Addr} {H H1 H2:Hp} {h h1 h2 h':Heap} {a x e:Addr} {o:HO}
theorem Un.any (u:Un fs ex H H1 h h1) {b:Addr} {ob:Obj} (q:h.get? b=some ob) (n:H b=none) (hx:b ∉ ex):∃ sl,h1.get? b=some { ob with slots:=sl }:=by
 by_cases hb:b∈fs
 ·exact u.slot b ob q n hb hx
 ·exact ⟨ob.slots,u.keep b ob q n hb hx⟩
theorem Un.kept (k:∀ b u,h.get? b=some u->h'.get? b=some u):Un fs ex H H h h' :=
 ⟨fun b ob q _ _ _=>k b ob q,fun b ob q _ _ _=>⟨ob.slots,k b ob q⟩,fun _ _ _ n _=>n,fun b ob q _=>⟨ob,k b ob q⟩,fun _ _ q=>q,fun _ _ _ q=>q,fun _ ps q=>⟨#[],by rw [q]; simp⟩⟩
theorem Un.refl:Un fs ex H H h h:=Un.kept fun _ _ q=>q
theorem Un.laid (k:∀ b u,h.get? b=some u->h'.get? b=some u) (hp:h.objs.size<=a) (hn:H a=none):Un fs ex H (upd H a o) h h' where
 keep:=fun b u q _ _ _=>k b u q
 slot:=fun b u q _ _ _=>⟨u.slots,k b u q⟩
 free:=fun b u q n _=>by rw [Af (Pl (Pr (Pe q) hp))]; exact n
 there:=fun b u q _=>⟨u,k b u q⟩
 tups:=fun b xs q=>by rw [Af (Cg q hn)]; exact q
 frzs:=fun b u xs q=>by rw [Af (Cg q hn)]; exact q
 tbls:=fun b ps q=>⟨#[],by rw [Af (Cg q hn),q]; simp⟩
theorem Un.write (mu:Mut (H x)) (he:e=x\/H e=some (.own x)) (k:∀ b u,b≠e->h.get? b=some u->h'.get? b=some u) (heo:∃ u,h'.get? e=some u):Un fs ex H (upd H x o) h h':=by
 have hx:∀ b,H b=none->b≠x:=fun b n z=>by subst z; rw [n] at mu; exact mu
 have hb:∀ b,H b=none->b≠e:=fun b n z=>by
  subst z
  rcases he with r | r
  ·exact hx b n r
  ·rw [n] at r; cases r
 have hm:∀ b u,H b=some u->¬ Mut (some u)->b≠x:=fun b u q nm z=>by subst z; rw [q] at mu; exact nm mu
 refine ⟨fun b u q n _ _=>k b u (hb b n) q,fun b u q n _ _=>⟨u.slots,k b u (hb b n) q⟩,fun b u q n _=>by rw [Af (hx b n)]; exact n,fun b u q _=>?_,
  fun b xs q=>by rw [Af (hm b _ q fun z=>z)]; exact q,fun b u xs q=>by rw [Af (hm b _ q fun z=>z)]; exact q,fun b ps q=>⟨#[],by rw [Af (hm b _ q fun z=>z),q]; simp⟩⟩
 by_cases hbe:b=e
 ·subst hbe; exact heo
 ·exact ⟨u,k b u hbe q⟩
end
noncomputable def trk (h:Heap) (H:Hp):List Addr:=(Pw h.objs.size).filter fun a=>(H a).isSome
noncomputable def E7 (h:Heap) (H:Hp):Heap:=PySem.W.hideAll h (trk h H)
theorem Zjg (h:Heap) (H:Hp):(E7 h H).objs.size=h.objs.size:=PySem.W.hideAll_size _ _
theorem Zou {h:Heap} {H:Hp} {b:Addr} {o:Obj} (e:h.get? b=some o) (n:H b=none):(E7 h H).get? b=some o :=
 PySem.W.hideAll_get _ e fun hm=>by
  have q:(H b).isSome=true:=(List.mem_filter.mp hm).2
  rw [n] at q; simp at q
theorem Zs5 {h:Heap} {H:Hp} {b:Addr} {o:Obj} (e:(E7 h H).get? b=some o):h.get? b=some o/\H b=none:=by
 have e':h.get? b=some o:=PySem.W.of_hideAll (trk h H) e
 refine ⟨e',?_⟩
 cases q:H b with
 | none=>rfl
 | some x =>
  have hm:b∈trk h H:=List.mem_filter.mpr ⟨List.mem_range.mpr (Pe e'),by simp [q]⟩
  have z:(E7 h H).get? b=none:=PySem.W.hideAll_none (trk h H) hm
  rw [z] at e; cases e
end L2
namespace L2
open PySem PySem.Spec PyProof.Rows
structure Mod (K:O7) (mg:Str->Option Value) (base:Heap):Prop where
 kin:K.In base
 glob:base.Ns mainGlobals mg
 blt:∃ mb,base.Ns builtinsNs mb/\∀ x:Str,x ≠ "__name__" -> mb x=bootBuiltins x
 nolimit:base.NoLimit
structure Cx where
 prog:Program
 w:World
 K:O7
 mg:Str->Option Value
 base:Heap
 A:Around
 N:List Str
 s₀:Shared
 H₀:Hp
 env:Env
 outer:List Env
 stack:List Env
 ex:List Addr
 fn:Str->Bool
 calm:Bool
 pn:List (Addr×Obj)
 xe:Value->Shared->Prop
noncomputable def Bg (l:List Env):List Addr:=l.filterMap (·.frame)
noncomputable abbrev Cx.fs (X:Cx):List Addr:=Bg X.outer
noncomputable def Vis (sc:Scope) (x:Str):Prop:=sc.names.lookup x=some .local\/sc.names.lookup x=some .cell\/sc.names.lookup x=some .free
noncomputable def Fi (sc:Scope) (x:Str):Prop:=sc.names.lookup x=some .local\/sc.names.lookup x=some .cell
noncomputable def Look (env:Env) (h:Heap) (m:Str->Option Value) (x:Str) (u:Value):Prop :=
 (env.kindOf x=some .local/\m x=some u)\/((env.kindOf x=some .cell\/env.kindOf x=some .free)/\∃ c,env.cells.lookup x=some c/\h.IsCell c (some u))
structure Cx.Ok (X:Cx):Prop where
 mod:Mod X.K X.mg X.base
 kind:X.env.scope.kind=.function
 glob:X.env.globals=mainGlobals
 blt:X.env.builtins=builtinsNs
 above:X.s₀.heap.objs.size<=X.env.locals
 inj:∀ x y c,X.env.cells.lookup x=some c->X.env.cells.lookup y=some c->x=y
 has:∀ x,(X.env.kindOf x=some .cell\/X.env.kindOf x=some .free)->∃ c,X.env.cells.lookup x=some c
 cab:∀ x c,X.fn x=true->X.env.cells.lookup x=some c->X.s₀.heap.objs.size<=c
 hd:X.calm=true->X.A.handled=none
 frames:X.A.frames=some X.stack
 stk:X.stack=X.outer\/(X.stack=X.env :: X.outer/\X.env.frame=some X.env.locals)
 exf:∀ b∈X.ex,b≠X.env.locals/\∀ x c,X.env.cells.lookup x=some c->c≠b
 bs:∀ b o,X.base.get? b=some o->X.s₀.heap.get? b=some o/\X.H₀ b=none
 bsz:X.base.objs.size<=X.s₀.heap.objs.size
 noex:∀ b o,X.base.get? b=some o->b ∉ X.ex
 exfs:∀ b∈X.ex,b ∉ X.fs
 funs:X.s₀.heap.FunFrames X.base X.outer
 frf:∀ b∈X.fs,X.H₀ b=none
structure Inv (X:Cx) (pins:List (Addr×Obj)) (σ:List (Option V)) (H:Hp) (s:Shared):Prop where
 ok:X.Ok
 os:s.os=X.s₀.os
 bare:AllBare s.gens
 base:Un X.fs X.ex X.H₀ H X.s₀.heap s.heap
 loc:∃ m,s.heap.Ns X.env.locals m/\∀ (i:Nat) (x:Str) (v:V),X.N[i]?=some x->σ[i]?=some (some v)->Vis X.env.scope x->∃ u,RelV v u/\Look X.env s.heap m x u
 cell:∀ x c,X.env.cells.lookup x=some c->∃ v,s.heap.IsCell c v
 free:H X.env.locals=none
 freeC:∀ x c,X.env.cells.lookup x=some c->H c=none
 pin:∀ p∈X.pn++pins,s.heap.get? p.1=some p.2/\H p.1=none/\p.1≠X.env.locals/\p.1 ∉ X.fs/\∀ v,p.2.data≠.cell v
 hok:HOk X.prog X.w H s.heap
 len:σ.length=X.N.length
section
variable {X:Cx} {pins:List (Addr×Obj)} {σ:List (Option V)} {H H':Hp} {s:Shared} {h':Heap}
theorem Cx.Ok.nofr (ok:X.Ok) {b:Addr} {o:Obj} (e:X.base.get? b=some o):b ∉ X.fs:=fun hb=>by
 have:=(ok.funs.mem hb).1
 rw [e] at this; cases this
theorem Inv.bs (I:Inv X pins σ H s):∀ b o,X.base.get? b=some o->s.heap.get? b=some o/\H b=none:=fun b o e =>
 ⟨I.base.keep b o (I.ok.bs b o e).1 (I.ok.bs b o e).2 (I.ok.nofr e) (I.ok.noex b o e),I.base.free b o (I.ok.bs b o e).1 (I.ok.bs b o e).2 (I.ok.noex b o e)⟩
theorem Inv.bk (I:Inv X pins σ H s):∀ b o,X.base.get? b=some o->s.heap.get? b=some o:=fun b o e=>(I.bs b o e).1
theorem Inv.mod (I:Inv X pins σ H s):Mod X.K X.mg X.base:=I.ok.mod
theorem Inv.kIn (I:Inv X pins σ H s):X.K.In s.heap:=I.ok.mod.kin.keeps I.bk
theorem Inv.lt (I:Inv X pins σ H s):X.env.locals < s.heap.objs.size:=let ⟨_,hn,_⟩:=I.loc; hn.lt
theorem Inv.sz (I:Inv X pins σ H s):X.s₀.heap.objs.size<=s.heap.objs.size:=P3 I.ok.above (U2 I.lt)
theorem Inv.nofs (I:Inv X pins σ H s) {a:Addr} (h:s.heap.objs.size<=a):a ∉ X.fs:=fun hb=>by
 obtain ⟨_,o,ho,_⟩:=I.ok.funs.mem hb
 exact absurd (Pr (Pe ho) (P3 I.sz h)) (Qp _)
theorem Inv.cne (I:Inv X pins σ H s):∀ x c,X.env.cells.lookup x=some c->c≠X.env.locals:=fun x c e z=>by
 obtain ⟨v,o,ho,hd⟩:=I.cell x c e
 obtain ⟨m,⟨o',es,ep,ho',hd',_⟩,_⟩:=I.loc
 rw [z,ho'] at ho; cases ho; rw [hd'] at hd; cases hd
theorem Inv.funs (I:Inv X pins σ H s):s.heap.FunFrames X.base X.outer:=by
 have all:∀ (l:List Env),(∀ b∈Bg l,b∈X.fs)->X.s₀.heap.FunFrames X.base l->s.heap.FunFrames X.base l:=by
  intro l
  induction l with
  | nil=>intro _ _; trivial
  | cons env r ih =>
   intro hs hl
   obtain ⟨hk,⟨L,o,hf,hn,ho,hd⟩,hr⟩:=hl
   have hL:L∈X.fs:=hs L (by unfold Bg; rw [Ug,hf]; exact Ui)
   obtain ⟨sl,e⟩:=I.base.slot L o ho (I.ok.frf L hL) hL fun z=>I.ok.exfs L z hL
   exact ⟨hk,⟨L,_,hf,hn,e,hd⟩,ih (fun b hb=>hs b (by unfold Bg; rw [Ug,hf]; exact Rk _ hb)) hr⟩
 exact all X.outer (fun _ hb=>hb) I.ok.funs
theorem Inv.stack (I:Inv X pins σ H s):s.heap.FunFrames X.base X.stack:=by
 rcases I.ok.stk with e | ⟨e,hf⟩
 ·rw [e]; exact I.funs
 ·rw [e]
  obtain ⟨m,hn,_⟩:=I.loc
  refine .cons (by rw [I.ok.kind]; decide) hf hn ?_ I.funs
  exact Sx (P3 I.ok.bsz I.ok.above)
theorem Inv.stkSub (I:Inv X pins σ H s):∀ b∈Bg X.stack,b∈X.env.locals :: X.fs:=fun b hb=>by
 rcases I.ok.stk with e | ⟨e,hf⟩
 ·rw [e] at hb; exact Rk _ hb
 ·rw [e] at hb
  unfold Bg at hb
  rw [Ug,hf] at hb
  exact hb
theorem Inv.stkFree (I:Inv X pins σ H s):∀ b∈Bg X.stack,H b=none:=fun b hb=>by
 rcases Pm.mp (I.stkSub b hb) with e | hb
 ·rw [e]; exact I.free
 ·obtain ⟨_,o,ho,_⟩:=I.ok.funs.mem hb
  exact I.base.free b o ho (I.ok.frf b hb) fun z=>I.ok.exfs b z hb
theorem Inv.step {g':Array GenState} {t':Nat} {d':Drawn} {ch:List Addr} (I:Inv X pins σ H s)
  (hch:∀ b∈ch,(b∈X.ex\/X.s₀.heap.objs.size<=b)/\b≠X.env.locals/\(∀ x c,X.env.cells.lookup x=some c->c≠b)/\∀ p∈X.pn++pins,p.1≠b)
  (keep:∀ b o,b≠X.env.locals->b ∉ X.fs->b ∉ ch->s.heap.get? b=some o->H b=none->h'.get? b=some o)
  (slot:∀ b o,b≠X.env.locals->b∈X.fs->b ∉ ch->s.heap.get? b=some o->H b=none->∃ sl,h'.get? b=some { o with slots:=sl }) (free:∀ b o,b ∉ ch->s.heap.get? b=some o->H b=none->H' b=none)
  (there:∀ b o,b ∉ ch->s.heap.get? b=some o->∃ o',h'.get? b=some o')
  (tups:∀ b xs,H b=some (.tup xs)->H' b=some (.tup xs)) (frzs:∀ b o u,H b=some (.frz o u)->H' b=some (.frz o u)) (tbls:∀ b ps,H b=some (.tbl ps)->∃ more,H' b=some (.tbl (ps++more)))
  (ns:∀ m,s.heap.Ns X.env.locals m->h'.Ns X.env.locals m) (hok:HOk X.prog X.w H' h') (hg:AllBare g') :
  Inv X pins σ H' { s with heap:=h',gens:=g',drawn:=d',toks:=t' }:=by
 have neL:∀ b o,X.s₀.heap.get? b=some o->b≠X.env.locals:=fun b o e=>Pl (Pr (Pe e) I.ok.above)
 have neC:∀ b o,X.s₀.heap.get? b=some o->b ∉ X.ex->b ∉ ch:=fun b o e hx hb=>by
  rcases (hch b hb).1 with z | z
  ·exact hx z
  ·exact absurd (Pr (Pe e) z) (Qp _)
 have cellK:∀ x c,X.env.cells.lookup x=some c->∀ v,s.heap.IsCell c v->h'.IsCell c v:=fun x c e v ⟨o,ho,hd⟩=>by
  have nch:c ∉ ch:=fun z=>(hch c z).2.2.1 x c e rfl
  by_cases hc:c∈X.fs
  ·obtain ⟨sl,q⟩:=slot c o (I.cne x c e) hc nch ho (I.freeC x c e)
   exact ⟨_,q,hd⟩
  ·exact ⟨o,keep c o (I.cne x c e) hc nch ho (I.freeC x c e),hd⟩
 refine ⟨I.ok,I.os,hg,⟨fun b o e n hb hx=>?_,fun b o e n hb hx=>?_,fun b o e n hx=>?_,fun b o e hx=>?_,fun b xs e=>tups b xs (I.base.tups b xs e),fun b o xs e=>frzs b o xs (I.base.frzs b o xs e),fun b ps e=>?_⟩,?_,fun x c e=>?_,?_,fun x c e=>?_,fun p hp=>?_,hok,I.len⟩
 ·exact keep b o (neL b o e) hb (neC b o e hx) (I.base.keep b o e n hb hx) (I.base.free b o e n hx)
 ·obtain ⟨sl,e1⟩:=I.base.slot b o e n hb hx
  obtain ⟨sl',e2⟩:=slot b _ (neL b o e) hb (neC b o e hx) e1 (I.base.free b o e n hx)
  exact ⟨sl',e2⟩
 ·obtain ⟨o',e1⟩:=I.base.there b o e hx
  exact free b o' (neC b o e hx) e1 (I.base.free b o e n hx)
 ·obtain ⟨o',e1⟩:=I.base.there b o e hx
  exact there b o' (neC b o e hx) e1
 ·obtain ⟨m1,e1⟩:=I.base.tbls b ps e
  obtain ⟨m2,e2⟩:=tbls b _ e1
  exact ⟨m1++m2,by rw [e2,Array.append_assoc]⟩
 ·obtain ⟨m,hn,hl⟩:=I.loc
  refine ⟨m,ns m hn,fun i x v e1 e2 e3=>?_⟩
  obtain ⟨u,r,l⟩:=hl i x v e1 e2 e3
  refine ⟨u,r,?_⟩
  rcases l with l | ⟨k,c,e,z⟩
  ·exact .inl l
  ·exact .inr ⟨k,c,e,cellK x c e _ z⟩
 ·obtain ⟨v,z⟩:=I.cell x c e
  exact ⟨v,cellK x c e v z⟩
 ·obtain ⟨m,⟨o,_,_,ho,_⟩,_⟩:=I.loc
  exact free _ o (fun z=>(hch _ z).2.1 rfl) ho I.free
 ·obtain ⟨v,o,ho,hd⟩:=I.cell x c e
  exact free c o (fun z=>(hch c z).2.2.1 x c e rfl) ho (I.freeC x c e)
 ·obtain ⟨e,n,ne,nf,d⟩:=I.pin p hp
  have nch:p.1 ∉ ch:=fun z=>(hch p.1 z).2.2.2 p hp rfl
  exact ⟨keep p.1 p.2 ne nf nch e n,free p.1 p.2 nch e n,ne,nf,d⟩
theorem Inv.un {t':Nat} (I:Inv X pins σ H s) (u:Un X.fs [] H H' s.heap h') (hok:HOk X.prog X.w H' h'):Inv X pins σ H' { s with heap:=h',toks:=t' }:=by
 obtain ⟨m,⟨o,es,ep,ho,r⟩,_⟩:=id I.loc
 obtain ⟨sl,hL⟩:=u.any ho I.free (by simp)
 exact I.step (g':=s.gens) (d':=s.drawn) (ch:=[]) (fun _ z=>nomatch z) (fun b o _ hb _ e n=>u.keep b o e n hb (by simp)) (fun b o _ hb _ e n=>u.slot b o e n hb (by simp)) (fun b o _ e n=>u.free b o e n (by simp)) (fun b o _ e=>u.there b o e (by simp)) u.tups u.frzs u.tbls (fun m' hm=>by
  obtain ⟨o',es',ep',ho',r'⟩:=hm
  rw [ho] at ho'; cases ho'
  exact ⟨_,es',ep',hL,r'⟩) hok I.bare
theorem Inv.call {g':Array GenState} {t':Nat} {d':Drawn} {ch:List Addr} (I:Inv X pins σ H s) (u:Un (Bg X.stack) ch H H' s.heap h') (hok:HOk X.prog X.w H' h') (hg:AllBare g')
  (hch:∀ b∈ch,(b∈X.ex\/X.s₀.heap.objs.size<=b)/\b≠X.env.locals/\(∀ x c,X.env.cells.lookup x=some c->c≠b)/\∀ p∈X.pn++pins,p.1≠b) :
  Inv X pins σ H' { s with heap:=h',gens:=g',drawn:=d',toks:=t' }:=by
 obtain ⟨m,⟨o,es,ep,ho,r⟩,_⟩:=id I.loc
 obtain ⟨sl,hL⟩:=u.any ho I.free fun z=>(hch _ z).2.1 rfl
 exact I.step (ch:=ch) hch (fun b o hL hb hc e n=>u.keep b o e n (fun z=>(Pm.mp (I.stkSub b z)).elim hL hb) hc) (fun b o _ _ hc e n=>u.any e n hc) (fun b o hc e n=>u.free b o e n hc) (fun b o hc e=>u.there b o e hc) u.tups u.frzs u.tbls (fun m' hm=>by
  obtain ⟨o',es',ep',ho',r'⟩:=hm
  rw [ho] at ho'; cases ho'
  exact ⟨_,es',ep',hL,r'⟩) hok hg
theorem Inv.turned {t':Nat} {it:Addr} (I:Inv X pins σ H s) (k:∀ b o,b≠it->s.heap.get? b=some o->h'.get? b=some o) (hn:H it=none) (hL:it≠X.env.locals)
  (h1:it∈X.ex\/X.s₀.heap.objs.size<=it) (h2:∀ x c,X.env.cells.lookup x=some c->c≠it) (h3:∀ p∈X.pn++pins,p.1≠it):Inv X pins σ H { s with heap:=h',toks:=t' }:=by
 have nit:∀ b u,H b=some u->b≠it:=fun b u e z=>by rw [z,hn] at e; cases e
 refine I.step (g':=s.gens) (d':=s.drawn) (ch:=[it]) (fun b hb=>?_) (fun b o _ _ hc e _=>k b o (fun z=>hc (by simp [z])) e) (fun b o _ _ hc e _=>⟨o.slots,k b o (fun z=>hc (by simp [z])) e⟩) (fun _ _ _ _ n=>n)
  (fun b o hc e=>⟨o,k b o (fun z=>hc (by simp [z])) e⟩) (fun _ _ e=>e) (fun _ _ _ e=>e) (fun b ps e=>⟨#[],by rw [e]; simp⟩) (fun m hm=>?_) (fun b u e=>?_) I.bare
 ·have e:b=it:=by simpa using hb
  subst e
  exact ⟨h1,hL,h2,h3⟩
 ·obtain ⟨o,es,ep,ho,r⟩:=hm
  exact ⟨o,es,ep,k _ o (Pg hL) ho,r⟩
 ·refine (I.hok b u e).stay (fun c v hc q=>k c v ?_ q) (fun _ q=>q) fun _ _ q=>q
  rcases hc with z | z
  ·rw [z]; exact nit b u e
  ·exact nit c _ z
theorem Inv.tok (I:Inv X pins σ H s) (t:Nat):Inv X pins σ H { s with toks:=t }:=I.un (h':=s.heap) (t':=t) Un.refl I.hok
theorem Inv.kept {t':Nat} (I:Inv X pins σ H s) (k:∀ b u,s.heap.get? b=some u->h'.get? b=some u):Inv X pins σ H { s with heap:=h',toks:=t' }:=I.un (Un.kept k) (I.hok.kept k)
theorem Inv.laid {a:Addr} {o:HO} {t':Nat} (I:Inv X pins σ H s) (k:∀ b u,s.heap.get? b=some u->h'.get? b=some u) (hp:s.heap.objs.size<=a) (new:ObjOk X.prog X.w (upd H a o) h' a o) :
  Inv X pins σ (upd H a o) { s with heap:=h',toks:=t' }:=I.un (Un.laid k hp (I.hok.fresh hp)) (I.hok.laid k hp new)
theorem Inv.write {x e:Addr} {o:HO} {t':Nat} (I:Inv X pins σ H s) (mu:Mut (H x)) (he:e=x\/H e=some (.own x)) (k:∀ b u,b≠e->s.heap.get? b=some u->h'.get? b=some u) (heo:∃ u,h'.get? e=some u)
  (new:ObjOk X.prog X.w (upd H x o) h' x o):Inv X pins σ (upd H x o) { s with heap:=h',toks:=t' }:=I.un (Un.write mu he k heo) (I.hok.write mu he k heo new)
theorem Inv.pins_of {pins':List (Addr×Obj)} (I:Inv X pins σ H s) (h:∀ p∈pins',s.heap.get? p.1=some p.2/\H p.1=none/\p.1≠X.env.locals/\p.1 ∉ X.fs/\∀ v,p.2.data≠.cell v):Inv X pins' σ H s :=
 ⟨I.ok,I.os,I.bare,I.base,I.loc,I.cell,I.free,I.freeC,fun p hp=>(Qu.mp hp).elim (fun z=>I.pin p (List.mem_append_left _ z)) (h p),I.hok,I.len⟩
theorem Zao {N:List Str} (hN:N.Nodup) {i j:Nat} {x:Str} (a:N[i]?=some x) (b:N[j]?=some x):i=j:=by
 obtain ⟨h1,e1⟩:=Pj.mp a
 obtain ⟨h2,e2⟩:=Pj.mp b
 exact (List.getElem_inj hN).mp (e1.trans e2.symm)
theorem Zel {M:Model} {A:Around} {E:Value->Shared->Prop} {i:Nat} {x:Str} {v:V} {u:Value} {Q:Unit->Shared->Prop} (I:Inv X pins σ H s) (hN:X.N.Nodup) (hi:X.N[i]?=some x) (hx:Fi X.env.scope x) (r:RelV v u)
  (h:∀ s',Inv X pins (σ.set i (some v)) H s'->(∃ a,Pq a s.heap s'.heap/\(a=X.env.locals\/X.env.cells.lookup x=some a))->Q () s') (hf:X.fn x=true\/X.env.scope.names.lookup x=some .local:=by first | exact .inl rfl | exact .inr rfl | assumption):wpAny M A (storeName X.env x u) Q E s:=by
 obtain ⟨m,hn,hl⟩:=id I.loc
 have hcls:(X.env.scope.kind == .class || (X.env.scope.kind == .module && X.env.locals != X.env.globals))=false:=by rw [I.ok.kind]; rfl
 have hiσ:i < σ.length:=by rw [I.len]; exact (Pj.mp hi).1
 have cne:=I.cne
 have tracked:∀ {a:Addr} {h':Heap},(∃ o,s.heap.get? a=some o/\H a=none)->Pq a s.heap h'->HOk X.prog X.w H h':=fun {a h'} ha hs b ob e=>by
  obtain ⟨_,_,hfree⟩:=ha
  refine (I.hok b ob e).stay (fun c w' hc q=>(hs.2 c ?_).trans q) (fun _ q=>q) fun _ _ q=>q
  rintro rfl
  rcases hc with rfl | hc
  ·rw [hfree] at e; cases e
  ·rw [hfree] at hc; cases hc
 rcases hx with hk | hk
 ·refine wpAny_storeName_local hk hn (fun h' hn' hs=>?_) hcls
  obtain ⟨oL,_,_,hoL,_⟩:=id hn
  refine h _ ⟨I.ok,I.os,I.bare,⟨fun b o e n hb hx=>?_,fun b o e n hb hx=>?_,I.base.free,fun b o e hx=>?_,I.base.tups,I.base.frzs,I.base.tbls⟩,⟨_,hn',fun j y v' e1 e2 e3=>?_⟩,fun y c e=>?_,I.free,I.freeC,fun p hp=>?_,tracked ⟨oL,hoL,I.free⟩ hs,by simpa using I.len⟩ ⟨_,hs,.inl rfl⟩
  ·exact (hs.2 b (Pl (Pr (Pe e) I.ok.above))).trans (I.base.keep b o e n hb hx)
  ·obtain ⟨sl,e1⟩:=I.base.slot b o e n hb hx
   exact ⟨sl,(hs.2 b (Pl (Pr (Pe e) I.ok.above))).trans e1⟩
  ·obtain ⟨o',e1⟩:=I.base.there b o e hx
   exact ⟨o',(hs.2 b (Pl (Pr (Pe e) I.ok.above))).trans e1⟩
  ·by_cases hj:j=i
   ·subst hj
    rw [hi] at e1; cases e1
    rw [Ub hiσ] at e2
    cases e2
    exact ⟨u,r,.inl ⟨hk,by simp⟩⟩
   ·rw [Uf (Pg hj)] at e2
    obtain ⟨u',r',q⟩:=hl j y v' e1 e2 e3
    refine ⟨u',r',?_⟩
    rcases q with ⟨k,e⟩ | ⟨k,c,e,z⟩
    ·refine .inl ⟨k,?_⟩
     have:y≠x:=fun e=>hj (Zao hN e1 (e ▸ hi))
     simp [this,e]
    ·exact .inr ⟨k,c,e,z.sameBut hs (cne y c e)⟩
  ·obtain ⟨w',z⟩:=I.cell y c e
   exact ⟨w',z.sameBut hs (cne y c e)⟩
  ·obtain ⟨e,n,ne,nf,d⟩:=I.pin p hp
   exact ⟨(hs.2 p.1 ne).trans e,n,ne,nf,d⟩
 ·have hfn:X.fn x=true:=by
   rcases hf with z | z
   ·exact z
   ·rw [z] at hk; cases hk
  obtain ⟨c,hc⟩:=I.ok.has x (.inl hk)
  obtain ⟨w',z⟩:=I.cell x c hc
  refine wpAny_storeName_cell I.ok.kind hk hc z (fun h' hc' hs=>?_)
  obtain ⟨oc,hoc,hocd⟩:=id z
  refine h { s with heap:=h' } ⟨I.ok,I.os,I.bare,⟨fun b o e n hb hx=>?_,fun b o e n hb hx=>?_,I.base.free,fun b o e hx=>?_,I.base.tups,I.base.frzs,I.base.tbls⟩,⟨m,hn.sameBut hs (Pg (cne x c hc)),fun j y v' e1 e2 e3=>?_⟩,fun y c' e=>?_,I.free,I.freeC,fun p hp=>?_,tracked ⟨oc,hoc,I.freeC x c hc⟩ hs,by simpa using I.len⟩ ⟨c,hs,.inr hc⟩
  ·exact (hs.2 b (Pl (Pr (Pe e) (I.ok.cab x c hfn hc)))).trans (I.base.keep b o e n hb hx)
  ·obtain ⟨sl,e1⟩:=I.base.slot b o e n hb hx
   exact ⟨sl,(hs.2 b (Pl (Pr (Pe e) (I.ok.cab x c hfn hc)))).trans e1⟩
  ·obtain ⟨o',e1⟩:=I.base.there b o e hx
   exact ⟨o',(hs.2 b (Pl (Pr (Pe e) (I.ok.cab x c hfn hc)))).trans e1⟩
  ·by_cases hj:j=i
   ·subst hj
    rw [hi] at e1; cases e1
    rw [Ub hiσ] at e2
    cases e2
    exact ⟨u,r,.inr ⟨.inl hk,c,hc,hc'⟩⟩
   ·rw [Uf (Pg hj)] at e2
    obtain ⟨u',r',q⟩:=hl j y v' e1 e2 e3
    refine ⟨u',r',?_⟩
    rcases q with q | ⟨k,c',e,z'⟩
    ·exact .inl q
    ·refine .inr ⟨k,c',e,z'.sameBut hs ?_⟩
     rintro rfl
     exact hj (Zao hN e1 (I.ok.inj _ _ _ e hc ▸ hi))
  ·by_cases hcc:c'=c
   ·subst hcc; exact ⟨_,hc'⟩
   ·obtain ⟨w2,z2⟩:=I.cell y c' e
    exact ⟨w2,z2.sameBut hs hcc⟩
  ·obtain ⟨e,n,ne,nf,d⟩:=I.pin p hp
   refine ⟨(hs.2 p.1 ?_).trans e,n,ne,nf,d⟩
   intro q
   rw [q,hoc] at e
   have q':oc=p.2:=Qf e
   exact d w' (by rw [<- q']; exact hocd)
theorem Zbr {M:Model} {A:Around} {E:Value->Shared->Prop} {i:Nat} {x:Str} {v:V} {u:Value} {Q:Unit->Shared->Prop} (I:Inv X pins σ H s) (hN:X.N.Nodup) (hi:X.N[i]?=some x) (hx:Fi X.env.scope x) (r:RelV v u)
  (h:∀ s',Inv X pins (σ.set i (some v)) H s'->Q () s') (hf:X.fn x=true\/X.env.scope.names.lookup x=some .local:=by first | exact .inl rfl | exact .inr rfl | assumption):wpAny M A (storeName X.env x u) Q E s :=
 Zel I hN hi hx r (fun s' I' _=>h s' I') hf
theorem Inv.call' {s':Shared} {ch:List Addr} (I:Inv X pins σ H s) (ho:s'.os=s.os) (u:Un (Bg X.stack) ch H H' s.heap s'.heap) (hok:HOk X.prog X.w H' s'.heap) (hg:AllBare s'.gens)
  (hch:∀ b∈ch,(b∈X.ex\/X.s₀.heap.objs.size<=b)/\b≠X.env.locals/\(∀ x c,X.env.cells.lookup x=some c->c≠b)/\∀ p∈X.pn++pins,p.1≠b):Inv X pins σ H' s':=by
 obtain ⟨h',g',d',t',o'⟩:=s'
 have e:o'=s.os:=ho
 subst e
 exact I.call (g':=g') (t':=t') (d':=d') u hok hg hch
end
noncomputable abbrev XK:=Value->Option Addr->Hp->Prop
noncomputable abbrev St:=List (Option V)
noncomputable abbrev VK:=V->Hp->Prop
noncomputable abbrev TE:=St->Hp->VK->Prop
noncomputable abbrev TT:=St->Hp->(Bool->Hp->Prop)->Prop
noncomputable abbrev TA:=St->Hp->(List V->Hp->Prop)->Prop
structure Ends where
 nx:St->Hp->Prop
 rt:VK
 bk:St->Hp->Prop:=fun _ _=>False
 ct:St->Hp->Prop:=fun _ _=>False
noncomputable abbrev TS:=Ends->St->Hp->Prop
noncomputable def EP (X:Cx) (pins:List (Addr×Obj)) (σ:St) (Q:VK) (u:Value) (s':Shared):Prop:=∃ v H',Inv X pins σ H' s'/\RelV v u/\Q v H'
noncomputable def TP (X:Cx) (pins:List (Addr×Obj)) (σ:St) (Q:Bool->Hp->Prop) (b:Bool) (s':Shared):Prop:=∃ H',Inv X pins σ H' s'/\Q b H'
noncomputable def AP (X:Cx) (pins:List (Addr×Obj)) (σ:St) (Q:List V->Hp->Prop) (us:List Value) (s':Shared):Prop:=∃ vs H',Inv X pins σ H' s'/\Vals vs us/\Q vs H'
noncomputable def SP (X:Cx) (pins:List (Addr×Obj)) (D:Ends) (f:Flow) (s':Shared):Prop :=
 match f with
 | .next=>∃ σ' H',Inv X pins σ' H' s'/\D.nx σ' H'
 | .brk=>∃ σ' H',Inv X pins σ' H' s'/\D.bk σ' H'
 | .cont=>∃ σ' H',Inv X pins σ' H' s'/\D.ct σ' H'
 | .ret u=>∃ v σ' H',Inv X pins σ' H' s'/\RelV v u/\D.rt v H'
noncomputable def PE (X:Cx) (e:Expr) (t:TE):Prop :=
 ∀ (pins:List (Addr×Obj)) (s:Shared) (σ:St) (H:Hp) (Q:VK),Inv X pins σ H s->t σ H Q->wpAny (model X.prog X.w) X.A (eval e X.env) (EP X pins σ Q) X.xe s
noncomputable def PT (X:Cx) (e:Expr) (t:TT):Prop :=
 ∀ (pins:List (Addr×Obj)) (s:Shared) (σ:St) (H:Hp) (Q:Bool->Hp->Prop),Inv X pins σ H s->t σ H Q->wpAny (model X.prog X.w) X.A (isTrue e X.env (eval e X.env)) (TP X pins σ Q) X.xe s
noncomputable def PW (X:Cx) (e:Expr) (t:TT):Prop :=
 ∀ (whole:Sem Value) (pins:List (Addr×Obj)) (s:Shared) (σ:St) (H:Hp) (Q:Bool->Hp->Prop),Inv X pins σ H s->t σ H Q->wpAny (model X.prog X.w) X.A (isTrue e X.env whole) (TP X pins σ Q) X.xe s
theorem PW.pt {X:Cx} {e:Expr} {t:TT} (h:PW X e t):PT X e t:=h _
noncomputable def PA (X:Cx) (es:List Expr) (t:TA):Prop :=
 ∀ (pos:Pos) (pins:List (Addr×Obj)) (s:Shared) (σ:St) (H:Hp) (Q:List V->Hp->Prop),Inv X pins σ H s->t σ H Q->wpAny (model X.prog X.w) X.A (spliced (backTo pos (starEach es X.env))) (AP X pins σ Q) X.xe s
noncomputable def PS (X:Cx) (st:Stmt) (t:TS):Prop :=
 ∀ (pins:List (Addr×Obj)) (s:Shared) (σ:St) (H:Hp) (D:Ends),Inv X pins σ H s->t D σ H->wpAny (model X.prog X.w) X.A (exec st X.env) (SP X pins D) X.xe s
noncomputable def PSs (X:Cx) (st:List Stmt) (t:TS):Prop :=
 ∀ (pins:List (Addr×Obj)) (s:Shared) (σ:St) (H:Hp) (D:Ends),Inv X pins σ H s->t D σ H->wpAny (model X.prog X.w) X.A (execs st X.env) (SP X pins D) X.xe s
theorem Am {α:Type} {t:Sem α} {Q Q':α->Shared->Prop} {M:Model} {A:Around} {E:Value->Shared->Prop} {s:Shared} (h:wpAny M A t Q E s) (hQ:∀ a s,Q a s->Q' a s):wpAny M A t Q' E s:=Q9 h hQ fun _ _ x=>x
end L2
namespace L2
open PySem PySem.Spec PyProof.Rows
section
variable {X:Cx}
noncomputable def Nh (i:Nat):TE:=fun σ H Q=>∃ v,σ[i]?=some (some v)/\Q v H
noncomputable def tC (v:V):TE:=fun _ H Q=>Q v H
theorem Zsv {i:Nat} {x:Str} {pos:Pos} (hN:X.N[i]?=some x) (hv:Vis X.env.scope x) (hd:(x == ("__debug__" : Str))=false:=by decide) (hcd:(x == ("__classdict__" : Str))=false:=by decide):PE X (.Name x pos) (Nh i):=by
 intro pins s σ H Q I h
 obtain ⟨v,e,h⟩:=h
 obtain ⟨m,hn,hl⟩:=I.loc
 obtain ⟨u,r,l⟩:=hl i x v hN e hv
 have fin:EP X pins σ Q u s:=⟨v,H,I,r,h⟩
 rcases l with ⟨hk,hm⟩ | ⟨hk,c,hc,hcell⟩
 ·exact wpAny_Name (wpAny_loadName_local I.ok.kind hk hn hm fin) hd
 ·rcases hk with hk | hk
  ·exact wpAny_Name (wpAny_loadName_cell I.ok.kind hk hc hcell fin) hd
  ·exact wpAny_Name (wpAny_loadName_free I.ok.kind hk hc hcell fin hcd) hd
theorem Zhi {i j pos}:PE X (.Constant (.int i) j pos) (tC (.int i)):=fun _ _ _ H _ I h=>wpAny_Constant_int ⟨.int i,H,I.tok _,⟨_,rfl⟩,h⟩
theorem Zhp {b j pos}:PE X (.Constant (.bool b) j pos) (tC (.bl b)):=fun _ _ _ H _ I h=>Constant_bool ⟨.bl b,H,I,rfl,h⟩
theorem Zc6 {j pos}:PE X (.Constant .none j pos) (tC .non):=fun _ _ _ H _ I h=>Constant_none ⟨.non,H,I,rfl,h⟩
theorem Zd8 {x j pos}:PE X (.Constant (.str x) j pos) (tC (.str x)):=fun _ _ _ H _ I h=>Calls.Constant_str ⟨.str x,H,I.tok _,⟨_,rfl⟩,h⟩
noncomputable def Gl (X:Cx) (x:Str):Prop:=X.env.kindOf x=some .globalImplicit
theorem Hw {E:Value->Shared->Prop} {pins:List (Addr×Obj)} {s:Shared} {σ:St} {H:Hp} {x:Str} {u:Value} {pos:Pos} {Q:Value->Shared->Prop} (I:Inv X pins σ H s) (hg:Gl X x) (hm:X.mg x=some u) (h:Q u s)
  (hd:(x == ("__debug__" : Str))=false:=by decide):wpAny (model X.prog X.w) X.A (eval (.Name x pos) X.env) Q E s :=
 Calls.Name_function_global I.ok.kind hg (Calls.loadGlobal_global (by rw [I.ok.glob]; exact I.mod.glob.keeps I.bk) hm h) hd
theorem Ej {E:Value->Shared->Prop} {pins:List (Addr×Obj)} {s:Shared} {σ:St} {H:Hp} {x:Str} {u:Value} {pos:Pos} {Q:Value->Shared->Prop} (I:Inv X pins σ H s) (hg:Gl X x) (hm:X.mg x=none) (hv:bootBuiltins x=some u) (h:Q u s)
  (hn:x ≠ "__name__" := by decide) (hd:(x == ("__debug__" : Str))=false:=by decide):wpAny (model X.prog X.w) X.A (eval (.Name x pos) X.env) Q E s:=by
 obtain ⟨mb,h1,h2⟩:=I.mod.blt
 exact Calls.Name_function_global I.ok.kind hg (Calls.loadGlobal_builtin (by rw [I.ok.glob]; exact I.mod.glob.keeps I.bk) hm (by rw [I.ok.blt]; exact h1.keeps I.bk) ((h2 x hn).trans hv) h) hd
theorem Zfn {x:Str} {v:V} {u:Value} {pos:Pos} (hg:Gl X x) (hm:X.mg x=some u) (r:RelV v u) (hd:(x == ("__debug__" : Str))=false:=by decide):PE X (.Name x pos) (tC v) :=
 fun _ _ _ H _ I h=>Hw I hg hm ⟨v,H,I,r,h⟩ hd
theorem Zo0 {x:Str} {v:V} {u:Value} {pos:Pos} (hg:Gl X x) (hm:X.mg x=none) (hv:bootBuiltins x=some u) (r:RelV v u) (hn:x ≠ "__name__" := by decide) (hd:(x == ("__debug__" : Str))=false:=by decide):PE X (.Name x pos) (tC v) :=
 fun _ _ _ H _ I h=>Ej I hg hm hv ⟨v,H,I,r,h⟩ hn hd
variable {a b:Expr} {ta tb:TE} {pos:Pos}
noncomputable def PC (X:Cx) (op:CmpOp) (a b:Expr) (t:TE):Prop :=
 ∀ (pins:List (Addr×Obj)) (s:Shared) (σ:St) (H:Hp) (Q:VK),Inv X pins σ H s->t σ H Q ->
  wpAny (model X.prog X.w) X.A (eval a X.env) (fun v s₁=>wpAny (model X.prog X.w) X.A (eval b X.env) (fun u s₂=>wpAny (model X.prog X.w) X.A (compareOp op v u) (EP X pins σ Q) X.xe s₂) X.xe s₁) X.xe s
theorem Lq (b:Expr) {op:CmpOp} (h:op≠.In) (h2:op≠.NotIn):behindInMarks op b=false:=by
 have e1:(op == CmpOp.In)=false:=by cases op <;> first | rfl | exact absurd rfl h
 have e2:(op == CmpOp.NotIn)=false:=by cases op <;> first | rfl | exact absurd rfl h2
 cases b <;> simp [behindInMarks,e1,e2]
noncomputable def Zbc (ta:TE):TE:=fun σ H Q=>ta σ H fun x H1=>Q (.bl (decide (x=.non))) H1
theorem RelV.none_iff {x:V} {v:Value} (r:RelV x v):(v == Value.none)=decide (x=.non):=by
 cases x with
 | non=>cases r; rfl
 | bl _=>cases r; rfl
 | int _=>obtain ⟨t,rfl⟩:=r; rfl
 | str _=>obtain ⟨t,rfl⟩:=r; rfl
 | byt _=>obtain ⟨t,rfl⟩:=r; rfl
 | flt _=>obtain ⟨t,rfl⟩:=r; rfl
 | ref _=>cases r; rfl
 | ty _=>cases r; rfl
theorem Zrc {j pos'} (ha:PE X a ta):PC X .Is a (.Constant .none j pos') (Zbc ta):=by
 intro pins s σ H Q I h
 refine Am (ha pins s σ H _ I h) fun v s1 ⟨x,H1,I1,r1,q1⟩=>?_
 exact Constant_none (is_none_gen ⟨.bl _,H1,I1,by rw [r1.none_iff]; rfl,q1⟩)
noncomputable def tB (t:TE):TT:=fun σ H Q=>t σ H fun x H1=>∃ c,x=.bl c/\Q c H1
theorem Zk3 {op:CmpOp} {t:TE} (h:PC X op a b t) (h1:behindInMarks op b=false:=by first | exact Lq _ (by decide) (by decide) | rfl):PE X (.Compare a [op] [b] pos) t:=fun pins s σ H Q I hw=>wpAny_Compare1 (h pins s σ H Q I hw) h1
theorem Zsh {op:CmpOp} {t:TE} (h:PC X op a b t) (h1:behindInMarks op b=false:=by first | exact Lq _ (by decide) (by decide) | rfl):PT X (.Compare a [op] [b] pos) (tB t):=by
 intro pins s σ H Q I hw
 refine wpAny_isTrue_Compare1 (Am (h pins s σ H _ I hw) fun v s1 h1=>Am h1 fun u s2 h2=>Am h2 fun c s3 ⟨x,H1,I1,r1,q1⟩=>?_) h1
 obtain ⟨d,rfl,q⟩:=q1
 cases r1
 exact Rc ⟨H1,I1,q⟩
theorem Zl4 {e:Expr} {t:TE} (h:PE X e t) (he:∀ whole,isTrue e X.env whole=(do let v <- whole; standAt e.pos; holding [v] (truthy v)):=by intro _; rfl):PT X e (tB t):=by
 intro pins s σ H Q I hw
 refine isTrue_plain (Am (h pins s σ H _ I hw) fun v s1 ⟨x,H1,I1,r1,q1⟩=>?_) (he _)
 obtain ⟨d,rfl,q⟩:=q1
 cases r1
 exact Rc ⟨H1,I1,q⟩
variable {tA tB':TT} {rest:List Expr}
noncomputable def Za7 (t u:TT):TT:=fun σ H Q=>t σ H fun c H1=>if c=true then u σ H1 Q else Q false H1
noncomputable def tOr (t u:TT):TT:=fun σ H Q=>t σ H fun c H1=>if c=true then Q true H1 else u σ H1 Q
noncomputable def O2 (t:TT):TT:=fun σ H Q=>t σ H fun c H1=>Q (!c) H1
theorem pw_and1 (ha:PT X a tA):PW X (.BoolOp .And [a] pos) tA:=by
 intro wh pins s σ H Q I h
 refine isTrue_and (Am (ha pins s σ H Q I h) fun c s1 e=>?_)
 cases c with
 | true=>exact isTrue_and_nil e
 | false=>exact e
theorem pw_or1 (ha:PT X a tA):PW X (.BoolOp .Or [a] pos) tA:=by
 intro wh pins s σ H Q I h
 refine isTrue_or (Am (ha pins s σ H Q I h) fun c s1 e=>?_)
 cases c with
 | false=>exact isTrue_or_nil e
 | true=>exact e
theorem pw_and (ha:PT X a tA) (hb:PW X (.BoolOp .And (b :: rest) pos) tB'):PW X (.BoolOp .And (a :: b :: rest) pos) (Za7 tA tB'):=by
 intro wh pins s σ H Q I h
 refine isTrue_and (Am (ha pins s σ H _ I h) fun c s1 ⟨H1,I1,q1⟩=>?_)
 cases c with
 | true=>exact hb wh pins s1 σ H1 Q I1 q1
 | false=>exact ⟨H1,I1,q1⟩
theorem pw_or (ha:PT X a tA) (hb:PW X (.BoolOp .Or (b :: rest) pos) tB'):PW X (.BoolOp .Or (a :: b :: rest) pos) (tOr tA tB'):=by
 intro wh pins s σ H Q I h
 refine isTrue_or (Am (ha pins s σ H _ I h) fun c s1 ⟨H1,I1,q1⟩=>?_)
 cases c with
 | true=>exact ⟨H1,I1,q1⟩
 | false=>exact hb wh pins s1 σ H1 Q I1 q1
theorem Zss (ha:PT X a tA):PT X (.UnaryOp .Not a pos) (O2 tA):=by
 intro pins s σ H Q I h
 exact isTrue_not (ha pins s σ H (fun c H1=>Q (!c) H1) I h)
noncomputable def Zbn (ta tb:TE):TE:=fun σ H Q=>ta σ H fun x H1=>∃ c,x=.bl c/\if c=true then tb σ H1 Q else Q (.bl false) H1
noncomputable def Zbl (ta tb:TE):TE:=fun σ H Q=>ta σ H fun x H1=>∃ c,x=.bl c/\if c=true then Q (.bl true) H1 else tb σ H1 Q
noncomputable def Zau (ta:TE):TE:=fun σ H Q=>ta σ H fun x H1=>∃ c,x=.bl c/\Q (.bl (!c)) H1
theorem Zlb {op} {t:TE} (h:PE X a t):PE X (.BoolOp op [a] pos) t:=fun pins s σ H Q I hw=>BoolOp_one (h pins s σ H Q I hw)
theorem Zji (ha:PE X a ta) (hb:PE X (.BoolOp .And (b :: rest) pos) tb):PE X (.BoolOp .And (a :: b :: rest) pos) (Zbn ta tb):=by
 intro pins s σ H Q I h
 refine BoolOp_and (Am (ha pins s σ H _ I h) fun v s1 ⟨x,H1,I1,r1,q1⟩=>?_)
 obtain ⟨c,rfl,q1⟩:=q1
 cases r1
 refine Rc ?_
 cases c with
 | true=>exact hb pins s1 σ H1 Q I1 q1
 | false=>exact ⟨.bl false,H1,I1,rfl,q1⟩
theorem Zok (ha:PE X a ta) (hb:PE X (.BoolOp .Or (b :: rest) pos) tb):PE X (.BoolOp .Or (a :: b :: rest) pos) (Zbl ta tb):=by
 intro pins s σ H Q I h
 refine BoolOp_or (Am (ha pins s σ H _ I h) fun v s1 ⟨x,H1,I1,r1,q1⟩=>?_)
 obtain ⟨c,rfl,q1⟩:=q1
 cases r1
 refine Rc ?_
 cases c with
 | false=>exact hb pins s1 σ H1 Q I1 q1
 | true=>exact ⟨.bl true,H1,I1,rfl,q1⟩
theorem Zqy (ha:PE X a ta):PE X (.UnaryOp .Not a pos) (Zau ta):=by
 intro pins s σ H Q I h
 refine UnaryOp_ (Am (ha pins s σ H _ I h) fun v s1 ⟨x,H1,I1,r1,q1⟩=>?_)
 obtain ⟨c,rfl,q1⟩:=q1
 cases r1
 exact not_of (Rc ⟨.bl (!c),H1,I1,rfl,q1⟩)
noncomputable def Ip (t:TT) (ta tb:TE):TE:=fun σ H Q=>t σ H fun c H1=>if c=true then ta σ H1 Q else tb σ H1 Q
theorem Zsg {c:Expr} (hc:PT X c tA) (ha:PE X a ta) (hb:PE X b tb):PE X (.IfExp c a b pos) (Ip tA ta tb):=by
 intro pins s σ H Q I h
 refine wpAny_IfExp (Am (hc pins s σ H _ I h) fun d s1 ⟨H1,I1,q1⟩=>?_)
 cases d with
 | true=>exact ha pins s1 σ H1 Q I1 q1
 | false=>exact hb pins s1 σ H1 Q I1 q1
end
end L2
namespace L2
open PySem PySem.Spec PyProof.Rows
noncomputable def SqL (K:O7) (H:Hp) (a:Addr) (xs:List V):Prop :=
 Rd H a (.lst xs) \/
  ∃ (o:Obj) (its:Array Value) (n:Nat),K.lookup a=some o/\o.cls=.type "list" /\ o.dict=none/\o.data=.seq its n/\its.size<=sizeLine/\Vals xs its.toList
noncomputable def SqT (K:O7) (H:Hp) (a:Addr) (xs:List V):Prop :=
 Rd H a (.tup xs) \/
  ∃ (o:Obj) (its:Array Value) (n:Nat),K.lookup a=some o/\o.cls=.type "tuple" /\ o.data=.seq its n/\its.size<=sizeLine/\Vals xs its.toList
noncomputable def Lu:Value->Option V
 | .none=>some .non
 | .bool b=>some (.bl b)
 | .int i _=>some (.int i)
 | .str x _=>some (.str x)
 | .bytes b _=>some (.byt b)
 | .float b _=>some (.flt b)
 | .ref a=>some (.ref a)
 | .type n=>some (.ty n)
 | _=>none
theorem RelV.abs {x:V} {u:Value} (r:RelV x u):Lu u=some x:=by
 cases x with
 | non=>cases r; rfl
 | bl _=>cases r; rfl
 | int _=>obtain ⟨t,rfl⟩:=r; rfl
 | str _=>obtain ⟨t,rfl⟩:=r; rfl
 | byt _=>obtain ⟨t,rfl⟩:=r; rfl
 | flt _=>obtain ⟨t,rfl⟩:=r; rfl
 | ref _=>cases r; rfl
 | ty _=>cases r; rfl
theorem RelV.inj {x y:V} {u:Value} (r:RelV x u) (q:RelV y u):x=y:=Qf (r.abs.symm.trans q.abs)
theorem Vals.inj:∀ {xs ys:List V} {us:List Value},Vals xs us->Vals ys us->xs=ys
 | _,_,_,.nil,.nil=>rfl
 | _,_,_,.cons r t,.cons r' t'=>by rw [r.inj r',Vals.inj t t']
section
variable {X:Cx} {pins:List (Addr×Obj)} {σ:St} {H:Hp} {s:Shared} {a:Addr} {xs ys:List V}
theorem SqL.of {K:O7} (h:H a=some (.lst xs)):SqL K H a xs:=.inl (.inl h)
theorem SqT.of {K:O7} (h:H a=some (.tup xs)):SqT K H a xs:=.inl (.inl h)
theorem Inv.list (I:Inv X pins σ H s) (h:SqL X.K H a xs):∃ its:List Value,Vals xs its/\PlainL s.heap a its.toArray/\xs.length<=sizeLine:=by
 rcases h with h | ⟨o,its,n,hk,hc,hd,hs,hz,r⟩
 ·obtain ⟨z,its,n,r,e⟩:=h.ok I.hok
  exact ⟨its,r,⟨_,n,e,rfl,rfl,rfl⟩,z⟩
 ·refine ⟨its.toList,r,⟨o,n,I.kIn a o hk,hc,hd,by simpa using hs⟩,?_⟩
  have e:=r.length
  simp only [Uh] at e
  omega
theorem Inv.tuple (I:Inv X pins σ H s) (h:SqT X.K H a xs):∃ its:List Value,Vals xs its/\IsTup s.heap a its.toArray/\xs.length<=sizeLine:=by
 rcases h with h | ⟨o,its,n,hk,hc,hs,hz,r⟩
 ·obtain ⟨z,its,r,p⟩:=h.ok I.hok
  exact ⟨its,r,p,z⟩
 ·refine ⟨its.toList,r,⟨o,I.kIn a o hk,hc,n,by simpa using hs⟩,?_⟩
  have e:=r.length
  simp only [Uh] at e
  omega
theorem Inv.list_inj (I:Inv X pins σ H s) (h:SqL X.K H a xs) (h':SqL X.K H a ys):xs=ys:=by
 obtain ⟨its,r,⟨o,n,e,_,_,d⟩,_⟩:=I.list h
 obtain ⟨its',r',⟨o',n',e',_,_,d'⟩,_⟩:=I.list h'
 rw [e] at e'; cases e'
 rw [d] at d'
 injection d' with d1 _
 have:its=its':=by simpa using congrArg Array.toList d1
 subst this
 exact r.inj r'
theorem Inv.tuple_inj (I:Inv X pins σ H s) (h:SqT X.K H a xs) (h':SqT X.K H a ys):xs=ys:=by
 obtain ⟨its,r,⟨o,e,_,n,d⟩,_⟩:=I.tuple h
 obtain ⟨its',r',⟨o',e',_,n',d'⟩,_⟩:=I.tuple h'
 rw [e] at e'; cases e'
 rw [d] at d'
 injection d' with d1 _
 have:its=its':=by simpa using congrArg Array.toList d1
 subst this
 exact r.inj r'
end
noncomputable abbrev Cx.wish (X:Cx) (E:Value->Shared->Prop):Cx:={ X with xe:=E }
noncomputable abbrev Cx.nox (X:Cx):Cx:=X.wish fun _ _=>False
theorem Cx.Ok.wish {X:Cx} (ok:X.Ok) (E:Value->Shared->Prop):(X.wish E).Ok :=
 ⟨ok.mod,ok.kind,ok.glob,ok.blt,ok.above,ok.inj,ok.has,ok.cab,ok.hd,ok.frames,ok.stk,ok.exf,ok.bs,ok.bsz,ok.noex,ok.exfs,ok.funs,ok.frf⟩
theorem Cx.Ok.unwish {X:Cx} {E:Value->Shared->Prop} (ok:(X.wish E).Ok):X.Ok :=
 ⟨ok.mod,ok.kind,ok.glob,ok.blt,ok.above,ok.inj,ok.has,ok.cab,ok.hd,ok.frames,ok.stk,ok.exf,ok.bs,ok.bsz,ok.noex,ok.exfs,ok.funs,ok.frf⟩
section
variable {X:Cx} {pins:List (Addr×Obj)} {σ:St} {H:Hp} {s:Shared} {E:Value->Shared->Prop}
theorem Inv.wish (I:Inv X pins σ H s) (E:Value->Shared->Prop):Inv (X.wish E) pins σ H s:=⟨I.ok.wish E,I.os,I.bare,I.base,I.loc,I.cell,I.free,I.freeC,I.pin,I.hok,I.len⟩
theorem Inv.unwish (I:Inv (X.wish E) pins σ H s):Inv X pins σ H s:=⟨I.ok.unwish,I.os,I.bare,I.base,I.loc,I.cell,I.free,I.freeC,I.pin,I.hok,I.len⟩
theorem SP.unwish {D:Ends} {f:Flow} {s':Shared} (h:SP (X.wish E) pins D f s'):SP X pins D f s':=by
 cases f with
 | next=>obtain ⟨σ',H',I,q⟩:=h; exact ⟨σ',H',I.unwish,q⟩
 | brk=>obtain ⟨σ',H',I,q⟩:=h; exact ⟨σ',H',I.unwish,q⟩
 | cont=>obtain ⟨σ',H',I,q⟩:=h; exact ⟨σ',H',I.unwish,q⟩
 | ret u=>obtain ⟨v,σ',H',I,r,q⟩:=h; exact ⟨v,σ',H',I.unwish,r,q⟩
theorem PSs.nox {st:List Stmt} {t:TS} (h:PSs X.nox st t):PSs X st t:=fun pins s σ H D I hw =>
 Q9 (h pins s σ H D (I.wish _) hw) (fun _ _ q=>q.unwish) fun _ _ z=>P6 z
end
section
variable {X:Cx} {st:Stmt} {rest:List Stmt} {t u:TS} {e:Expr} {te:TE} {pos:Pos}
noncomputable def O1:TS:=fun D σ H=>D.nx σ H
noncomputable def L8 (t u:TS):TS:=fun D σ H=>t { D with nx:=u D } σ H
theorem Zkn:PSs X [] O1:=fun _ _ σ H _ I h=>Sh ⟨σ,H,I,h⟩
theorem Zsp (h1:PS X st t) (h2:PSs X rest u):PSs X (st :: rest) (L8 t u):=by
 intro pins s σ H D I h
 refine Vv (Am (h1 pins s σ H { D with nx:=u D } I h) fun f s1 q=>?_)
 cases f with
 | next =>
  obtain ⟨σ',H',I',q⟩:=q
  exact h2 pins s1 σ' H' D I' q
 | ret v=>exact q
 | brk=>exact q
 | cont=>exact q
theorem Zh1 (h1:PS X st t):PSs X [st] t:=by
 intro pins s σ H D I h
 refine Vv (Am (h1 pins s σ H D I h) fun f s1 q=>?_)
 cases f with
 | next=>exact Sh q
 | ret v=>exact q
 | brk=>exact q
 | cont=>exact q
theorem Inv.quiet {pins:List (Addr×Obj)} {σ:St} {H:Hp} {s:Shared} (I:Inv X pins σ H s):interactive X.env=false:=by simp [interactive,I.ok.kind]
noncomputable def Za9 (te:TE):TS:=fun D σ H=>te σ H fun _ H1=>D.nx σ H1
theorem Zn1 (he:PE X e te) (hs:swapsWith e none pos.line X.env=pure false:=by rfl):PS X (.Expr e pos) (Za9 te):=by
 intro pins s σ H D I h
 exact wpAny_Expr_any (Am (he pins s σ H _ I h) fun v s1 ⟨x,H1,I1,r1,q1⟩=>⟨σ,H1,I1,q1⟩) I.quiet hs
noncomputable def O0 (te:TE):TS:=fun D σ H=>te σ H D.rt
theorem Zka (he:PE X e te):PS X (.Return (some e) pos) (O0 te):=by
 intro pins s σ H D I h
 exact wpAny_Return_some (Am (he pins s σ H _ I h) fun v s1 ⟨x,H1,I1,r1,q1⟩=>⟨x,σ,H1,I1,r1,q1⟩)
noncomputable def Jg (c:TT) (t u:TS):TS:=fun D σ H=>c σ H fun b H1=>if b=true then t D σ H1 else u D σ H1
theorem Zn0 {c:Expr} {a b:List Stmt} {tc:TT} (hc:PT X c tc) (ha:PSs X a t) (hb:PSs X b u):PS X (.If c a b pos) (Jg tc t u):=by
 intro pins s σ H D I h
 refine wpAny_If (Am (hc pins s σ H _ I h) fun d s1 ⟨H1,I1,q1⟩=>?_)
 cases d with
 | true=>exact ha pins s1 σ H1 D I1 q1
 | false=>exact hb pins s1 σ H1 D I1 q1
end
noncomputable abbrev TG:=V->St->Hp->(St->Hp->Prop)->Prop
noncomputable abbrev Dy:=List V->St->Hp->(St->Hp->Prop)->Prop
noncomputable def PG (X:Cx) (target:Expr) (t:TG):Prop :=
 ∀ (pins:List (Addr×Obj)) (s:Shared) (σ:St) (H:Hp) (v:V) (u:Value) (Q:St->Hp->Prop),Inv X pins σ H s->RelV v u->t v σ H Q ->
  wpAny (model X.prog X.w) X.A (assign target X.env u) (fun _ s'=>∃ σ' H',Inv X pins σ' H' s'/\Q σ' H') X.xe s
noncomputable def PGs (X:Cx) (ts:List Expr) (t:Dy):Prop :=
 ∀ (pins:List (Addr×Obj)) (s:Shared) (σ:St) (H:Hp) (vs:List V) (us:List Value) (Q:St->Hp->Prop),Inv X pins σ H s->Vals vs us->t vs σ H Q ->
  wpAny (model X.prog X.w) X.A (assignInOrder ((assignEach ts X.env).map (·.2)) us) (fun _ s'=>∃ σ' H',Inv X pins σ' H' s'/\Q σ' H') X.xe s
section
variable {X:Cx} {pos:Pos}
noncomputable def Fz (i:Nat):TG:=fun v σ H Q=>Q (σ.set i (some v)) H
theorem Zmv {i:Nat} {x:Str} (hN:X.N.Nodup) (hi:X.N[i]?=some x) (hx:Fi X.env.scope x) (hf:X.fn x=true\/X.env.scope.names.lookup x=some .local:=by first | exact .inl rfl | exact .inr rfl | assumption):PG X (.Name x pos) (Fz i):=by
 intro pins s σ H v u Q I r h
 exact wpAny_assign_Name (Zbr I hN hi hx r (fun s' I'=>⟨_,H,I',h⟩) hf)
noncomputable def Zag:Dy:=fun vs σ H Q=>vs=[]/\Q σ H
noncomputable def Oy (t:TG) (u:Dy):Dy:=fun vs σ H Q=>∃ v r,vs=v :: r/\t v σ H fun σ' H'=>u r σ' H' Q
theorem Zp9:PGs X [] Zag:=by
 intro pins s σ H vs us Q I r h
 obtain ⟨e,h⟩:=h
 subst e
 cases r
 exact assignInOrder_nil ⟨σ,H,I,h⟩
theorem Znz {e:Expr} {es:List Expr} {t:TG} {u:Dy} (h1:PG X e t) (h2:PGs X es u)
  (hs:(assignEach (e :: es) X.env).map (·.2)=assign e X.env :: (assignEach es X.env).map (·.2):=by rfl):PGs X (e :: es) (Oy t u):=by
 intro pins s σ H vs us Q I r h
 obtain ⟨v,vr,e1,h⟩:=h
 subst e1
 cases r with
 | cons r rr =>
  rw [hs]
  refine assignInOrder_cons (Am (h1 pins s σ H _ _ _ I r h) fun _ s1 ⟨σ1,H1,I1,q1⟩=>?_)
  exact h2 pins s1 σ1 H1 _ _ Q I1 rr q1
noncomputable def Ls (K:O7) (n:Nat) (t:Dy):TG:=fun v σ H Q=>∃ a xs,v=.ref a/\SqT K H a xs/\xs.length=n/\t xs σ H Q
theorem Znu {es:List Expr} {k:Nat} {t:Dy} {n:Nat} (hc:X.calm=true) (h:PGs X es t)
  (hn:(assignEach es X.env).length=n:=by rfl) (hst:(assignEach es X.env).findIdx? (·.1)=none:=by rfl):PG X (.Tuple es k pos) (Ls X.K n t):=by
 intro pins s σ H v u Q I r hw
 obtain ⟨a,xs,e1,hq,hl,hw⟩:=hw
 subst e1
 cases r
 obtain ⟨its,rv,ht,hz⟩:=I.tuple hq
 refine assign_Tuple_tuple (I.ok.hd hc) ht (by simp [hn,<- hl,rv.length]) hst fun h' hx=>?_
 have I1:Inv X pins σ H { s with heap:=h' }:=I.kept (t':=s.toks) fun b o e=>hx b o (Pl (Pe e)) e
 exact h pins _ σ H xs _ Q I1 (by simpa using rv) hw
noncomputable def Gc (te:TE) (g:TG):TS:=fun D σ H=>te σ H fun x H1=>g x σ H1 D.nx
theorem Zp4 {tg e:Expr} {te:TE} {g:TG} (he:PE X e te) (hg:PG X tg g) (hs:swapsWithSole [tg] e pos.line X.env=pure false:=by rfl) (hw:swappedStores [tg] e X.env=pure none:=by rfl)
  (h1:(assignEach [tg] X.env).map (·.2)=[assign tg X.env]:=by rfl):PS X (.Assign [tg] e pos) (Gc te g):=by
 intro pins s σ H D I h
 refine wpAny_Assign_stores (Am (he pins s σ H _ I h) fun v s1 ⟨x,H1,I1,r1,q1⟩=>?_) hs hw
 rw [h1]
 exact Am (hg pins s1 σ H1 x v _ I1 r1 q1) fun _ s2 q=>q
theorem Zqo {i:Nat} {x:Str} {e:Expr} {te:TE} {pos':Pos} (hN:X.N.Nodup) (hi:X.N[i]?=some x) (hx:Fi X.env.scope x) (he:PE X e te) (hs:swapsWith e (some (.Name x pos')) pos.line X.env=pure false:=by rfl) (hf:X.fn x=true\/X.env.scope.names.lookup x=some .local:=by first | exact .inl rfl | exact .inr rfl | assumption) :
  PS X (.Assign [.Name x pos'] e pos) (Gc te (Fz i)):=by
 intro pins s σ H D I h
 refine wpAny_Assign_Name (Am (he pins s σ H _ I h) fun v s1 ⟨y,H1,I1,r1,q1⟩=>?_) hs
 exact Zbr I1 hN hi hx r1 (fun s2 I2=>⟨_,H1,I2,q1⟩) hf
end
section
variable {X:Cx} {pos:Pos}
noncomputable def Zci (c:TT) (tb:TS):TS:=fun D σ H=>∃ W:Nat->St->Hp->Prop,(∃ m,W m σ H)/\∀ m σ H,W m σ H ->
 c σ H fun b H1=>if b=true then ∃ N:St->Hp->Prop,(∀ σ' H',N σ' H'->∃ m',m' < m/\W m' σ' H')/\tb { D with nx:=N,ct:=N,bk:=D.nx } σ H1 else D.nx σ H1
theorem Zrk {c:Expr} {body:List Stmt} {tc:TT} {tb:TS} (hp:PassesOwn (model X.prog X.w) X.A X.env X.xe) (hc:PT X c tc) (hb:PSs X body tb):PS X (.While c body [] pos) (Zci tc tb):=by
 intro pins s σ H D I h
 obtain ⟨W,⟨m0,w0⟩,turn⟩:=h
 refine wpAny_While (codeAny_whileLoop (fun n s'=>∃ σ' H',Inv X pins σ' H' s'/\W n σ' H') ?_ m0 ⟨σ,H,I,w0⟩)
 rintro n s1 ⟨σ1,H1,I1,w1⟩
 refine R4 hp (Am (hc pins s1 σ1 H1 _ I1 (turn n σ1 H1 w1)) fun b s2 ⟨H2,I2,q2⟩=>?_)
 cases b with
 | true =>
  obtain ⟨N,hN,q2⟩:=q2
  rw [if_pos rfl]
  refine R4 hp (Am (hb pins s2 σ1 H2 _ I2 q2) fun f s3 q3=>?_)
  cases f with
  | next =>
   obtain ⟨σ3,H3,I3,n3⟩:=q3
   obtain ⟨m',hm,w3⟩:=hN σ3 H3 n3
   exact ⟨m',hm,σ3,H3,I3,w3⟩
  | cont =>
   obtain ⟨σ3,H3,I3,n3⟩:=q3
   obtain ⟨m',hm,w3⟩:=hN σ3 H3 n3
   exact ⟨m',hm,σ3,H3,I3,w3⟩
  | brk=>exact q3
  | ret v=>exact q3
 | false =>
  rw [if_neg Pk]
  exact Sh ⟨σ1,H2,I2,q2⟩
end
structure It where
 go:Nat->Hp->Prop
 yld:Nat->Hp->V->Hp->Prop
 stop:Nat->Hp->Prop
noncomputable def FpOk (X:Cx) (pins:List (Addr×Obj)) (H:Hp) (b:Addr):Prop :=
 H b=none/\b≠X.env.locals/\b ∉ X.fs/\(b∈X.ex\/X.s₀.heap.objs.size<=b)/\(∀ x c,X.env.cells.lookup x=some c->c≠b)/\∀ p∈X.pn++pins,p.1≠b
theorem Inv.fpOk {X:Cx} {pins:List (Addr×Obj)} {σ:St} {H H':Hp} {s:Shared} {b:Addr} (I:Inv X pins σ H s) (hb:s.heap.objs.size<=b) (hn:H' b=none):FpOk X pins H' b:=by
 refine ⟨hn,Qk (Pr I.lt hb),I.nofs hb,.inr (P3 I.sz hb),fun x c e z=>?_,fun p hp z=>?_⟩
 ·obtain ⟨v,q⟩:=I.cell x c e
  exact absurd (Pr q.lt (by rw [z]; exact hb)) (Qp _)
 ·exact absurd (Pr (Pe (I.pin p hp).1) (by rw [z]; exact hb)) (Qp _)
structure Fu (P:Program) (w:World) (K:O7) (tg:Expr) (J:It) (fp:List Addr) (it:Addr) (tn:Nat->Heap->Prop):Prop where
 mem:it∈fp
 obj:∀ i h,tn i h->∀ b∈fp,∃ o,h.get? b=some o/\∀ v,o.data≠.cell v
 keep:∀ i h h',tn i h->(∀ b∈fp,∀ o,h.get? b=some o->h'.get? b=some o)->tn i h'
 item:∀ (X:Cx),X.prog=P->X.w=w->X.K=K->X.calm=true->∀ (i:Nat) (pins:List (Addr×Obj)) (s:Shared) (σ:St) (H:Hp) (E:Value->Shared->Prop),Inv X pins σ H s->(∀ b∈fp,FpOk X pins H b)->tn i s.heap->J.go i H ->
  wpAny (model P w) X.A (pyNext (.ref it)) (fun r s1=>∃ u,r=some u /\
   wpAny (model P w) X.A (letOwnedTupleGo tg (.ref it) u) (fun _ s2=>∃ x H',Inv X pins σ H' s2/\RelV x u/\J.yld i H x H'/\tn (i + 1) s2.heap/\∀ b∈fp,H' b=none) E s1) E s
 done:∀ (X:Cx),X.prog=P->X.w=w->X.K=K->X.calm=true->∀ (i:Nat) (pins:List (Addr×Obj)) (s:Shared) (σ:St) (H:Hp) (E:Value->Shared->Prop),Inv X pins σ H s->(∀ b∈fp,FpOk X pins H b)->tn i s.heap->J.stop i H ->
  wpAny (model P w) X.A (pyNext (.ref it)) (fun r s1=>r=none/\Inv X pins σ H s1) E s
 self:∀ (A:Around) (i:Nat) (s:Shared) (Q:Value->Shared->Prop) (E:Value->Shared->Prop),tn i s.heap->Q (.ref it) s->wpAny (model P w) A (pyIter (.ref it)) Q E s
noncomputable abbrev TI:=St->Hp->(It->Hp->Prop)->Prop
noncomputable def PIE (X:Cx) (pins:List (Addr×Obj)) (σ:St) (tg:Expr) (R:It->Hp->Prop) (itv:Value) (s2:Shared):Prop :=
 ∃ (it:Addr) (fp:List Addr) (tn:Nat->Heap->Prop) (J:It) (H':Hp),itv=.ref it/\Inv X pins σ H' s2/\Fu X.prog X.w X.K tg J fp it tn/\tn 0 s2.heap/\(∀ b∈fp,FpOk X pins H' b)/\R J H'
noncomputable def PI (X:Cx) (tg iter:Expr) (wi:TI):Prop :=
 ∀ (pins:List (Addr×Obj)) (s:Shared) (σ:St) (H:Hp) (R:It->Hp->Prop),Inv X pins σ H s->wi σ H R ->
  wpAny (model X.prog X.w) X.A (eval iter X.env) (fun v s1=>wpAny (model X.prog X.w) X.A (pyIter v) (PIE X pins σ tg R) X.xe s1) X.xe s
theorem Hq {M:Model} {A:Around} {E:Value->Shared->Prop} {s:Shared} {tg:Expr} {it:Addr} {u:Value} {o:Obj} {n:String} {vs:Array Value} {Q:Unit->Shared->Prop} (ho:s.heap.get? it=some o) (hc:o.cls=.type n) (hd:o.data=.fields vs)
  (hn:["enumerate", "zip", "dict_itemiterator", "dict_reverseitemiterator", "odict_iterator", "itertools.zip_longest", "itertools.pairwise"].contains n=false) (hQ:Q () s):wpAny M A (letOwnedTupleGo tg (.ref it) u) Q E s:=by
 unfold letOwnedTupleGo
 cases tg <;> first
  | exact O9 hQ
  | (cases u <;> first
    | exact O9 hQ
    | (refine O8 (wpAny_load ho ?_)
       rw [hc,hd]
       show wpAny M A (if (["enumerate", "zip", "dict_itemiterator", "dict_reverseitemiterator", "odict_iterator", "itertools.zip_longest", "itertools.pairwise"].contains n && vs[0]? == some (rawInt _))=true then _ else _) Q E s
       rw [if_neg (by intro h; rw [hn,Bool.false_and] at h; cases h)]
       exact O9 hQ))
noncomputable def Gg (K:O7) (a:Addr):It :=
 ⟨fun i H=>∃ xs x,SqL K H a xs/\xs[i]?=some x,fun i H x H'=>H'=H/\∀ xs,SqL K H a xs->xs[i]?=some x,fun i H=>∃ xs,SqL K H a xs/\xs.length<=i⟩
noncomputable def Gj (K:O7) (a:Addr):It :=
 ⟨fun i H=>∃ xs x,SqT K H a xs/\xs[i]?=some x,fun i H x H'=>H'=H/\∀ xs,SqT K H a xs->xs[i]?=some x,fun i H=>∃ xs,SqT K H a xs/\xs.length<=i⟩
noncomputable def Fm (lo:Int) (n:Nat):It:=⟨fun i _=>i < n,fun i H x H'=>H'=H/\x=.int (lo + i),fun i _=>n<=i⟩
theorem Zmj {P:Program} {w:World} {K:O7} {tg:Expr} (a it:Addr):Fu P w K tg (Gg K a) [it] it (fun i h=>h.IsListIter it a i) where
 mem:=by simp
 obj:=fun i h st b hb=>by
  have e:b=it:=by simpa using hb
  subst e
  obtain ⟨o,e,c,d⟩:=st
  exact ⟨o,e,fun v z=>by rw [d] at z; cases z⟩
 keep:=fun i h h' st k=>st.at fun o e=>k it (by simp) o e
 item:=by
  intro X hP hw hK hc i pins s σ H E I hf st hg
  subst hP hw hK
  obtain ⟨xs,x,hq,hx⟩:=hg
  obtain ⟨its,rv,p,hz⟩:=I.list hq
  obtain ⟨u,hu,ru⟩:=rv.get hx
  obtain ⟨f0,f1,f2,f3,f4,f5⟩:=hf it (by simp)
  refine wpAny_pyNext_list_item st p.isList (x:=u) (by simpa using hu) fun h' st' sb=>?_
  have I1:Inv X pins σ H { s with heap:=h' }:=I.turned (t':=s.toks) (fun b o hb e=>(sb.2 b hb).trans e) f0 f1 f3 f4 f5
  obtain ⟨o,e,c,d⟩:=id st'
  exact ⟨u,rfl,Hq (s:={ s with heap:=h' }) e c d (by decide) ⟨x,H,I1,ru,⟨rfl,fun ys hy=>by rw [I.list_inj hy hq]; exact hx⟩,st',fun b hb=>(hf b hb).1⟩⟩
 done:=by
  intro X hP hw hK hc i pins s σ H E I hf st hg
  subst hP hw hK
  obtain ⟨xs,hq,hx⟩:=hg
  obtain ⟨its,rv,p,hz⟩:=I.list hq
  obtain ⟨f0,f1,f2,f3,f4,f5⟩:=hf it (by simp)
  have hl:=rv.length
  exact wpAny_pyNext_list_end (I.ok.hd hc) st p.isList (by simp; omega) fun h' eb=>⟨rfl,I.turned (t':=s.toks) (fun b o hb e=>eb b o hb e) f0 f1 f3 f4 f5⟩
 self:=fun _ _ _ _ _ st h=>wpAny_pyIter_listiter st h
theorem Zoq {P:Program} {w:World} {K:O7} {tg:Expr} (a it:Addr):Fu P w K tg (Gj K a) [it] it (fun i h=>h.IsTupleIter it a i) where
 mem:=by simp
 obj:=fun i h st b hb=>by
  have e:b=it:=by simpa using hb
  subst e
  obtain ⟨o,e,c,d⟩:=st
  exact ⟨o,e,fun v z=>by rw [d] at z; cases z⟩
 keep:=fun i h h' st k=>st.at fun o e=>k it (by simp) o e
 item:=by
  intro X hP hw hK hc i pins s σ H E I hf st hg
  subst hP hw hK
  obtain ⟨xs,x,hq,hx⟩:=hg
  obtain ⟨its,rv,p,hz⟩:=I.tuple hq
  obtain ⟨u,hu,ru⟩:=rv.get hx
  obtain ⟨f0,f1,f2,f3,f4,f5⟩:=hf it (by simp)
  refine wpAny_pyNext_tuple_item st (show s.heap.IsTuple a its.toArray from p) (x:=u) (by simpa using hu) fun h' st' sb=>?_
  have I1:Inv X pins σ H { s with heap:=h' }:=I.turned (t':=s.toks) (fun b o hb e=>(sb.2 b hb).trans e) f0 f1 f3 f4 f5
  obtain ⟨o,e,c,d⟩:=id st'
  exact ⟨u,rfl,Hq (s:={ s with heap:=h' }) e c d (by decide) ⟨x,H,I1,ru,⟨rfl,fun ys hy=>by rw [I.tuple_inj hy hq]; exact hx⟩,st',fun b hb=>(hf b hb).1⟩⟩
 done:=by
  intro X hP hw hK hc i pins s σ H E I hf st hg
  subst hP hw hK
  obtain ⟨xs,hq,hx⟩:=hg
  obtain ⟨its,rv,p,hz⟩:=I.tuple hq
  obtain ⟨f0,f1,f2,f3,f4,f5⟩:=hf it (by simp)
  have hl:=rv.length
  exact wpAny_pyNext_tuple_end (I.ok.hd hc) st (show s.heap.IsTuple a its.toArray from p) (by simp; omega) fun h' eb=>⟨rfl,I.turned (t':=s.toks) (fun b o hb e=>eb b o hb e) f0 f1 f3 f4 f5⟩
 self:=fun _ _ _ _ _ st h=>wpAny_pyIter_tupleiter st h
theorem Zh2 {P:Program} {w:World} {K:O7} {tg:Expr} (it:Addr) (lo:Int) (n:Nat):Fu P w K tg (Fm lo n) [it] it (fun i h=>IsRangeIter h it (lo + (i:Nat) * 1) ((n:Int) - (i:Nat)) 1) where
 mem:=by simp
 obj:=fun i h st b hb=>by
  have e:b=it:=by simpa using hb
  subst e
  exact ⟨_,st,fun v z=>by
   have z':Data.fields _=Data.cell v:=z
   cases z'⟩
 keep:=fun i h h' st k=>k it (by simp) _ st
 item:=by
  intro X hP hw hK hc i pins s σ H E I hf st hg
  subst hP hw hK
  obtain ⟨f0,f1,f2,f3,f4,f5⟩:=hf it (by simp)
  have W:=Walks.range (prog:=X.prog) (w:=X.w) (I.ok.hd hc) it lo 1 n
  refine W.item i s _ _ hg st fun v h' tk hv st' kk=>?_
  obtain ⟨t,rfl⟩:=hv
  have I1:Inv X pins σ H { s with heap:=h',toks:=tk }:=I.turned (fun b o hb e=>kk b o (by simpa using hb) e) f0 f1 f3 f4 f5
  refine ⟨_,rfl,Hq (s:={ s with heap:=h',toks:=tk }) (n := "range_iterator") st' rfl rfl (by decide) ⟨.int (lo + i),H,I1,⟨t,?_⟩,⟨rfl,rfl⟩,st',fun b hb=>(hf b hb).1⟩⟩
  rw [Int.mul_one]
 done:=by
  intro X hP hw hK hc i pins s σ H E I hf st hg
  subst hP hw hK
  obtain ⟨f0,f1,f2,f3,f4,f5⟩:=hf it (by simp)
  exact wpAny_pyNext_range_end (I.ok.hd hc) st (by have:n<=i:=hg; omega) fun h' eb=>⟨rfl,I.turned (t':=s.toks) (fun b o hb e=>eb b o hb e) f0 f1 f3 f4 f5⟩
 self:=fun _ _ _ _ _ st h=>wpAny_pyIter_rangeiter st h
end L2
namespace L2
open PySem PySem.Spec PyProof.Rows
section
variable {X:Cx} {tg:Expr}
theorem Zgk {pins:List (Addr×Obj)} {σ:St} {H:Hp} {s:Shared} {R:It->Hp->Prop} {E:Value->Shared->Prop} {lo hi:Int} {t u v:Tok} {tk:Nat} (I:Inv X pins σ H s) (h1:-(2 ^ 62)<=lo) (h2:lo < 2 ^ 62) (h3:-(2 ^ 62)<=hi) (h4:hi < 2 ^ 62)
  (q:R (Fm lo (hi - lo).toNat) H):wpAny (model X.prog X.w) X.A (pyIter (.ref s.heap.objs.size)) (PIE X pins σ tg R) E { s with heap:=s.heap.push { cls:=.type "range",data:=.fields #[.int lo t,.int hi u,.int 1 v] },toks:=tk }:=by
 refine wpAny_pyIter_range (IsRange.new ..) (small_one h1 h2 h3 h4) ?_
 have I1:Inv X pins σ H { s with heap:=s.heap.push { cls:=.type "range",data:=.fields #[.int lo t,.int hi u,.int 1 v] },toks:=tk }:=I.kept fun b o e=>Pd _ e
 refine ⟨(s.heap.push { cls:=.type "range",data:=.fields #[.int lo t,.int hi u,.int 1 v] }).objs.size,[(s.heap.push { cls:=.type "range",data:=.fields #[.int lo t,.int hi u,.int 1 v] }).objs.size],_,_,H,rfl,
  I1.kept (t':=tk) fun b o e=>Pd _ e,Zh2 _ lo (hi - lo).toNat,?_,fun b hb=>?_,q⟩
 ·have e1:lo + ((0:Nat):Int) * 1=lo:=by simp
  have e2:(((hi - lo).toNat:Nat):Int) - ((0:Nat):Int)=T7 lo hi 1:=by rw [rangeSize_one]; split <;> omega
  show IsRangeIter _ _ (lo + ((0:Nat):Int) * 1) ((((hi - lo).toNat:Nat):Int) - ((0:Nat):Int)) 1
  rw [e1,e2]
  exact Pp _ rfl
 ·have e:b=(s.heap.push { cls:=.type "range",data:=.fields #[.int lo t,.int hi u,.int 1 v] }).objs.size:=by simpa using hb
  subst e
  exact I1.fpOk (Pa _) (I1.hok.fresh (Pa _))
noncomputable def Nn (ta:TA):TI:=fun σ H R=>ta σ H fun vs H1=>∃ j:Int,vs=[.int j]/\-(2 ^ 62)<=j/\j < 2 ^ 62/\R (Fm 0 j.toNat) H1
noncomputable def Zay (ta:TA):TI:=fun σ H R=>ta σ H fun vs H1=>∃ i j:Int,vs=[.int i,.int j]/\(-(2 ^ 62)<=i/\i < 2 ^ 62/\-(2 ^ 62)<=j/\j < 2 ^ 62)/\R (Fm i (j - i).toNat) H1
theorem Zs7 {a:Expr} {ta:TA} {p pos:Pos} (hg:Gl X "range") (hm:X.mg "range" = none) (ha:PA X [a] ta) (hs:starEach [a] X.env=[(false,eval a X.env)]:=by rfl):PI X tg (.Call (.Name "range" p) [a] [] pos) (Nn ta):=by
 intro pins s σ H R I h
 refine Call_ (Ej I hg hm boot_range (Ra (Am (ha pos pins s σ H _ I h) fun us s1 ⟨vs,H1,I1,r1,q1⟩=>?_) hs rfl))
 obtain ⟨j,e,q1,q2,q⟩:=q1
 subst e
 cases r1 with
 | cons r rr =>
  cases rr
  obtain ⟨t,rfl⟩:=r
  exact call_range_1 (Zgk I1 (by omega) (by omega) q1 q2 (by simpa using q))
theorem Zjm {a b:Expr} {ta:TA} {p pos:Pos} (hg:Gl X "range") (hm:X.mg "range" = none) (ha:PA X [a,b] ta) (hs:starEach [a,b] X.env=[(false,eval a X.env),(false,eval b X.env)]:=by rfl) (hs2:starEach [b] X.env=[(false,eval b X.env)]:=by rfl) :
  PI X tg (.Call (.Name "range" p) [a,b] [] pos) (Zay ta):=by
 intro pins s σ H R I h
 refine Call_ (Ej I hg hm boot_range (Ra (Am (ha pos pins s σ H _ I h) fun us s1 ⟨vs,H1,I1,r1,q1⟩=>?_) (by rw [hs,hs2]) (by rw [hs2]; rfl)))
 obtain ⟨i,j,e,⟨q1,q2,q3,q4⟩,q⟩:=q1
 subst e
 cases r1 with
 | cons r rr =>
  cases rr with
  | cons r' rr =>
   cases rr
   obtain ⟨t,rfl⟩:=r
   obtain ⟨t',rfl⟩:=r'
   exact call_range_2 (Zgk I1 q1 q2 q3 q4 q)
noncomputable def Zam (wi:TI) (g:TG) (tb:TS):TS:=fun D σ H=>wi σ H fun J H1=>∃ W:Nat->Nat->St->Hp->Prop,(∃ m,W 0 m σ H1)/\∀ i m σ H,W i m σ H ->
 (J.stop i H/\D.nx σ H)\/(J.go i H/\∃ N:St->Hp->Prop,(∀ σ' H',N σ' H'->∃ m',m' < m/\W (i + 1) m' σ' H')/\∀ x H',J.yld i H x H'->g x σ H' fun σ2 H2=>tb { D with nx:=N,ct:=N,bk:=D.nx } σ2 H2)
noncomputable def Kj (fp:List Addr) (h:Heap):List (Addr×Obj):=fp.filterMap fun b=>(h.get? b).map fun o=>(b,o)
theorem Mu {fp:List Addr} {h:Heap} {b:Addr} {o:Obj} (hb:b∈fp) (e:h.get? b=some o):(b,o)∈Kj fp h:=List.mem_filterMap.mpr ⟨b,hb,by rw [e]; rfl⟩
theorem Zid {fp:List Addr} {h:Heap} {p:Addr×Obj} (hp:p∈Kj fp h):p.1∈fp/\h.get? p.1=some p.2:=by
 obtain ⟨b,hb,e⟩:=List.mem_filterMap.mp hp
 cases q:h.get? b with
 | none=>rw [q] at e; cases e
 | some o =>
  rw [q] at e
  have e':(b,o)=p:=Qf e
  subst e'
  exact ⟨hb,q⟩
theorem Inv.pinned {pins:List (Addr×Obj)} {σ:St} {H:Hp} {s:Shared} {fp:List Addr} (I:Inv X pins σ H s) (hf:∀ b∈fp,FpOk X pins H b) (ho:∀ b∈fp,∃ o,s.heap.get? b=some o/\∀ v,o.data≠.cell v):Inv X (pins++Kj fp s.heap) σ H s :=
 I.pins_of fun p hp=>(Qu.mp hp).elim (fun z=>I.pin p (Q2 _ z)) fun z=>by
  obtain ⟨hb,e⟩:=Zid z
  obtain ⟨f0,f1,f2,_⟩:=hf p.1 hb
  obtain ⟨o,e',d⟩:=ho p.1 hb
  rw [e] at e'; cases e'
  exact ⟨e,f0,f1,f2,d⟩
theorem Inv.unpinned {pins pl:List (Addr×Obj)} {σ:St} {H:Hp} {s:Shared} (I:Inv X (pins++pl) σ H s):Inv X pins σ H s:=I.pins_of fun p hp=>I.pin p (Q2 _ (List.mem_append_left _ hp))
theorem Zjo {iter:Expr} {body:List Stmt} {wi:TI} {g:TG} {tb:TS} {pos:Pos} (hp:PassesOwn (model X.prog X.w) X.A X.env X.xe) (hc:X.calm=true) (hi:PI X tg iter wi) (hg:PG X tg g) (hb:PSs X body tb)
  (hs:∀ x,foldedSetIterable iter X.env x=pure x:=by intro _; rfl):PS X (.For tg iter body [] pos) (Zam wi g tb):=by
 intro pins s σ H D I h
 refine wpAny_For (Am (hi pins s σ H _ I h) fun v s1 h1=>Am h1 fun itv s2 h2=>?_) hs
 obtain ⟨it,fp,tn,J,H2,e,I2,T,st2,f2,W,⟨m0,w0⟩,turn⟩:=h2
 subst e
 have stat:∀ {H':Hp},(∀ b∈fp,H' b=none)->∀ b∈fp,FpOk X pins H' b:=fun hn b hb=>⟨hn b hb,(f2 b hb).2⟩
 refine codeAny_forLoop_any (fun n s'=>∃ i σ' H',Inv X pins σ' H' s'/\tn i s'.heap/\(∀ b∈fp,H' b=none)/\W i n σ' H') ?_ m0 ⟨0,σ,H2,I2,st2,fun b hb=>(f2 b hb).1,w0⟩
 rintro n s3 ⟨i,σ3,H3,I3,st3,fr3,w3⟩
 rcases turn i n σ3 H3 w3 with ⟨stop,qn⟩ | ⟨go,N,hN,step⟩
 ·refine R4 hp (Am (T.done X rfl rfl rfl hc i pins s3 σ3 H3 X.xe I3 (stat fr3) st3 stop) fun r s4 ⟨hr,I4⟩=>?_)
  subst hr
  exact Sh ⟨σ3,H3,I4,qn⟩
 ·refine R4 hp (Am (T.item X rfl rfl rfl hc i pins s3 σ3 H3 X.xe I3 (stat fr3) st3 go) fun r s4 ⟨u,hr,h4⟩=>?_)
  subst hr
  refine R4 hp (Am h4 fun _ s5 ⟨x,H5,I5,r5,y5,st5,fr5⟩=>?_)
  have I5':=I5.pinned (stat fr5) (T.obj _ _ st5)
  refine R4 hp (Am (hg _ s5 σ3 H5 x u _ I5' r5 (step x H5 y5)) fun _ s6 ⟨σ6,H6,I6,q6⟩=>?_)
  refine R4 hp (Am (hb _ s6 σ6 H6 _ I6 q6) fun f s7 q7=>?_)
  have again:∀ {σ7:St} {H7:Hp},Inv X (pins++Kj fp s5.heap) σ7 H7 s7->N σ7 H7->∃ m,m < n/\∃ i σ' H',Inv X pins σ' H' s7/\tn i s7.heap/\(∀ b∈fp,H' b=none)/\W i m σ' H':=fun {σ7 H7} I7 n7=>by
   obtain ⟨m',hm,w7⟩:=hN σ7 H7 n7
   refine ⟨m',hm,i + 1,σ7,H7,I7.unpinned,T.keep _ _ _ st5 fun b hb o e=>(I7.pin (b,o) (Q2 _ (Q2 _ (Mu hb e)))).1,fun b hb=>?_,w7⟩
   obtain ⟨o,e,d⟩:=T.obj _ _ st5 b hb
   exact (I7.pin (b,o) (Q2 _ (Q2 _ (Mu hb e)))).2.1
  cases f with
  | next=>obtain ⟨σ7,H7,I7,n7⟩:=q7; exact again I7 n7
  | cont=>obtain ⟨σ7,H7,I7,n7⟩:=q7; exact again I7 n7
  | brk=>obtain ⟨σ7,H7,I7,q7⟩:=q7; exact ⟨σ7,H7,I7.unpinned,q7⟩
  | ret v=>obtain ⟨x7,σ7,H7,I7,r7,q7⟩:=q7; exact ⟨x7,σ7,H7,I7.unpinned,r7,q7⟩
end
theorem Zi9 {K:O7} {a:Addr} {xs:List V} {g:TG} {tb:TS} {D:Ends} {σ:St} {H:Hp} (Pv:Nat->St->Hp->Prop) (h0:Pv 0 σ H) (hl:∀ i σ H,i<=xs.length->Pv i σ H->SqL K H a xs)
  (hs:∀ i x σ H,xs[i]?=some x->Pv i σ H->g x σ H fun σ2 H2=>tb { D with nx:=Pv (i + 1),ct:=Pv (i + 1),bk:=D.nx } σ2 H2) (hd:∀ σ H,Pv xs.length σ H->D.nx σ H) :
  ∃ W:Nat->Nat->St->Hp->Prop,(∃ m,W 0 m σ H)/\∀ i m σ H,W i m σ H ->
   ((Gg K a).stop i H/\D.nx σ H)\/((Gg K a).go i H/\∃ N:St->Hp->Prop,(∀ σ' H',N σ' H'->∃ m',m' < m/\W (i + 1) m' σ' H')/\∀ x H',(Gg K a).yld i H x H'->g x σ H' fun σ2 H2=>tb { D with nx:=N,ct:=N,bk:=D.nx } σ2 H2):=by
 refine ⟨fun i m σ H=>m=xs.length - i/\i<=xs.length/\Pv i σ H,⟨xs.length,by simp,Pu _,h0⟩,?_⟩
 rintro i m σ H ⟨rfl,hi,p⟩
 have q:=hl i σ H hi p
 by_cases hlt:i < xs.length
 ·refine .inr ⟨⟨xs,xs[i],q,by simp [hlt]⟩,Pv (i + 1),fun σ' H' p'=>⟨xs.length - (i + 1),by omega,rfl,hlt,p'⟩,fun x H' y=>?_⟩
  obtain ⟨e,y⟩:=y
  subst e
  exact hs i x σ _ (y xs q) p
 ·have e:i=xs.length:=by omega
  subst e
  exact .inl ⟨⟨xs,q,Pa _⟩,hd σ H p⟩
theorem Zkg {K:O7} {a:Addr} {xs:List V} {g:TG} {tb:TS} {D:Ends} {σ:St} {H:Hp} (Pv:Nat->St->Hp->Prop) (h0:Pv 0 σ H) (hl:∀ i σ H,i<=xs.length->Pv i σ H->SqT K H a xs)
  (hs:∀ i x σ H,xs[i]?=some x->Pv i σ H->g x σ H fun σ2 H2=>tb { D with nx:=Pv (i + 1),ct:=Pv (i + 1),bk:=D.nx } σ2 H2) (hd:∀ σ H,Pv xs.length σ H->D.nx σ H) :
  ∃ W:Nat->Nat->St->Hp->Prop,(∃ m,W 0 m σ H)/\∀ i m σ H,W i m σ H ->
   ((Gj K a).stop i H/\D.nx σ H)\/((Gj K a).go i H/\∃ N:St->Hp->Prop,(∀ σ' H',N σ' H'->∃ m',m' < m/\W (i + 1) m' σ' H')/\∀ x H',(Gj K a).yld i H x H'->g x σ H' fun σ2 H2=>tb { D with nx:=N,ct:=N,bk:=D.nx } σ2 H2):=by
 refine ⟨fun i m σ H=>m=xs.length - i/\i<=xs.length/\Pv i σ H,⟨xs.length,by simp,Pu _,h0⟩,?_⟩
 rintro i m σ H ⟨rfl,hi,p⟩
 have q:=hl i σ H hi p
 by_cases hlt:i < xs.length
 ·refine .inr ⟨⟨xs,xs[i],q,by simp [hlt]⟩,Pv (i + 1),fun σ' H' p'=>⟨xs.length - (i + 1),by omega,rfl,hlt,p'⟩,fun x H' y=>?_⟩
  obtain ⟨e,y⟩:=y
  subst e
  exact hs i x σ _ (y xs q) p
 ·have e:i=xs.length:=by omega
  subst e
  exact .inl ⟨⟨xs,q,Pa _⟩,hd σ H p⟩
theorem F8 {lo:Int} {n:Nat} {g:TG} {tb:TS} {D:Ends} {σ:St} {H:Hp} (Pv:Nat->St->Hp->Prop) (h0:Pv 0 σ H)
  (hs:∀ i σ H,i < n->Pv i σ H->g (.int (lo + i)) σ H fun σ2 H2=>tb { D with nx:=Pv (i + 1),ct:=Pv (i + 1),bk:=D.nx } σ2 H2) (hd:∀ σ H,Pv n σ H->D.nx σ H) :
  ∃ W:Nat->Nat->St->Hp->Prop,(∃ m,W 0 m σ H)/\∀ i m σ H,W i m σ H ->
   ((Fm lo n).stop i H/\D.nx σ H)\/((Fm lo n).go i H/\∃ N:St->Hp->Prop,(∀ σ' H',N σ' H'->∃ m',m' < m/\W (i + 1) m' σ' H')/\∀ x H',(Fm lo n).yld i H x H'->g x σ H' fun σ2 H2=>tb { D with nx:=N,ct:=N,bk:=D.nx } σ2 H2):=by
 refine ⟨fun i m σ H=>m=n - i/\i<=n/\Pv i σ H,⟨n,by simp,Pu _,h0⟩,?_⟩
 rintro i m σ H ⟨rfl,hi,p⟩
 by_cases hlt:i < n
 ·refine .inr ⟨hlt,Pv (i + 1),fun σ' H' p'=>⟨n - (i + 1),by omega,rfl,hlt,p'⟩,fun x H' y=>?_⟩
  obtain ⟨e,y⟩:=y
  subst e y
  exact hs i σ _ hlt p
 ·have e:i=n:=by omega
  subst e
  exact .inl ⟨Pa _,hd σ H p⟩
end L2
namespace L2
open PySem PySem.Spec PyProof.Rows
noncomputable abbrev R2:=V->V->Hp->VK->Prop
noncomputable def OpR (X:Cx) (f:Value->Value->Sem Value) (r:R2):Prop :=
 ∀ (pins:List (Addr×Obj)) (s:Shared) (σ:St) (H:Hp) (x y:V) (v u:Value) (Q:VK),Inv X pins σ H s->RelV x v->RelV y u->r x y H Q ->
  wpAny (model X.prog X.w) X.A (f v u) (EP X pins σ Q) X.xe s
noncomputable def UnR (X:Cx) (f:Value->Sem Value) (r:V->Hp->VK->Prop):Prop :=
 ∀ (pins:List (Addr×Obj)) (s:Shared) (σ:St) (H:Hp) (x:V) (v:Value) (Q:VK),Inv X pins σ H s->RelV x v->r x H Q ->
  wpAny (model X.prog X.w) X.A (f v) (EP X pins σ Q) X.xe s
noncomputable def Ct (X:Cx) (f:Value) (r:List V->Hp->VK->Prop):Prop :=
 ∀ (pins:List (Addr×Obj)) (s:Shared) (σ:St) (H:Hp) (xs:List V) (us:List Value) (Q:VK),Inv X pins σ H s->Vals xs us->r xs H Q ->
  wpAny (model X.prog X.w) X.A (call f us) (EP X pins σ Q) X.xe s
noncomputable def TruR (X:Cx) (r:V->Hp->(Bool->Hp->Prop)->Prop):Prop :=
 ∀ (pins:List (Addr×Obj)) (s:Shared) (σ:St) (H:Hp) (x:V) (v:Value) (Q:Bool->Hp->Prop),Inv X pins σ H s->RelV x v->r x H Q ->
  wpAny (model X.prog X.w) X.A (truthy v) (TP X pins σ Q) X.xe s
noncomputable def Ez (r:R2) (ta tb:TE):TE:=fun σ H Q=>ta σ H fun x H1=>tb σ H1 fun y H2=>r x y H2 Q
noncomputable def tUn (r:V->Hp->VK->Prop) (ta:TE):TE:=fun σ H Q=>ta σ H fun x H1=>r x H1 Q
noncomputable def rI (C:Int->Int->Prop) (g:Int->Int->V):R2:=fun x y H Q=>∃ i j,x=.int i/\y=.int j/\C i j/\Q (g i j) H
noncomputable def Eb (g:Int->Int->V):R2:=fun x y H Q=>∃ i j,x=.int i/\y=.int j/\Q (g i j) H
noncomputable def rU (g:Int->V):V->Hp->VK->Prop:=fun x H Q=>∃ i,x=.int i/\Q (g i) H
section
variable {X:Cx} {a b c:Expr} {ta tb tc:TE} {pos:Pos}
theorem Ny (ha:PE X a ta) (hb:PE X b tb) {pins:List (Addr×Obj)} {s:Shared} {σ:St} {H:Hp} {R:V->V->Hp->Prop} (I:Inv X pins σ H s)
  (h:ta σ H fun x H1=>tb σ H1 fun y H2=>R x y H2) {Q:Value->Shared->Prop} {f:Value->Value->Sem Value}
  (hf:∀ v u s2 x y H2,Inv X pins σ H2 s2->RelV x v->RelV y u->R x y H2->wpAny (model X.prog X.w) X.A (f v u) Q X.xe s2) :
  wpAny (model X.prog X.w) X.A (eval a X.env) (fun v s₁=>wpAny (model X.prog X.w) X.A (eval b X.env) (fun u s₂=>wpAny (model X.prog X.w) X.A (f v u) Q X.xe s₂) X.xe s₁) X.xe s:=by
 refine Am (ha pins s σ H _ I h) fun v s1 ⟨x,H1,I1,r1,q1⟩=>?_
 refine Am (hb pins s1 σ H1 _ I1 q1) fun u s2 ⟨y,H2,I2,r2,q2⟩=>?_
 exact hf v u s2 x y H2 I2 r1 r2 q2
theorem Zo3 {op:Operator} {r:R2} (ho:OpR X (binaryOp op) r) (ha:PE X a ta) (hb:PE X b tb):PE X (.BinOp a op b pos) (Ez r ta tb):=by
 intro pins s σ H Q I h
 exact wpAny_BinOp (Ny ha hb I h fun v u s2 x y H2 I2 rx ry q=>ho pins s2 σ H2 x y v u Q I2 rx ry q)
theorem Zoh {op:UnaryOp} {r:V->Hp->VK->Prop} (ho:UnR X (unaryOp op) r) (ha:PE X a ta):PE X (.UnaryOp op a pos) (tUn r ta):=by
 intro pins s σ H Q I h
 exact UnaryOp_ (Am (ha pins s σ H _ I h) fun v s1 ⟨x,H1,I1,r1,q1⟩=>ho pins s1 σ H1 x v Q I1 r1 q1)
theorem opI {f:Value->Value->Sem Value} {C:Int->Int->Prop} {g:Int->Int->Int}
  (rule:∀ (i j:Int) (t u:Tok) (s:Shared) (Q:Value->Shared->Prop) (E:Value->Shared->Prop),C i j->Q (.int (g i j) s.toks) { s with toks:=s.toks + 1 }->wpAny (model X.prog X.w) X.A (f (.int i t) (.int j u)) Q E s) :
  OpR X f (rI C fun i j=>.int (g i j)):=by
 intro pins s σ H x y v u Q I rx ry h
 obtain ⟨i,j,rfl,rfl,hc,q⟩:=h
 obtain ⟨t,rfl⟩:=rx
 obtain ⟨t',rfl⟩:=ry
 exact rule i j t t' s _ _ hc ⟨.int (g i j),H,I.tok _,⟨_,rfl⟩,q⟩
theorem opI0 {f:Value->Value->Sem Value} {g:Int->Int->Int}
  (rule:∀ (i j:Int) (t u:Tok) (s:Shared) (Q:Value->Shared->Prop) (E:Value->Shared->Prop),Q (.int (g i j) s.toks) { s with toks:=s.toks + 1 }->wpAny (model X.prog X.w) X.A (f (.int i t) (.int j u)) Q E s) :
  OpR X f (Eb fun i j=>.int (g i j)):=by
 intro pins s σ H x y v u Q I rx ry h
 obtain ⟨i,j,rfl,rfl,q⟩:=h
 obtain ⟨t,rfl⟩:=rx
 obtain ⟨t',rfl⟩:=ry
 exact rule i j t t' s _ _ ⟨.int (g i j),H,I.tok _,⟨_,rfl⟩,q⟩
theorem Zbe {f:Value->Value->Sem Value} {g:Int->Int->Bool}
  (rule:∀ (i j:Int) (t u:Tok) (s:Shared) (Q:Value->Shared->Prop) (E:Value->Shared->Prop),Q (.bool (g i j)) s->wpAny (model X.prog X.w) X.A (f (.int i t) (.int j u)) Q E s) :
  OpR X f (Eb fun i j=>.bl (g i j)):=by
 intro pins s σ H x y v u Q I rx ry h
 obtain ⟨i,j,rfl,rfl,q⟩:=h
 obtain ⟨t,rfl⟩:=rx
 obtain ⟨t',rfl⟩:=ry
 exact rule i j t t' s _ _ ⟨.bl (g i j),H,I,rfl,q⟩
noncomputable def CDiv (i j:Int):Prop:=0 < j/\j < 1073741824
noncomputable def CPow (i j:Int):Prop:=0<=j/\j<=1000000/\i.natAbs < 2 ^ 64
noncomputable def CMul (i j:Int):Prop:=(-(2 ^ 64) < i/\i < 2 ^ 64)\/(-(2 ^ 64) < j/\j < 2 ^ 64)
theorem CMul.ok {i j:Int} (h:CMul i j):IntMulOk i j:=by
 rcases h with ⟨h1,h2⟩ | ⟨h1,h2⟩
 ·exact .of_left (intBits_le_64 h1 h2)
 ·exact .of_right (intBits_le_64 h1 h2)
theorem op_add:OpR X (binaryOp .Add) (Eb fun i j=>.int (i + j)):=opI0 fun _ _ _ _ _ _ _ q=>add_int q
theorem El:OpR X (binaryOp .Sub) (Eb fun i j=>.int (i - j)):=opI0 fun _ _ _ _ _ _ _ q=>sub_int q
theorem op_mul:OpR X (binaryOp .Mult) (rI CMul fun i j=>.int (i * j)):=opI fun _ _ _ _ _ _ _ hc q=>mul_int q hc.ok
theorem E4:OpR X (binaryOp .FloorDiv) (rI CDiv fun i j=>.int (i / j)):=opI fun i j _ _ _ _ _ hc q=>by
 have h1:(0:Int) < j:=hc.1
 have h2:j < 1073741824:=hc.2
 exact floordiv_int (by omega) (by rw [Int.fdiv_eq_ediv_of_nonneg i (by omega)]; exact q) (.inl (PyProof.noPylong_small (by omega)))
theorem C5:OpR X (binaryOp .Mod) (rI (fun _ j=>0 < j) fun i j=>.int (i % j)):=opI fun i j _ _ _ _ _ hc q=>by
 have h1:(0:Int) < j:=hc
 exact mod_int' (by omega) (by rw [Int.fmod_eq_emod_of_nonneg i (by omega)]; exact q)
theorem Zgo:OpR X (binaryOp .Pow) (rI CPow fun i j=>.int (i ^ j.toNat)):=opI fun _ _ _ _ _ _ _ hc q=>pow_int_small hc.1 hc.2.1 hc.2.2 q
theorem unI {f:Value->Sem Value} {g:Int->Int}
  (rule:∀ (i:Int) (t:Tok) (s:Shared) (Q:Value->Shared->Prop) (E:Value->Shared->Prop),Q (.int (g i) s.toks) { s with toks:=s.toks + 1 }->wpAny (model X.prog X.w) X.A (f (.int i t)) Q E s) :
  UnR X f (rU fun i=>.int (g i)):=by
 intro pins s σ H x v Q I rx h
 obtain ⟨i,rfl,q⟩:=h
 obtain ⟨t,rfl⟩:=rx
 exact rule i t s _ _ ⟨.int (g i),H,I.tok _,⟨_,rfl⟩,q⟩
theorem Hl:UnR X (unaryOp .USub) (rU fun i=>.int (-i)):=unI fun _ _ _ _ _ q=>neg_int q
end
noncomputable def Ma:V->V->Bool
 | .non,.non=>true | .non,.int _=>true | .int _,.non=>true | .non,.bl _=>true | .bl _,.non=>true | .non,.str _=>true | .str _,.non=>true
 | .int _,.int _=>true | .bl _,.bl _=>true | .str _,.str _=>true | .byt _,.byt _=>true
 | .int _,.str _=>true | .str _,.int _=>true | .bl _,.str _=>true | .str _,.bl _=>true
 | _,_=>false
noncomputable def rEq:R2:=fun x y H Q=>Ma x y=true/\Q (.bl (decide (x=y))) H
noncomputable def rNe:R2:=fun x y H Q=>Ma x y=true/\Q (.bl (!decide (x=y))) H
theorem Ze0 {i j:Int}:decide (V.int i=V.int j)=(i == j):=by
 rw [Tf]
 simp
theorem Zgd {i j:Bool}:decide (V.bl i=V.bl j)=(i == j):=by
 rw [Tf]
 simp
theorem Bs {i j:Str}:decide (V.str i=V.str j)=(i == j):=by
 rw [Tf]
 simp
theorem Zd6 {i j:Array UInt8}:decide (V.byt i=V.byt j)=(i.toList == j.toList):=by
 rw [Tf]
 cases i
 cases j
 simp
section
variable {X:Cx} {a b c:Expr} {ta tb tc:TE} {pos:Pos}
theorem Bk {pins:List (Addr×Obj)} {σ:St} {H:Hp} {s:Shared} {Q:VK} {k k':Bool} (I:Inv X pins σ H s) (q:Q (.bl k) H) (e:k=k'):EP X pins σ Q (.bool k') s:=by
 subst e
 exact ⟨.bl k,H,I,rfl,q⟩
theorem op_eq:OpR X (compareOp .Eq) rEq:=by
 intro pins s σ H x y v u Q I rx ry h
 obtain ⟨hs,q⟩:=h
 cases x with
 | non =>
  cases rx
  cases y with
  | non=>cases ry; exact PySem.EqNone.eq_none_none (Bk I q (by simp))
  | bl j=>cases ry; exact PySem.EqNone.eq_none_bool (Bk I q (by simp))
  | int j=>obtain ⟨t',rfl⟩:=ry; exact PySem.EqNone.eq_none_int (Bk I q (by simp))
  | str j=>obtain ⟨t',rfl⟩:=ry; exact PySem.EqNone.eq_none_str (Bk I q (by simp))
  | _=>exact absurd (show false=true from hs) Pk
 | bl i =>
  cases rx
  cases y with
  | non=>cases ry; exact PySem.EqNone.eq_bool_none (Bk I q (by simp))
  | bl j=>cases ry; exact eq_bool (Bk I q Zgd)
  | str j=>obtain ⟨t',rfl⟩:=ry; exact PySem.EqMixed.eq_bool_str (Bk I q (by simp))
  | _=>exact absurd (show false=true from hs) Pk
 | int i =>
  obtain ⟨t,rfl⟩:=rx
  cases y with
  | non=>cases ry; exact PySem.EqNone.eq_int_none (Bk I q (by simp))
  | int j=>obtain ⟨t',rfl⟩:=ry; exact eq_int (Bk I q Ze0)
  | str j=>obtain ⟨t',rfl⟩:=ry; exact PySem.EqMixed.eq_int_str (Bk I q (by simp))
  | _=>exact absurd (show false=true from hs) Pk
 | str i =>
  obtain ⟨t,rfl⟩:=rx
  cases y with
  | non=>cases ry; exact PySem.EqNone.eq_str_none (Bk I q (by simp))
  | bl j=>cases ry; exact PySem.EqMixed.eq_str_bool (Bk I q (by simp))
  | int j=>obtain ⟨t',rfl⟩:=ry; exact PySem.EqMixed.eq_str_int (Bk I q (by simp))
  | str j=>obtain ⟨t',rfl⟩:=ry; exact eq_str (Bk I q Bs)
  | _=>exact absurd (show false=true from hs) Pk
 | byt i =>
  obtain ⟨t,rfl⟩:=rx
  cases y with
  | byt j=>obtain ⟨t',rfl⟩:=ry; exact PySem.W.eq_bytes (Bk I q Zd6)
  | _=>exact absurd (show false=true from hs) Pk
 | _=>cases y <;> exact absurd (show false=true from hs) Pk
theorem op_ne:OpR X (compareOp .NotEq) rNe:=by
 intro pins s σ H x y v u Q I rx ry h
 obtain ⟨hs,q⟩:=h
 cases x with
 | non =>
  cases rx
  cases y with
  | non=>cases ry; exact PySem.EqNone.ne_none_none (Bk I q (by simp))
  | bl j=>cases ry; exact PySem.EqNone.ne_none_bool (Bk I q (by simp))
  | int j=>obtain ⟨t',rfl⟩:=ry; exact PySem.EqNone.ne_none_int (Bk I q (by simp))
  | str j=>obtain ⟨t',rfl⟩:=ry; exact PySem.EqNone.ne_none_str (Bk I q (by simp))
  | _=>exact absurd (show false=true from hs) Pk
 | bl i =>
  cases rx
  cases y with
  | non=>cases ry; exact PySem.EqNone.ne_bool_none (Bk I q (by simp))
  | bl j=>cases ry; exact ne_bool (Bk I q (congrArg not Zgd))
  | str j=>obtain ⟨t',rfl⟩:=ry; exact PySem.EqMixed.ne_bool_str (Bk I q (by simp))
  | _=>exact absurd (show false=true from hs) Pk
 | int i =>
  obtain ⟨t,rfl⟩:=rx
  cases y with
  | non=>cases ry; exact PySem.EqNone.ne_int_none (Bk I q (by simp))
  | int j=>obtain ⟨t',rfl⟩:=ry; exact ne_int (Bk I q (congrArg not Ze0))
  | str j=>obtain ⟨t',rfl⟩:=ry; exact PySem.EqMixed.ne_int_str (Bk I q (by simp))
  | _=>exact absurd (show false=true from hs) Pk
 | str i =>
  obtain ⟨t,rfl⟩:=rx
  cases y with
  | non=>cases ry; exact PySem.EqNone.ne_str_none (Bk I q (by simp))
  | bl j=>cases ry; exact PySem.EqMixed.ne_str_bool (Bk I q (by simp))
  | int j=>obtain ⟨t',rfl⟩:=ry; exact PySem.EqMixed.ne_str_int (Bk I q (by simp))
  | str j=>obtain ⟨t',rfl⟩:=ry; exact ne_str (Bk I q (congrArg not Bs))
  | _=>exact absurd (show false=true from hs) Pk
 | byt i =>
  obtain ⟨t,rfl⟩:=rx
  cases y with
  | byt j=>obtain ⟨t',rfl⟩:=ry; exact PySem.W.ne_bytes (Bk I q (congrArg not Zd6))
  | _=>exact absurd (show false=true from hs) Pk
 | _=>cases y <;> exact absurd (show false=true from hs) Pk
theorem op_lt:OpR X (compareOp .Lt) (Eb fun i j=>.bl (decide (i < j))):=Zbe fun _ _ _ _ _ _ _ q=>lt_int q
theorem op_le:OpR X (compareOp .LtE) (Eb fun i j=>.bl (decide (i<=j))):=Zbe fun _ _ _ _ _ _ _ q=>le_int q
theorem Zeo:OpR X (compareOp .Gt) (Eb fun i j=>.bl (decide (j < i))):=Zbe fun _ _ _ _ _ _ _ q=>gt_int q
theorem Zpg:OpR X (compareOp .Lt) (fun x y H Q=>∃ i j,x=.str i/\y=.str j/\Q (.bl (decide (i.cps.toList < j.cps.toList))) H):=by
 intro pins s σ H x y v u Q I rx ry h
 obtain ⟨i,j,rfl,rfl,q⟩:=h
 obtain ⟨t,rfl⟩:=rx
 obtain ⟨t',rfl⟩:=ry
 exact lt_str (Bk I q rfl)
theorem Zqs:OpR X (compareOp .In) (fun x y H Q=>∃ i j,x=.str i/\y=.str j/\Q (.bl (!(Builtin.Str.occurrences j i 0 j.length 1).isEmpty)) H):=by
 intro pins s σ H x y v u Q I rx ry h
 obtain ⟨i,j,rfl,rfl,q⟩:=h
 obtain ⟨t,rfl⟩:=rx
 obtain ⟨t',rfl⟩:=ry
 exact in_str (Bk I q rfl)
theorem OpR.or {f:Value->Value->Sem Value} {r r':R2} (h:OpR X f r) (h':OpR X f r'):OpR X f (fun x y H Q=>r x y H Q\/r' x y H Q):=by
 intro pins s σ H x y v u Q I rx ry q
 rcases q with q | q
 ·exact h pins s σ H x y v u Q I rx ry q
 ·exact h' pins s σ H x y v u Q I rx ry q
theorem A5 (b:Expr) {op:CmpOp} (h:op≠.In:=by decide) (h2:op≠.NotIn:=by decide):behindInMarks op b=false:=by
 have e1:(op == CmpOp.In)=false:=by cases op <;> first | rfl | exact absurd rfl h
 have e2:(op == CmpOp.NotIn)=false:=by cases op <;> first | rfl | exact absurd rfl h2
 cases b <;> simp [behindInMarks,e1,e2]
theorem Zij {op:CmpOp} {r:R2} (ho:OpR X (compareOp op) r) (ha:PE X a ta) (hb:PE X b tb) (hm:behindInMarks op b=false):PE X (.Compare a [op] [b] pos) (Ez r ta tb):=by
 intro pins s σ H Q I h
 exact wpAny_Compare1 (Ny ha hb I h fun v u s2 x y H2 I2 rx ry q=>ho pins s2 σ H2 x y v u Q I2 rx ry q) hm
noncomputable def Zad (t:TE):TT:=fun σ H Q=>t σ H fun x H'=>∃ k,x=.bl k/\Q k H'
theorem Zk6 {op:CmpOp} {r:R2} (ho:OpR X (compareOp op) r) (ha:PE X a ta) (hb:PE X b tb) (hm:behindInMarks op b=false):PT X (.Compare a [op] [b] pos) (Zad (Ez r ta tb)):=by
 intro pins s σ H Q I h
 refine wpAny_isTrue_Compare1 (Am (ha pins s σ H _ I h) fun v s1 ⟨x,H1,I1,r1,q1⟩=>Am (hb pins s1 σ H1 _ I1 q1) fun u s2 ⟨y,H2,I2,r2,q2⟩ =>
  Am (ho pins s2 σ H2 x y v u _ I2 r1 r2 q2) fun c s3 ⟨z,H3,I3,r3,k,e,q3⟩=>?_) hm
 subst e
 cases r3
 exact Rc ⟨H3,I3,q3⟩
noncomputable def Zah (r r':R2) (ta tb tc:TE):TE:=fun σ H Q=>ta σ H fun x H1=>tb σ H1 fun y H2=>r x y H2 fun z H3=>∃ k,z=.bl k /\
 (if k=true then tc σ H3 fun w' H4=>r' y w' H4 Q else Q (.bl false) H3)
theorem Zsz {op op':CmpOp} {r r':R2} (ho:OpR X (compareOp op) r) (ho':OpR X (compareOp op') r') (ha:PE X a ta) (hb:PE X b tb) (hc:PE X c tc)
  (hm:lastMarks [op,op'] [b,c]=false:=by with_unfolding_all rfl):PE X (.Compare a [op,op'] [b,c] pos) (Zah r r' ta tb tc):=by
 intro pins s σ H Q I h
 refine Compare_chain (Am (ha pins s σ H _ I h) fun v s1 ⟨x,H1,I1,r1,q1⟩=>chain_link (Am (hb pins s1 σ H1 _ I1 q1) fun u s2 ⟨y,H2,I2,r2,q2⟩ =>
  Am (ho pins s2 σ H2 x y v u _ I2 r1 r2 q2) fun d s3 ⟨z,H3,I3,r3,k,e,q3⟩=>?_)) hm
 subst e
 cases r3
 refine Rc ?_
 cases k with
 | false=>exact ite_ff ⟨.bl false,H3,I3,rfl,q3⟩
 | true=>exact ite_tt (chain_last (Am (hc pins s3 σ H3 _ I3 q3) fun w' s4 ⟨z',H4,I4,r4,q4⟩=>ho' pins s4 σ H4 y z' u w' Q I4 r2 r4 q4))
noncomputable def Kn (K:O7) (x:V) (H:Hp) (k:Bool):Prop :=
 match x with
 | .non=>k=false
 | .bl b=>k=b
 | .int i=>k=(i != 0)
 | .str y=>y.length<=sizeLine/\k=((y.length:Int) != 0)
 | .byt y=>y.size<=sizeLine/\k=((y.size:Int) != 0)
 | .ref p=>(∃ xs,SqL K H p xs/\k=!xs.isEmpty)\/(∃ xs,SqT K H p xs/\k=!xs.isEmpty)\/∃ kvs,H p=some (.dK kvs)/\k=!kvs.isEmpty
 | _=>False
theorem Zpq {κ:Type} {kvs:List (κ×V)} {vs:List (κ×Value)} (r:KV kvs vs):(!vs.isEmpty)=!kvs.isEmpty:=by
 cases r <;> rfl
theorem Zfr {xs:List V} {its:List Value} (r:Vals xs its):(!its.toArray.isEmpty)=!xs.isEmpty:=by
 cases r <;> simp
theorem Kk:(sizeLine:Nat) < 2 ^ 63:=by rw [U7]; decide
theorem Zpj:TruR X (fun x H Q=>∃ k,Kn X.K x H k/\Q k H):=by
 intro pins s σ H x v Q I rx h
 obtain ⟨k,e,q⟩:=h
 have hl:=Kk
 have hs:sizeLine=16777216:=U7
 cases x with
 | non =>
  cases rx
  have e':k=false:=e
  subst e'
  exact truthy_none ⟨H,I,q⟩
 | bl b =>
  cases rx
  have e':k=b:=e
  subst e'
  exact Rc ⟨H,I,q⟩
 | int i =>
  obtain ⟨t,rfl⟩:=rx
  have e':k=(i != 0):=e
  subst e'
  exact PySem.P.truthy_int ⟨H,I,q⟩
 | str y =>
  obtain ⟨t,rfl⟩:=rx
  obtain ⟨hy,e'⟩:y.length<=sizeLine/\k=((y.length:Int) != 0):=e
  subst e'
  exact PySem.P.truthy_str (by omega) ⟨H,I.tok _,q⟩
 | byt y =>
  obtain ⟨t,rfl⟩:=rx
  obtain ⟨hy,e'⟩:y.size<=sizeLine/\k=((y.size:Int) != 0):=e
  subst e'
  exact PySem.W.truthy_bytes (by omega) ⟨H,I.tok _,q⟩
 | ref p =>
  cases rx
  have e':(∃ xs,SqL X.K H p xs/\k=!xs.isEmpty)\/(∃ xs,SqT X.K H p xs/\k=!xs.isEmpty)\/∃ kvs,H p=some (.dK kvs)/\k=!kvs.isEmpty:=e
  rcases e' with ⟨xs,hx,e'⟩ | ⟨xs,hx,e'⟩ | ⟨kvs,hx,e'⟩
  ·subst e'
   obtain ⟨its,r,pl,hz⟩:=I.list hx
   have hlen:=r.length
   exact wpAny_truthy_list pl.isList (by simp only [Pf]; omega) ⟨H,I.tok _,by rw [Zfr r]; exact q⟩
  ·subst e'
   obtain ⟨its,r,pl,hz⟩:=I.tuple hx
   have hlen:=r.length
   exact truthy_tuple pl (by simp only [Pf]; omega) ⟨H,I.tok _,by rw [Zfr r]; exact q⟩
  ·subst e'
   obtain ⟨hz,hS,vs,r,m⟩:kvs.length<=sizeLine/\(p == sysModules)=false/\∃ vs,KV kvs vs/\s.heap.DictOf (Di X.prog X.w) p vs:=I.hok p _ hx
   have hlen:kvs.length=vs.length:=Ux r
   exact wpAny_truthy_dict hS m (by omega) ⟨H,I.tok _,by rw [Zpq r]; exact q⟩
 | _=>exact (show False from e).elim
theorem Zqb (ha:PE X a ta) (he:∀ whole,isTrue a X.env whole=(do let v <- whole; standAt a.pos; holding [v] (truthy v))) :
  PT X a (fun σ H Q=>ta σ H fun x H'=>∃ k,Kn X.K x H' k/\Q k H'):=by
 intro pins s σ H Q I h
 exact isTrue_plain (Am (ha pins s σ H _ I h) fun v s1 ⟨x,H1,I1,r1,q1⟩=>Zpj pins s1 σ H1 x v Q I1 r1 q1) (he _)
theorem op_add_str:OpR X (binaryOp .Add) (fun x y H Q=>∃ i j,x=.str i/\y=.str j/\i.length + j.length<=sizeLine/\Q (.str (i++j)) H):=by
 intro pins s σ H x y v u Q I rx ry h
 obtain ⟨i,j,rfl,rfl,hz,q⟩:=h
 obtain ⟨t,rfl⟩:=rx
 obtain ⟨t',rfl⟩:=ry
 exact add_str (fun t' tk=>⟨.str (i++j),H,I.tok _,⟨_,rfl⟩,q⟩) hz
theorem Jc {x:V} {us:List Value} (r:Vals [x] us):∃ u,us=[u]/\RelV x u:=by
 cases r with
 | cons r1 r2=>cases r2; exact ⟨_,rfl,r1⟩
theorem Zh0:Ct X (.type "int") (fun xs H Q=>(∃ i,xs=[.int i]/\Q (.int i) H)\/∃ k,xs=[.bl k]/\Q (.int (if k then 1 else 0)) H):=by
 intro pins s σ H xs us Q I r h
 rcases h with ⟨i,rfl,q⟩ | ⟨k,rfl,q⟩
 ·obtain ⟨u,rfl,t,rfl⟩:=Jc r
  exact call_int_int ⟨.int i,H,I,⟨_,rfl⟩,q⟩
 ·obtain ⟨u,rfl,r1⟩:=Jc r
  cases r1
  exact call_int_bool ⟨.int (if k then 1 else 0),H,I.tok _,⟨_,rfl⟩,q⟩
noncomputable def LenV (K:O7) (x:V) (H:Hp) (n:Nat):Prop :=
 match x with
 | .str y=>y.length<=sizeLine/\n=y.length
 | .byt y=>y.size<=sizeLine/\n=y.size
 | .ref p=>(∃ xs,SqL K H p xs/\n=xs.length)\/∃ xs,SqT K H p xs/\n=xs.length
 | _=>False
theorem Zsc:Ct X (.builtin "len") (fun xs H Q=>∃ x n,xs=[x]/\LenV X.K x H n/\Q (.int n) H):=by
 intro pins s σ H xs us Q I r h
 obtain ⟨x,n,rfl,e,q⟩:=h
 obtain ⟨u,rfl,rx⟩:=Jc r
 have hl:=Kk
 have hs:sizeLine=16777216:=U7
 cases x with
 | str y =>
  obtain ⟨t,rfl⟩:=rx
  obtain ⟨hy,e'⟩:y.length<=sizeLine/\n=y.length:=e
  subst e'
  exact len_str (by omega) ⟨.int _,H,I.tok _,⟨_,rfl⟩,q⟩
 | byt y =>
  obtain ⟨t,rfl⟩:=rx
  obtain ⟨hy,e'⟩:y.size<=sizeLine/\n=y.size:=e
  subst e'
  exact PySem.W.len_bytes (by omega) ⟨.int _,H,I.tok _,⟨_,rfl⟩,q⟩
 | ref p =>
  cases rx
  have e':(∃ xs,SqL X.K H p xs/\n=xs.length)\/∃ xs,SqT X.K H p xs/\n=xs.length:=e
  rcases e' with ⟨xs,hx,e'⟩ | ⟨xs,hx,e'⟩
  ·subst e'
   obtain ⟨its,r',pl,hz⟩:=I.list hx
   have hlen:=r'.length
   exact Calls.call_len_list pl.isList (by simp only [Pf]; omega) ⟨.int xs.length,H,I.tok _,⟨_,by simp only [Pf]; rw [hlen]⟩,q⟩
  ·subst e'
   obtain ⟨its,r',pl,hz⟩:=I.tuple hx
   have hlen:=r'.length
   exact len_tuple pl (by simp only [Pf]; omega) ⟨.int xs.length,H,I.tok _,⟨_,by simp only [Pf]; rw [hlen]⟩,q⟩
 | _=>exact (show False from e).elim
end
end L2
namespace L2
open PySem PySem.Spec PyProof.Rows
structure ObjM (h:Heap) (x dx C:Addr) (mA:Str->Option Value):Prop where
 obj:h.get? x=some (Ro C dx)
 ns:h.Ns1 dx mA
 ne:dx≠x
theorem Zg0 {h:Heap} {dx:Addr} {mA:Str->Option Value} (n:h.Ns1 dx mA):∃ od,h.get? dx=some od/\∀ name,Uu name od=some (mA name):=by
 obtain ⟨o,es,ep,ho,hd,hk,_,hm⟩:=n
 refine ⟨o,ho,fun name=>?_⟩
 have e:=hm name
 unfold nsFind findBy at e
 rw [<- Array.find?_toList] at e
 unfold Uu
 rw [hd]
 dsimp only
 split
 ·rename_i y q
  rw [q] at e
  exact congrArg some e
 ·rename_i q
  rw [q] at e
  have a:es.toList.any (·.refKey)=false:=by
   rw [List.any_eq_false]
   intro y hy
   obtain ⟨z,t,hkey⟩:=hk y (Array.mem_toList_iff.mp hy)
   simp [DictEntry.refKey,hkey]
  have a':¬ es.toList.any (·.refKey)=true:=by rw [a]; exact Pk
  rw [if_neg a']
  exact congrArg some e
theorem ObjM.look {h:Heap} {x dx C:Addr} {mA:Str->Option Value} (I:ObjM h x dx C mA):∃ od,Uv h x (Ro C dx) C (some od)/\∀ name,Uu name od=some (mA name) :=
 let ⟨od,ho,hl⟩:=Zg0 I.ns
 ⟨od,⟨I.obj,rfl,rfl,ho⟩,hl⟩
section
variable {prog:Program} {w:World} {A:Around} {E:Value->Shared->Prop} {s:Shared} {K:O7} {x dx C f:Addr} {mA:Str->Option Value} {name:Str} {v:Value}
theorem Zlt {expr:Bool} {Q:Value->Shared->Prop} (X:K.In s.heap) (I:ObjM s.heap x dx C mA) (hg:Tc K C name=true) (hh:Sd K C=true)
  (ha:Px K (.ref C) name=some none) (hv:mA name=some v) (hv':PySem.W.handedIn v=true) (h:Q v { s with toks:=s.toks + 1 }) :
  wpAny (model prog w) A (getAttr (.ref x) name expr) Q E s:=by
 obtain ⟨od,J,hl⟩:=I.look
 exact PySem.W.get_value X J (Vm hg).1 (PySem.W.findObj_own hh ha rfl (by rw [hl,hv])) hv' h
theorem Zq4 {pl:Sem Bool} {Q:Value×List Value->Shared->Prop} (X:K.In s.heap) (I:ObjM s.heap x dx C mA) (hg:Tc K C name=true)
  (hf:Px K (.ref C) name=some (some (.ref f))) (ht:U3 K (.ref f)=true) (hv:mA name=none) (h:Q (.ref f,[.ref x]) s) :
  wpAny (model prog w) A (getMethod (.ref x) name pl) Q E s:=by
 obtain ⟨od,J,hl⟩:=I.look
 exact PySem.W.method_fn X J (Vm hg).1 (Vm hg).2 hf (beq_iff_eq.mp ht) (by show (Uu name od).map (·.isSome)=some false; rw [hl,hv]; rfl) h
theorem Zlv {ns:List Str} {Q:Unit->Shared->Prop} (X:K.In s.heap) (I:ObjM s.heap x dx C mA)
  (hs:Px K (.ref C) "__setattr__" = some (some (.builtin "object.__setattr__"))) (hp:Vq K C=true) (ht:Vz K C name=some none) (hh:Sd K C=true)
  (hw:U1 mA ns) (hsz:ns.length<=sizeLine)
  (h:∀ h',ObjM h' x dx C (fun y=>if y=name then some v else mA y)->Pq dx s.heap h'->Q () { s with heap:=h',toks:=s.toks + 2 }) :
  wpAny (model prog w) A (setAttr (.ref x) name v) Q E s:=by
 obtain ⟨od,J,hl⟩:=I.look
 refine PySem.W.set_plain X J hs (PySem.W.osa_open (s:={ s with toks:=s.toks + 1 }) (r:=none) X J hp ht fun b=>?_)
 obtain ⟨cd,hc,hd'⟩:=PySem.W.any_some hh
 have hx:s.heap.get? x=some ⟨.ref C,some dx,.plain,#[]⟩:=I.obj
 refine O8 (O9 (O8 (O8 (wpAny_loadPart hx (O8 (Tl.here (s:={ s with toks:=s.toks + 1 }) (PySem.W.looks_clsIn X hc) ?_))))))
 rw [hd']
 refine O9 (a:=some dx) (O8 (O9 (O8 ?_)))
 refine wpAny_nsSet1 (s:={ s with toks:=s.toks + 1 }) I.ns fun h' hn2 hs2=>?_
 obtain ⟨oD,esD,epD,hoD,hdD,hcD⟩:=hn2.count (U1.cons name v hw)
 refine O8 (wpAny_lookBehind hoD (by rw [hdD]; exact pastItsLine_dict (P3 hcD (by rw [P8]; omega))) ?_)
 exact O9 (h _ ⟨(hs2.2 _ (Pg I.ne)).trans I.obj,hn2,I.ne⟩ hs2)
theorem Zr4 {R:Result->Shared->Prop} {vs:List Value} {kw:List (Str×Value)} (X:K.In s.heap) (hm:V0 K C=true)
  (hi:Px K (.ref C) "__init__" = some (some (.ref f))) (hf:Rp K (.ref f)=some (.type "function"))
  (h:codeAny (model prog w) (A.under (.builtin "type.__call__" ⟨.ref C :: vs,kw⟩)) (.call (.ref f) ⟨.ref (s.heap.objs.size + 1) :: vs,kw⟩) (PySem.W.InitBack (s.heap.objs.size + 1) R)
   { s with heap:=(s.heap.push Re).push (Ro C s.heap.objs.size) }) :
  codeAny (model prog w) A (.call (.ref C) ⟨vs,kw⟩) R s:=by
 obtain ⟨hh,g,d,t,os⟩:=s
 exact PySem.W.make_core (PySem.W.makes_of X hm) (PySem.W.looks_findIn X hi) (fun self=>PySem.W.bind_fn X self hf) (.inl rfl) h
end
noncomputable def Ai (f:Str) (v:V):List (Str×V)->List (Str×V)
 | []=>[(f,v)]
 | (g,x) :: r=>if g=f then (g,v) :: r else (g,x) :: Ai f v r
theorem Zex (f g:Str) (v:V):∀ fs:List (Str×V),(Ai f v fs).lookup g=if g=f then some v else fs.lookup g
 | []=>by
  show Rh g [(f,v)]=_
  by_cases h:g=f
  ·have hb:(g == f)=true:=beq_iff_eq.mpr h
   simp only [Rh,hb,if_pos h]
  ·have hb:(g == f)=false:=beq_eq_false_iff_ne.mpr h
   simp only [Rh,hb,if_neg h]
 | (k,x) :: r=>by
  have ih:=Zex f g v r
  rw [show Ai f v ((k,x) :: r)=(if k=f then (k,v) :: r else (k,x) :: Ai f v r) from rfl]
  by_cases hk:k=f
  ·rw [if_pos hk]
   by_cases h:g=k
   ·have hb:(g == k)=true:=beq_iff_eq.mpr h
    simp only [Rh,hb,if_pos (h.trans hk)]
   ·have hb:(g == k)=false:=beq_eq_false_iff_ne.mpr h
    simp only [Rh,hb,if_neg (fun e:g=f=>h (e.trans hk.symm))]
  ·rw [if_neg hk]
   by_cases h:g=k
   ·have hb:(g == k)=true:=beq_iff_eq.mpr h
    simp only [Rh,hb,if_neg (fun e:g=f=>hk (h.symm.trans e))]
   ·have hb:(g == k)=false:=beq_eq_false_iff_ne.mpr h
    simp only [Rh,hb]
    exact ih
theorem N3 (f:Str) (v:V):∀ fs:List (Str×V),f∈(Ai f v fs).map (·.1)/\∀ g,g∈fs.map (·.1)->g∈(Ai f v fs).map (·.1)
 | []=>⟨by simp [Ai],fun g h=>by simp at h⟩
 | (k,x) :: r=>by
  obtain ⟨i1,i2⟩:=N3 f v r
  rw [show Ai f v ((k,x) :: r)=(if k=f then (k,v) :: r else (k,x) :: Ai f v r) from rfl]
  by_cases hk:k=f
  ·rw [if_pos hk]
   subst hk
   exact ⟨by simp,fun g h=>by simpa using h⟩
  ·rw [if_neg hk]
   refine ⟨?_,fun g h=>?_⟩
   ·rw [Qq]
    exact Rk _ i1
   ·rw [Qq] at h ⊢
    rcases Pm.mp h with e | e
    ·exact Pm.mpr (.inl e)
    ·exact Rk _ (i2 g e)
theorem Zes (f:Str) (v:V):∀ fs:List (Str×V),(Ai f v fs).length<=fs.length + 1
 | []=>by simp [Ai]
 | (k,x) :: r=>by
  have ih:=Zes f v r
  rw [show Ai f v ((k,x) :: r)=(if k=f then (k,v) :: r else (k,x) :: Ai f v r) from rfl]
  by_cases hk:k=f
  ·rw [if_pos hk,P8,P8]; omega
  ·rw [if_neg hk,P8,P8]; omega
theorem RelO.some_of {v:V} {o:Option Value} (r:RelO (some v) o):∃ u,o=some u/\RelV v u:=by
 cases o with
 | none=>exact (show False from r).elim
 | some u=>exact ⟨u,rfl,r⟩
theorem RelO.none_of {o:Option Value} (r:RelO none o):o=none:=by
 cases o with
 | none=>rfl
 | some u=>exact (show False from r).elim
theorem Zhy {v:V} {u:Value} (r:RelV v u):PySem.W.handedIn u=true:=by
 cases v with
 | non=>cases (show u=Value.none from r); rfl
 | bl b=>cases (show u=Value.bool b from r); rfl
 | int i=>obtain ⟨t,e⟩:=(show ∃ t,u=Value.int i t from r); cases e; rfl
 | str x=>obtain ⟨t,e⟩:=(show ∃ t,u=Value.str x t from r); cases e; rfl
 | byt b=>obtain ⟨t,e⟩:=(show ∃ t,u=Value.bytes b t from r); cases e; rfl
 | flt b=>obtain ⟨t,e⟩:=(show ∃ t,u=Value.float b t from r); cases e; rfl
 | ref a=>cases (show u=Value.ref a from r); rfl
 | ty n=>cases (show u=Value.type n from r); rfl
section
variable {P:Program} {w:World} {H H':Hp} {h h':Heap} {a C dx:Addr} {fs fs':List (Str×V)}
theorem Le (hok:HOk P w H h) (e:H a=some (.ins C dx fs)):∃ mA,ObjM h a dx C mA/\(∀ f,RelO (fs.lookup f) (mA f))/\U1 mA (fs.map (·.1))/\fs.length<=1000/\H dx=some (.own a):=by
 obtain ⟨d,z,ne,ob,mA,n,r,q⟩:=(show ObjOk P w H h a (.ins C dx fs) from hok a _ e)
 exact ⟨mA,⟨ob,n,ne⟩,r,q,z,d⟩
end
structure Cls (K:O7) (C:Addr):Prop where
 pg:Tc K C Str.empty=true
 hd:Sd K C=true
 po:Vq K C=true
 sa:Px K (.ref C) "__setattr__" = some (some (.builtin "object.__setattr__"))
theorem Cls.get {K:O7} {C:Addr} (c:Cls K C) (f:Str):Tc K C f=true:=c.pg
noncomputable def NoAttr (K:O7) (C:Addr) (f:Str):Prop:=Px K (.ref C) f=some none
theorem NoAttr.taker {K:O7} {C:Addr} {f:Str} (n:NoAttr K C f):Vz K C f=some none:=by
 unfold Vz
 rw [show Px K (.ref C) f=some none from n]
 rfl
structure Meth (K:O7) (C:Addr) (m:Str) (f:Addr):Prop where
 at_:Px K (.ref C) m=some (some (.ref f))
 fn:U3 K (.ref f)=true
 kp:Q6 K (.ref f)=true
section
variable {X:Cx} {pins:List (Addr×Obj)} {σ:St} {H:Hp} {s:Shared} {a C dx:Addr} {fs:List (Str×V)} {f:Str} {v:V} {A:Around} {E:Value->Shared->Prop}
theorem Zcu {b:Bool} {Q:Value->Shared->Prop} (I:Inv X pins σ H s) (e:H a=some (.ins C dx fs)) (c:Cls X.K C) (n:NoAttr X.K C f) (l:fs.lookup f=some v)
  (h:∀ u s',Inv X pins σ H s'->RelV v u->Q u s'):wpAny (model X.prog X.w) A (getAttr (.ref a) f b) Q E s:=by
 obtain ⟨mA,O,r,_,_,_⟩:=Le I.hok e
 obtain ⟨u,hu,ru⟩:=RelO.some_of (v:=v) (o:=mA f) (by rw [<- l]; exact r f)
 exact Zlt I.kIn O (c.get f) c.hd n hu (Zhy ru) (h u _ (I.tok _) ru)
theorem Zdy {m:Str} {g:Addr} {pl:Sem Bool} {Q:Value×List Value->Shared->Prop} (I:Inv X pins σ H s) (e:H a=some (.ins C dx fs)) (c:Cls X.K C) (k:Meth X.K C m g) (l:fs.lookup m=none)
  (h:Q (.ref g,[.ref a]) s):wpAny (model X.prog X.w) A (getMethod (.ref a) m pl) Q E s:=by
 obtain ⟨mA,O,r,_,_,_⟩:=Le I.hok e
 have hn:mA m=none:=RelO.none_of (by rw [<- l]; exact r m)
 exact Zq4 I.kIn O (c.get m) k.at_ k.fn hn h
theorem Zb8 {y:V} {u:Value} {Q:Unit->Shared->Prop} (I:Inv X pins σ H s) (e:H a=some (.ins C dx fs)) (c:Cls X.K C) (n:NoAttr X.K C f) (hl:fs.length < 1000) (ry:RelV y u)
  (h:∀ s',Inv X pins σ (upd H a (.ins C dx (Ai f y fs))) s'->Q () s'):wpAny (model X.prog X.w) A (setAttr (.ref a) f u) Q E s:=by
 obtain ⟨mA,O,r,wi,_,ho⟩:=Le I.hok e
 have hz:(fs.map (·.1)).length<=sizeLine:=by rw [Pi,U7]; omega
 refine Zlv I.kIn O c.sa c.po n.taker c.hd wi hz fun h' O' sb=>h _ ?_
 have hd:∃ o,h'.get? dx=some o:=let ⟨o,_,_,e',_⟩:=O'.ns; ⟨o,e'⟩
 refine I.write (x:=a) (e:=dx) (by rw [e]; exact True.intro) (.inr ho) (fun b q hb z=>(sb.2 b hb).trans z) hd ?_
 refine ⟨by rw [Af O.ne]; exact ho,?_,O.ne,O'.obj,_,O'.ns,fun g=>?_,fun g hg=>?_⟩
 ·have:=Zes f y fs; omega
 ·show RelO ((Ai f y fs).lookup g) (if g=f then some u else mA g)
  rw [Zex]
  by_cases q:g=f
  ·rw [if_pos q,if_pos q]; exact ry
  ·rw [if_neg q,if_neg q]; exact r g
 ·by_cases q:g=f
  ·rw [q]; exact (N3 f y fs).1
  ·refine (N3 f y fs).2 g (wi g fun z=>hg ?_)
   show (if g=f then some u else mA g)=none
   rw [if_neg q]; exact z
theorem Inv.made (I:Inv X pins σ H s):Inv X pins σ (upd (upd H s.heap.objs.size (.own (s.heap.objs.size + 1))) (s.heap.objs.size + 1) (.ins C s.heap.objs.size []))
  { s with heap:=(s.heap.push Re).push (Ro C s.heap.objs.size) }:=by
 have e1:(s.heap.push Re).get? s.heap.objs.size=some Re:=Pp s.heap rfl
 have e2:((s.heap.push Re).push (Ro C s.heap.objs.size)).get? (s.heap.objs.size + 1)=some (Ro C s.heap.objs.size):=by
  have:=Pp (s.heap.push Re) (o:=Ro C s.heap.objs.size) rfl
  rwa [Qc] at this
 have e3:(s.heap.push Re).Ns s.heap.objs.size (fun _=>none):=⟨Re,#[],_,e1,rfl,(fun e he=>absurd he (by simp)),fun _=>rfl⟩
 have I1:=I.laid (a:=s.heap.objs.size) (o:=.own (s.heap.objs.size + 1)) (h':=s.heap.push Re) (t':=s.toks) (fun b u q=>Pd _ q) (Pa _) ⟨_,e1⟩
 refine I1.laid (a:=s.heap.objs.size + 1) (o:=.ins C s.heap.objs.size []) (t':=s.toks) (fun b u q=>Pd _ q) (Nat.le_of_eq (Qc _ _)) ?_
 have ne:s.heap.objs.size≠s.heap.objs.size + 1:=Pl (Td _)
 refine ⟨by rw [Af ne,Ae],Pu _,ne,e2,fun _=>none,(Heap.Ns1.of_empty e3).at fun o q=>Pd _ q,fun _=>True.intro,fun y hy=>absurd rfl hy⟩
theorem Znp {prog:Program} {w:World} {env:Env} {e:Expr} {f:Str} {pos:Pos} {s:Shared} {Q:Value->Shared->Prop} (hb:attributeBase e f env (eval e env)=eval e env)
  (h:wpAny (model prog w) A (eval e env) (fun o s₁=>wpAny (model prog w) A (getAttr o f true) Q E s₁) E s):wpAny (model prog w) A (eval (.Attribute e f pos) env) Q E s :=
 Attribute_any_ h (by rw [arm_eval_Attribute,hb])
end
noncomputable def Zbb (K:O7) (ta:TE) (f:Str):TE:=fun σ H Q=>ta σ H fun x H1=>∃ a C dx fs v,x=.ref a/\H1 a=some (.ins C dx fs)/\Cls K C/\NoAttr K C f/\fs.lookup f=some v/\Q v H1
noncomputable def L6 (K:O7) (ta tv:TE) (f:Str):TS:=fun D σ H=>tv σ H fun y H1=>ta σ H1 fun x H2=>∃ a C dx fs,x=.ref a/\H2 a=some (.ins C dx fs)/\Cls K C/\NoAttr K C f/\fs.length < 1000 /\
 D.nx σ (upd H2 a (.ins C dx (Ai f y fs)))
noncomputable def Ov (X:Cx) (op:Operator) (rd:V->V->Hp->VK->Prop):Prop :=
 ∀ (pins:List (Addr×Obj)) (s:Shared) (σ:St) (H:Hp) (x y:V) (u v:Value) (Q:VK),Inv X pins σ H s->RelV x u->RelV y v->rd x y H Q->wpAny (model X.prog X.w) X.A (inplaceOp op u v) (EP X pins σ Q) X.xe s
noncomputable def Zgp (K:O7) (ta tv:TE) (rd:V->V->Hp->VK->Prop) (f:Str):TS:=fun D σ H=>ta σ H fun x H1=>∃ a C dx fs v,x=.ref a/\H1 a=some (.ins C dx fs)/\Cls K C/\NoAttr K C f/\fs.lookup f=some v /\
 tv σ H1 fun y H2=>rd v y H2 fun z H3=>∃ dx' fs',H3 a=some (.ins C dx' fs')/\fs'.length < 1000/\D.nx σ (upd H3 a (.ins C dx' (Ai f z fs')))
section
variable {X:Cx} {o e value:Expr} {f:Str} {pos pos' tpos:Pos} {ta tv:TE}
theorem Zn4 (he:PE X e ta) (hb:attributeBase e f X.env (eval e X.env)=eval e X.env):PE X (.Attribute e f pos) (Zbb X.K ta f):=by
 intro pins s σ H Q I h
 refine Znp hb (Am (he pins s σ H _ I h) fun u s1 ⟨x,H1,I1,rx,a,C,dx,fs,v,ex,ea,c,n,l,q⟩=>?_)
 subst ex
 obtain rfl:u=Value.ref a:=rx
 exact Zcu I1 ea c n l fun u' s2 I2 ru=>⟨v,H1,I2,ru,q⟩
theorem Zj1 (ha:PE X o ta) (hv:PE X value tv) (hs:swapsWith value (some (.Attribute o f pos')) pos.line X.env=pure false):PS X (.Assign [.Attribute o f pos'] value pos) (L6 X.K ta tv f):=by
 intro pins s σ H D I h
 refine plainObj_wpAny_Assign_Attribute (Am (hv pins s σ H _ I h) fun u s1 ⟨y,H1,I1,ry,q⟩=>Am (ha pins s1 σ H1 _ I1 q) fun ov s2 ⟨x,H2,I2,rx,a,C,dx,fs,ex,ea,c,n,l,q2⟩=>?_) hs
 subst ex
 obtain rfl:ov=Value.ref a:=rx
 exact Zb8 I2 ea c n l ry fun s3 I3=>⟨σ,_,I3,q2⟩
theorem Zjk {op:Operator} {rd:V->V->Hp->VK->Prop} (ha:PE X o ta) (hv:PE X value tv) (hop:Ov X op rd):PS X (.AugAssign (.Attribute o f tpos) op value pos) (Zgp X.K ta tv rd f):=by
 intro pins s σ H D I h
 refine wpAny_AugAssign_AttributeAny (Am (ha pins s σ H _ I h) fun ov s1 ⟨x,H1,I1,rx,a,C,dx,fs,v,ex,ea,c,n,l,q⟩=>?_)
 subst ex
 obtain rfl:ov=Value.ref a:=rx
 refine Zcu I1 ea c n l fun u s2 I2 ru=>Am (hv pins s2 σ H1 _ I2 q) fun w3 s3 ⟨y,H2,I3,ry,q3⟩=>Am (hop pins s3 σ H2 v y u w3 _ I3 ru ry q3) fun w4 s4 ⟨z,H3,I4,rz,dx',fs',ea',l',q4⟩=>?_
 exact Zb8 I4 ea' c n l' rz fun s5 I5=>⟨σ,_,I5,q4⟩
noncomputable def rAdd:V->V->Hp->VK->Prop:=fun x y H Q=>∃ i j,x=.int i/\y=.int j/\Q (.int (i + j)) H
theorem Zhc:Ov X .Add rAdd:=by
 rintro pins s σ H x y u v Q I rx ry ⟨i,j,rfl,rfl,q⟩
 obtain ⟨t,rfl⟩:=(show ∃ t,u=Value.int i t from rx)
 obtain ⟨t',rfl⟩:=(show ∃ t',v=Value.int j t' from ry)
 exact PyProof.Rows.iadd_int ⟨.int (i + j),H,I.tok _,⟨_,rfl⟩,q⟩
end
section
variable {X:Cx} {pins:List (Addr×Obj)} {σ:St} {H:Hp} {s:Shared} {A:Around} {E:Value->Shared->Prop} {Q:Value->Shared->Prop} {c:Value} {b:Bool}
inductive Dk (K:O7) (H:Hp):V->Value->Prop where
 | non:Dk K H .non (.type "NoneType")
 | bl (x:Bool):Dk K H (.bl x) (.type "bool")
 | int (i:Int):Dk K H (.int i) (.type "int")
 | str (x:Str):Dk K H (.str x) (.type "str")
 | flt (x:UInt64):Dk K H (.flt x) (.type "float")
 | lst {a:Addr} {xs:List V} (e:H a=some (.lst xs)):Dk K H (.ref a) (.type "list")
 | frz {a:Addr} {o:Obj} {xs:List V} (e:H a=some (.frz o (.lst xs))):Dk K H (.ref a) (.type "list")
 | tup {a:Addr} {xs:List V} (e:H a=some (.tup xs)):Dk K H (.ref a) (.type "tuple")
 | dK {a:Addr} {kvs:List (Ao×V)} (e:H a=some (.dK kvs)):Dk K H (.ref a) (.type "dict")
 | dT {a:Addr} {kvs:List (List Ao×V)} (e:H a=some (.dT kvs)):Dk K H (.ref a) (.type "dict")
 | ins {a C dx:Addr} {fs:List (Str×V)} (e:H a=some (.ins C dx fs)) (cl:Cls K C) (ha:Px K (.ref C) "__class__" = some (some (.builtin "object.__class__")))
   (hn:Vr K (.builtin "object.__class__") "__get__" = some (some (.builtin "getset_descriptor.__get__"))) (htk:V1 K (.builtin "object.__class__")=some true)
   (hm:PySem.W.mroIn K C (.type "object")=some true):Dk K H (.ref a) (.ref C)
theorem Zjw {x:V} {u t:Value} (I:Inv X pins σ H s) (rx:RelV x u) (ty:Dk X.K H x t) (e:P4 X.K t c=some b) (h:∀ tk,Q (.bool b) { s with toks:=tk }) :
  wpAny (model X.prog X.w) A (call (.builtin "isinstance") [u,c]) Q E s:=by
 cases ty with
 | non=>cases (show u=Value.none from rx); exact Qb PySem.W.kitx_none I.kIn True.intro e (fun z=>nomatch z) h
 | bl y=>cases (show u=Value.bool y from rx); exact Qb PySem.W.kitx_bool I.kIn True.intro e (fun z=>nomatch z) h
 | int i=>obtain ⟨t,q⟩:=(show ∃ t,u=Value.int i t from rx); cases q; exact Qb PySem.W.kitx_int I.kIn True.intro e (fun z=>nomatch z) h
 | str y=>obtain ⟨t,q⟩:=(show ∃ t,u=Value.str y t from rx); cases q; exact Qb PySem.W.kitx_str I.kIn True.intro e (fun z=>nomatch z) h
 | flt y=>obtain ⟨t,q⟩:=(show ∃ t,u=Value.float y t from rx); cases q; exact Qb PySem.W.kitx_float I.kIn True.intro e (fun z=>nomatch z) h
 | @lst a xs ea =>
  cases (show u=Value.ref a from rx)
  obtain ⟨_,_,n,_,h1⟩:=(show ObjOk X.prog X.w H s.heap a (.lst xs) from I.hok a _ ea)
  exact Qb Vs I.kIn ⟨_,h1,rfl⟩ e (fun z=>nomatch z) h
 | @frz a ob xs ea =>
  cases (show u=Value.ref a from rx)
  obtain ⟨_,_,_,n,_,h1⟩:=(show ObjOk X.prog X.w H s.heap a (.frz ob (.lst xs)) from I.hok a _ ea)
  exact Qb Vs I.kIn ⟨_,h1,rfl⟩ e (fun z=>nomatch z) h
 | @tup a xs ea =>
  cases (show u=Value.ref a from rx)
  obtain ⟨_,_,_,p⟩:=(show ObjOk X.prog X.w H s.heap a (.tup xs) from I.hok a _ ea)
  obtain ⟨o,h1,h2,_⟩:=p
  exact Qb PySem.W.kitx_tuple I.kIn ⟨o,h1,h2⟩ e (fun z=>nomatch z) h
 | @dK a kvs ea =>
  cases (show u=Value.ref a from rx)
  obtain ⟨_,_,vs,_,p⟩:=(show ObjOk X.prog X.w H s.heap a (.dK kvs) from I.hok a _ ea)
  obtain ⟨o,es,ep,h1,h2,_⟩:=p
  exact Qb PySem.W.kitx_dict I.kIn ⟨o,h1,h2.1⟩ e (fun z=>nomatch z) h
 | @dT a kvs ea =>
  cases (show u=Value.ref a from rx)
  obtain ⟨_,_,xs,_,o,es,ep,h1,h2,_⟩:=(show ObjOk X.prog X.w H s.heap a (.dT kvs) from I.hok a _ ea)
  exact Qb PySem.W.kitx_dict I.kIn ⟨o,h1,h2.1⟩ e (fun z=>nomatch z) h
 | @ins a C dx fs ea cl ha hn htk hm =>
  cases (show u=Value.ref a from rx)
  obtain ⟨mA,O,_⟩:=Le I.hok ea
  obtain ⟨od,J,_⟩:=O.look
  exact Qb (PySem.W.kitx_own (cl.get _) cl.hd ha hn htk hm) I.kIn J e (fun z=>nomatch z) h
end
end L2
namespace L2
open PySem PySem.Spec PyProof.Rows
structure Room (k:Nat) (A:Around):Prop where
 hd:A.handled=none
 dp:A.depth + 3 * k + 5 < recursionLimit
 un:A.units + 16 * k + 200 < cLine
theorem Room.mono {j k:Nat} {A:Around} (r:Room k A) (h:j<=k):Room j A:=⟨r.hd,by have:=r.dp; omega,by have:=r.un; omega⟩
theorem Room.deeper {k:Nat} {A:Around} (r:Room (k + 1) A) (env:Env):Room k (A.deeper env) :=
 ⟨r.hd,by have:=r.dp; show A.depth + 1 + 3 * k + 5 < _; omega,by have:=r.un; show A.units + 3 + 16 * k + 200 < _; omega⟩
theorem Zl1 {A:Around} {C:Addr} {us:List Value} {kw:List (Str×Value)}:(A.under (.builtin "type.__call__" ⟨.ref C :: us,kw⟩)).depth=A.depth + 1:=by
 first | rfl | simp [Around.under,Code.weight,Code.isCreation,Code.isGuard,Code.isCaller,Code.frames,Code.isFrame,guardIds]
theorem Zrd {A:Around} {C:Addr} {us:List Value} {kw:List (Str×Value)}:(A.under (.builtin "type.__call__" ⟨.ref C :: us,kw⟩)).units=A.units + 1:=by
 first | rfl | simp [Around.under,Code.cUnits,Code.frames,Code.isFrame]
theorem Room.make {k:Nat} {A:Around} (r:Room (k + 1) A) (C:Addr) (us:List Value) (kw:List (Str×Value)):Room k (A.under (.builtin "type.__call__" ⟨.ref C :: us,kw⟩)) :=
 ⟨r.hd,by have:=r.dp; rw [Zl1]; omega,by have:=r.un; rw [Zrd]; omega⟩
theorem Room.depth {k:Nat} {A:Around} (r:Room k A):A.depth < recursionLimit:=by have:=r.dp; omega
noncomputable def La:TA:=fun _ H Q=>Q [] H
noncomputable def Zat (ta:TE) (tr:TA):TA:=fun σ H Q=>ta σ H fun x H1=>tr σ H1 fun xs H2=>Q (x :: xs) H2
section
variable {X:Cx} {e:Expr} {es:List Expr} {te:TE} {t:TA} {pos:Pos}
theorem Zdg:PA X [] La:=fun _ _ _ _ H Q I h=>Vt ⟨[],H,I,.nil,h⟩
theorem Zej (ha:PE X e te) (hr:PA X es t) (hs:starEach (e :: es) X.env=(false,eval e X.env) :: starEach es X.env:=by rfl):PA X (e :: es) (Zat te t):=by
 intro pos pins s σ H Q I h
 rw [hs]
 show wpAny _ _ (spliced ((false,eval e X.env) :: backTo pos (starEach es X.env))) _ _ s
 refine Vn (Am (ha pins s σ H _ I h) fun u s1 ⟨x,H1,I1,r1,q1⟩=>?_)
 exact Am (hr pos pins s1 σ H1 _ I1 q1) fun us s2 ⟨xs,H2,I2,r2,q2⟩=>⟨x :: xs,H2,I2,.cons r1 r2,q2⟩
noncomputable def On (t:TA):TE:=fun σ H Q=>t σ H fun xs H1=>xs.length<=sizeLine/\∀ p,H1 p=none->Q (.ref p) (upd H1 p (.tup xs))
noncomputable def Nw (t:TA):TE:=fun σ H Q=>t σ H fun xs H1=>xs.length<=sizeLine/\∀ p,H1 p=none->Q (.ref p) (upd H1 p (.lst xs))
theorem Zr3 {x1} (h:PA X es t):PE X (.Tuple es x1 pos) (On t):=by
 intro pins s σ H Q I hq
 refine wpAny_Tuple_spliced (Am (h pos pins s σ H _ I hq) fun us s1 ⟨xs,H1,I1,r,z,q⟩=>⟨by rw [<- r.length]; exact z,?_⟩)
 have hf:H1 s1.heap.objs.size=none:=I1.hok.fresh (Pa _)
 refine ⟨.ref s1.heap.objs.size,upd H1 s1.heap.objs.size (.tup xs),I1.laid (t':=s1.toks) (fun b u e=>Pd _ e) (Pa _) ?_,rfl,q _ hf⟩
 exact ⟨z,us,r,⟨_,Pp _ rfl,rfl,_,rfl⟩⟩
theorem Zq5 (h:PA X es t):PE X (.List es pos) (Nw t):=by
 intro pins s σ H Q I hq
 refine wpAny_List_spliced (Am (h pos pins s σ H _ I hq) fun us s1 ⟨xs,H1,I1,r,z,q⟩=>⟨by rw [<- r.length]; exact z,?_⟩)
 have hf:H1 s1.heap.objs.size=none:=I1.hok.fresh (Pa _)
 refine ⟨.ref s1.heap.objs.size,upd H1 s1.heap.objs.size (.lst xs),I1.laid (t':=s1.toks) (fun b u e=>Pd _ e) (Pa _) ?_,rfl,q _ hf⟩
 exact ⟨z,us,0,r,Pp _ rfl⟩
end
noncomputable abbrev Sp:=List V->Hp->VK->XK->Prop
noncomputable abbrev B7:=List Env->Hp->Shared->XK->Value->Shared->Prop
structure Env0 (P:Program) (w:World) (K:O7) (mg:Str->Option Value) (base:Heap) (A:Around) (outer:List Env) (s:Shared) (H:Hp):Prop where
 frames:A.frames=some outer
 mod:Mod K mg base
 bs:∀ b o,base.get? b=some o->s.heap.get? b=some o/\H b=none
 bsz:base.objs.size<=s.heap.objs.size
 funs:s.heap.FunFrames base outer
 frf:∀ b∈Bg outer,H b=none
 hok:HOk P w H s.heap
 bare:AllBare s.gens
noncomputable def CE (outer:List Env) (P:Program) (w:World) (H:Hp) (s:Shared) (Q:VK) (u:Value) (s':Shared):Prop :=
 ∃ v H',s'.os=s.os/\AllBare s'.gens/\Un (Bg outer) [] H H' s.heap s'.heap/\HOk P w H' s'.heap/\RelV v u/\Q v H'
noncomputable def CR (CX:B7) (outer:List Env) (P:Program) (w:World) (H:Hp) (s:Shared) (Q:VK) (E:XK) (r:Result) (s':Shared):Prop :=
 match r with
 | .ok (.ret u)=>CE outer P w H s Q u s'
 | .ok _=>False
 | .error e=>CX outer H s E e s'
structure FnOk (P:Program) (w:World) (K:O7) (mg:Str->Option Value) (base:Heap) (CX:B7) (k:Nat) (f:Addr) (fd:FuncData) (ps:List Str) (sp:Sp):Prop where
 len:∀ vs H Q E,sp vs H Q E->vs.length=ps.length
 run:∀ (A:Around) (outer:List Env) (s:Shared) (H:Hp) (args:Args) (us:List Value) (vs:List V) (Q:VK) (E:XK),Room k A->Env0 P w K mg base A outer s H->BindsTo s fd args (ps.zip us)->Vals vs us->sp vs H Q E ->
  codeAny (model P w) A (.call (.ref f) args) (CR CX outer P w H s Q E) s
theorem FnOk.imp {P:Program} {w:World} {K:O7} {mg:Str->Option Value} {base:Heap} {CX:B7} {k:Nat} {f:Addr} {fd:FuncData} {ps:List Str} {sp sp':Sp} (F:FnOk P w K mg base CX k f fd ps sp)
  (h:∀ vs H Q E,sp' vs H Q E->sp vs H Q E):FnOk P w K mg base CX k f fd ps sp' :=
 ⟨fun vs H Q E q=>F.len vs H Q E (h _ _ _ _ q),fun A outer s H args us vs Q E hr he hb hv hs=>F.run A outer s H args us vs Q E hr he hb hv (h _ _ _ _ hs)⟩
theorem Env0.make {P:Program} {w:World} {K:O7} {mg:Str->Option Value} {base:Heap} {A:Around} {outer:List Env} {s:Shared} {H:Hp} (e:Env0 P w K mg base A outer s H) (C:Addr) (us:List Value) (kw:List (Str×Value)) :
  Env0 P w K mg base (A.under (.builtin "type.__call__" ⟨.ref C :: us,kw⟩)) outer s H:=⟨by first | exact e.frames | (simpa [Around.under,Code.envs,Code.isFrame,pushEnvs] using e.frames),e.mod,e.bs,e.bsz,e.funs,e.frf,e.hok,e.bare⟩
section
variable {X:Cx} {pins:List (Addr×Obj)} {σ:St} {H:Hp} {s s':Shared}
theorem Inv.env0 (I:Inv X pins σ H s):Env0 X.prog X.w X.K X.mg X.base X.A X.stack s H :=
 ⟨I.ok.frames,I.ok.mod,I.bs,P3 I.ok.bsz I.sz,I.stack,I.stkFree,I.hok,I.bare⟩
theorem Inv.after {Q:VK} {u:Value} (I:Inv X pins σ H s) (h:CE X.stack X.prog X.w H s Q u s'):EP X pins σ Q u s':=by
 obtain ⟨v,H',os,bare,un,hok,r,q⟩:=h
 obtain ⟨hh,g,d,t,os'⟩:=s'
 obtain rfl:os'=s.os:=os
 exact ⟨v,H',I.call (h':=hh) (g':=g) (d':=d) (t':=t) (ch:=[]) un hok bare (fun b z=>absurd z (by simp)),r,q⟩
end
noncomputable def Jf (sp:Sp) (dvs:List V) (E:XK) (t:TA):TE:=fun σ H Q=>t σ H fun vs H1=>sp (vs++dvs) H1 Q E
noncomputable def Binds (K:O7) (fd:FuncData) (ps:List Str) (ds:List Value):Prop :=
 ∀ (s:Shared) (us:List Value),K.In s.heap->(us++ds).length=ps.length->BindsTo s fd ⟨us,[]⟩ (ps.zip (us++ds))
theorem Binds.all {K:O7} {fd:FuncData} {ps:List Str} (h:∀ us:List Value,us.length=ps.length->bindArgs fd ⟨us,[]⟩=pure (ps.zip us)):Binds K fd ps []:=fun s us _ hl=>by
 rw [P5] at hl ⊢
 exact .of_eq (h us hl)
noncomputable def E9 (CX:B7) (X:Cx) (E:XK):Prop:=∀ (pins:List (Addr×Obj)) (σ:St) (H:Hp) (s:Shared) (e:Value) (s':Shared),Inv X pins σ H s->CX X.stack H s E e s'->X.xe e s'
section
variable {X:Cx} {CX:B7} {k:Nat} {f C:Addr} {fd:FuncData} {ps:List Str} {sp:Sp} {dvs:List V} {ds:List Value} {E:XK} {x m:Str} {p pos apos:Pos} {e o:Expr} {es:List Expr} {ta:TE} {t:TA}
theorem Zbq {pins:List (Addr×Obj)} {σ:St} {H:Hp} {s:Shared} {Q:VK} {us:List Value} {vs:List V} (F:FnOk X.prog X.w X.K X.mg X.base CX k f fd ps sp) (hr:Room k X.A) (hb:Binds X.K fd ps ds) (hd:Vals dvs ds) (hx:E9 CX X E)
  (I:Inv X pins σ H s) (r:Vals vs us) (h:sp (vs++dvs) H Q E):wpAny (model X.prog X.w) X.A (call (.ref f) us) (EP X pins σ Q) X.xe s:=by
 have r2:Vals (vs++dvs) (us++ds):=r.append hd
 have hl:(us++ds).length=ps.length:=by rw [<- r2.length]; exact F.len _ _ _ _ h
 refine Tq (R6 (F.run X.A X.stack s H ⟨us,[]⟩ (us++ds) (vs++dvs) Q E hr I.env0 (hb s us I.kIn hl) r2 h) fun r s' hq=>?_)
 cases r with
 | error e=>exact hx pins σ H s e s' I hq
 | ok fl =>
  cases fl with
  | ret u=>exact I.after hq
  | next=>exact P6 hq
  | brk=>exact P6 hq
  | cont=>exact P6 hq
theorem Zg7 (F:FnOk X.prog X.w X.K X.mg X.base CX k f fd ps sp) (hr:Room k X.A) (hg:Gl X x) (hm:X.mg x=some (.ref f)) (hk:Q6 X.K (.ref f)=true) (hb:Binds X.K fd ps ds) (hd:Vals dvs ds) (hx:E9 CX X E)
  (ha:PA X (e :: es) t) (hdb:(x == ("__debug__" : Str))=false:=by decide) (he:starEach (e :: es) X.env=(false,eval e X.env) :: starEach es X.env:=by rfl) (hpl:(backTo pos (starEach es X.env)).any (·.1)=false:=by rfl) :
  PE X (.Call (.Name x p) (e :: es) [] pos) (Jf sp dvs E t):=by
 intro pins s σ H Q I h
 refine S9 (Hw I hg hm ?_ hdb)
 refine Uj (h₀:=X.base) I.ok.mod.kin hk (Am (ha pos pins s σ H _ I h) fun us s1 ⟨vs,H1,I1,r,q⟩=>⟨I1.kIn,?_⟩) he hpl
 exact Zbq F hr hb hd hx I1 r q
structure Mk (K:O7) (C f:Addr):Prop where
 makes:V0 K C=true
 init:Px K (.ref C) "__init__" = some (some (.ref f))
 fn:U3 K (.ref f)=true
 kp:Q6 K (.ref C)=true
theorem Znv {pins:List (Addr×Obj)} {σ:St} {H:Hp} {s:Shared} {Q:VK} {us:List Value} {vs:List V} (M:Mk X.K C f) (F:FnOk X.prog X.w X.K X.mg X.base CX k f fd ps sp) (hr:Room (k + 1) X.A) (hb:Binds X.K fd ps ds) (hd:Vals dvs ds)
  (hx:E9 CX X E) (I:Inv X pins σ H s) (r:Vals vs us)
  (h:∀ x dx,H x=none->H dx=none->dx≠x->sp (.ref x :: (vs++dvs)) (upd (upd H dx (.own x)) x (.ins C dx [])) (fun v H2=>v=.non/\Q (.ref x) H2) E) :
  wpAny (model X.prog X.w) X.A (call (.ref C) us) (EP X pins σ Q) X.xe s:=by
 have hq:=h (s.heap.objs.size + 1) s.heap.objs.size (I.hok.fresh (U8 _)) (I.hok.fresh (Pa _)) (Pl (Td _))
 have I2:=Inv.made (C:=C) I
 have r2:Vals (V.ref (s.heap.objs.size + 1) :: (vs++dvs)) (Value.ref (s.heap.objs.size + 1) :: (us++ds)):=.cons rfl (r.append hd)
 have hl:(Value.ref (s.heap.objs.size + 1) :: us++ds).length=ps.length:=by
  have e:=r2.length
  rw [F.len _ _ _ _ hq] at e
  exact e.symm
 refine Tq (Zr4 (f:=f) I.kIn M.makes M.init (beq_iff_eq.mp M.fn) (R6 (F.run _ X.stack _ _ ⟨Value.ref (s.heap.objs.size + 1) :: us,[]⟩ (Value.ref (s.heap.objs.size + 1) :: (us++ds)) _ _ E (hr.make C us [])
  (I2.env0.make C us []) (hb _ (Value.ref (s.heap.objs.size + 1) :: us) I2.kIn hl) r2 hq) fun r s' hq'=>?_))
 cases r with
 | error e=>exact hx pins σ _ _ e s' I2 hq'
 | ok fl =>
  cases fl with
  | ret u =>
   obtain ⟨v,H',I3,rv,ev,q3⟩:=I2.after hq'
   subst ev
   exact ⟨rv,⟨V.ref (s.heap.objs.size + 1),H',I3,rfl,q3⟩⟩
  | next=>exact P6 hq'
  | brk=>exact P6 hq'
  | cont=>exact P6 hq'
end
section
variable {X:Cx} {CX:B7} {k:Nat} {f C:Addr} {fd:FuncData} {ps ks:List Str} {sp:Sp} {E:XK} {x m:Str} {p pos apos kpos:Pos} {e o:Expr} {es:List Expr} {kws:List Keyword} {te ta:TE} {t tk:TA} {nm:Option Str}
variable {g:List Value->List Value->List Value} {gV:List V->List V->List V}
end
structure A2 (N P:List Str) (sc:Scope):Prop where
 kind:sc.kind=.function
 co:sc.isCoroutine=false
 gen:sc.isGenerator=false
 nd:N.Nodup
 pre:N.take P.length=P
 par:∀ x∈P,sc.names.lookup x=some .local\/sc.names.lookup x=some .cell
 nofree:∀ y∈sc.names,y.2≠.free
theorem Zdo {kindOf:Str->Option NameKind} {x:Str}:∀ {binds:List (Str×Value)} {m:Str->Option Value},(∀ v,(x,v) ∉ binds)->bindL kindOf binds m x=m x
 | [],_,_=>rfl
 | (n,v) :: r,m,h=>by
  unfold bindL
  rw [Zdo fun w hw=>h w (Rk _ hw)]
  split
  ·have:x≠n:=by rintro rfl; exact h v Ui
   simp [this]
  ·rfl
theorem Zc4 {kindOf:Str->Option NameKind} {x:Str}:∀ {binds:List (Str×Value)} {m:Str->Option Value},(∀ v,(x,v) ∉ binds)->bindC kindOf binds m x=m x
 | [],_,_=>rfl
 | (n,v) :: r,m,h=>by
  unfold bindC
  rw [Zc4 fun w hw=>h w (Rk _ hw)]
  split
  ·rfl
  ·have:x≠n:=by rintro rfl; exact h v Ui
   simp [this]
theorem Zhl {kindOf:Str->Option NameKind} {x:Str} {v:Value}:∀ {P:List Str} {vs:List Value} {i:Nat} {m:Str->Option Value},P.Nodup->P[i]?=some x->vs[i]?=some v->kindOf x=some .local ->
  bindL kindOf (P.zip vs) m x=some v
 | [],_,_,_,_,h,_,_=>by simp at h
 | _ :: _,[],_,_,_,_,h,_=>by simp at h
 | p :: P,w :: vs,0,m,nd,h1,h2,hk=>by
  simp at h1 h2; subst h1; subst h2
  show bindL kindOf ((p,w) :: P.zip vs) m p=_
  unfold bindL
  rw [Zdo fun v hv=>(Uq.mp nd).1 (V2 hv).1,if_pos hk]
  simp
 | p :: P,w :: vs,i + 1,m,nd,h1,h2,hk=>by
  show bindL kindOf ((p,w) :: P.zip vs) m x=_
  unfold bindL
  exact Zhl (i:=i) (Uq.mp nd).2 (by simpa using h1) (by simpa using h2) hk
theorem Zdw {kindOf:Str->Option NameKind} {x:Str} {v:Value}:∀ {P:List Str} {vs:List Value} {i:Nat} {m:Str->Option Value},P.Nodup->P[i]?=some x->vs[i]?=some v->kindOf x≠some .local ->
  bindC kindOf (P.zip vs) m x=some v
 | [],_,_,_,_,h,_,_=>by simp at h
 | _ :: _,[],_,_,_,_,h,_=>by simp at h
 | p :: P,w :: vs,0,m,nd,h1,h2,hk=>by
  simp at h1 h2; subst h1; subst h2
  show bindC kindOf ((p,w) :: P.zip vs) m p=_
  unfold bindC
  rw [Zc4 fun v hv=>(Uq.mp nd).1 (V2 hv).1,if_neg hk]
  simp
 | p :: P,w :: vs,i + 1,m,nd,h1,h2,hk=>by
  show bindC kindOf ((p,w) :: P.zip vs) m x=_
  unfold bindC
  exact Zdw (i:=i) (Uq.mp nd).2 (by simpa using h1) (by simpa using h2) hk
noncomputable def Ex (N:List Str) (vs:List V):St:=vs.map some++P7 (N.length - vs.length) none
noncomputable def Dx (CX:B7) (P:Program) (w:World) (K:O7) (mg:Str->Option Value) (base:Heap) (N:List Str) (qual:Str) (scope:Scope) (f:Addr) (cd:Value) (A:Around) (outer:List Env) (s:Shared) (H:Hp) (E:XK):Cx where
 prog:=P
 w:=w
 K:=K
 mg:=mg
 base:=base
 A:=A.deeper (envOfC qual scope s.heap.objs.size f cd)
 N:=N
 s₀:=s
 H₀:=H
 env:=envOfC qual scope s.heap.objs.size f cd
 outer:=outer
 stack:=envOfC qual scope s.heap.objs.size f cd :: outer
 ex:=[]
 calm:=true
 fn:=fun _=>true
 pn:=[]
 xe:=fun e s'=>wpAny (model P w) (A.deeper (envOfC qual scope s.heap.objs.size f cd)) (leaving (envOfC qual scope s.heap.objs.size f cd) e) (fun _ s''=>CX outer H s E e s'') (fun e' s''=>CX outer H s E e' s'') s'
theorem Za6 {sc:Scope} {n:Nat} {x:Str} (h:sc.names.lookup x=some .cell):∃ c,(cellsFrom n sc.names []).lookup x=some c:=by
 have q:=PySem.W.cellsFrom_some sc.names n [] (.inl h)
 exact Su.mp q
theorem Zqu {CX:B7} {P:Program} {w:World} {K:O7} {mg:Str->Option Value} {base:Heap} {N ps:List Str} {qual:Str} {scope:Scope} {f:Addr} {cd:Value} {A:Around} {outer:List Env} {s s1:Shared} {H:Hp} {E:XK} {us:List Value} {vs:List V}
  (S:A2 N ps scope) (hd:A.handled=none) (e0:Env0 P w K mg base A outer s H) (hl:vs.length=ps.length) (r:Vals vs us)
  (x:InCallC s s.heap.objs.size (bindL (envOfC qual scope s.heap.objs.size f cd).kindOf (ps.zip us) fun _=>none) (cellsFrom (s.heap.objs.size + 1) scope.names []) (bindC (envOfC qual scope s.heap.objs.size f cd).kindOf (ps.zip us) fun _=>none) s1) :
  Inv (Dx CX P w K mg base N qual scope f cd A outer s H E) [] (Ex N vs) H s1:=by
 have hpl:ps.length<=N.length:=by have:=congrArg U9 S.pre; rw [Qi] at this; omega
 obtain ⟨h1,tk,rfl,hk⟩:=x.done
 have noA:∀ b:Addr,b ∉ (Dx CX P w K mg base N qual scope f cd A outer s H E).ex:=fun b z=>absurd (show b∈([]:List Addr) from z) (by simp)
 refine ⟨⟨e0.mod,S.kind,rfl,rfl,Pa _,fun y z c h1 h2=>?_,fun y hy=>?_,fun y c _ h=>?_,fun _=>hd,Around.frames_deeper e0.frames,.inr ⟨rfl,rfl⟩,fun b z=>absurd z (noA b),e0.bs,e0.bsz,fun b _ _=>noA b,fun b z=>absurd z (noA b),e0.funs,e0.frf⟩,
  rfl,e0.bare,Un.kept hk,⟨_,x.toInCall.ns,fun i y v h1 h2 h3=>?_⟩,fun y c h=>⟨_,x.cell y c h⟩,e0.hok.fresh (Pa _),fun y c h=>?_,fun p hp=>absurd (show p∈([]:List (Addr×Obj)) from hp) (by simp),e0.hok.kept hk,?_⟩
 ·exact name_of_addr x.apart (Ry h1) (Ry h2)
 ·have hy:scope.names.lookup y=some .cell\/scope.names.lookup y=some .free:=hy
  rcases hy with hy | hy
  ·exact Za6 hy
  ·exact absurd rfl (S.nofree _ (Ry hy))
 ·exact U2 (x.above y c (Ry h))
 ·have hi:i < vs.length:=by
   unfold Ex at h2
   by_cases hi:i < vs.length
   ·exact hi
   ·rw [Rb (by simpa using hi)] at h2
    rw [List.getElem?_replicate] at h2
    split at h2 <;> cases h2
  have ha:vs[i]?=some v:=by
   unfold Ex at h2
   rw [P0 (by simpa using hi),Qn] at h2
   cases e:vs[i]? with
   | none=>rw [e] at h2; cases h2
   | some a=>rw [e] at h2; cases h2; rfl
  obtain ⟨u,hu,rv⟩:=r.get ha
  have hp:ps[i]?=some y:=by
   rw [<- S.pre,List.getElem?_take_of_lt (by omega)]; exact h1
  have ndP:ps.Nodup:=by rw [<- S.pre]; exact S.nd.sublist (List.take_sublist _ _)
  refine ⟨u,rv,?_⟩
  rcases S.par y (Rl hp) with k | k
  ·exact .inl ⟨k,Zhl ndP hp hu k⟩
  ·obtain ⟨c,e⟩:=Za6 (n:=s.heap.objs.size + 1) k
   refine .inr ⟨.inl k,c,e,?_⟩
   have q:=x.cell y c e
   rw [Zdw ndP hp hu (by show scope.names.lookup y≠_; rw [k]; decide)] at q
   exact q
 ·exact e0.hok.fresh (U2 (x.above y c (Ry h)))
 ·unfold Ex
  show _=N.length
  rw [Pc,Pi,Sv]
  omega
theorem Zgy {CX:B7} {P:Program} {w:World} {K:O7} {mg:Str->Option Value} {base:Heap} {k:Nat} {f:Addr} {name qual:Str} {params:Arguments} {body:List Stmt} {scope:Scope} {dV kV doc pm cdv ct oc:Value} {an od:Option Addr}
  {osl:Array (Option Value)} {N ps:List Str} {sp:Sp} (lk:K.lookup f=some ⟨oc,od,.func (Rr name qual params body scope dV kV doc pm an cdv ct),osl⟩) (hcd:PySem.W.codeIn K cdv qual=true) (S:A2 N ps scope)
  (len:∀ vs H Q E,sp vs H Q E->vs.length=ps.length)
  (hbody:∀ (A:Around) (outer:List Env) (s:Shared) (H:Hp) (vs:List V) (Q:VK) (E:XK),Room k (A.deeper (envOfC qual scope s.heap.objs.size f cdv))->sp vs H Q E ->
   ∃ t,PSs (Dx CX P w K mg base N qual scope f cdv A outer s H E) body t/\t { nx:=fun _ H'=>Q .non H',rt:=Q } (Ex N vs) H) :
  FnOk P w K mg base CX (k + 1) f (Rr name qual params body scope dV kV doc pm an cdv ct) ps sp:=by
 refine ⟨len,fun A outer s H args us vs Q E hr e0 hb r hsp=>?_⟩
 have hl:=len _ _ _ _ hsp
 have KX:K.In s.heap:=e0.mod.kin.keeps fun b o e=>(e0.bs b o e).1
 have lim:s.heap.NoLimit:=e0.mod.nolimit.keeps fun b o e=>(e0.bs b o e).1
 have hkind:∀ y∈ps.zip us,scope.names.lookup y.1=some .local\/(scope.names.lookup y.1=some .cell/\((cellsFrom (s.heap.objs.size + 1) scope.names []).lookup y.1).isSome=true):=fun ⟨n,v⟩ hy=>by
  rcases S.par n (V2 hy).1 with q | q
  ·exact .inl q
  ·exact .inr ⟨q,PySem.W.cellsFrom_some _ _ _ (.inl q)⟩
 refine codeAny_call_function hr.depth (KX _ _ lk) rfl S.co S.gen rfl (PySem.W.codeRec_of KX hcd) (hb _ _ _ _ ?_)
 refine wpAny_newFunctionEnv_cells S.kind hkind fun env he s1 x=>?_
 subst he
 refine ⟨lim.keeps x.toInCall.keep,codeAny_func ?_⟩
 obtain ⟨t,ht,hq⟩:=hbody A outer s H vs Q E (hr.deeper _) hsp
 have I:Inv (Dx CX P w K mg base N qual scope f cdv A outer s H E) [] (Ex N vs) H s1:=Zqu S hr.hd e0 hl r x
 refine Q9 (ht [] s1 (Ex N vs) H _ I hq) (fun fl s' hs=>?_) fun e s' hs=>hs
 have fin:∀ {σ':St} {H':Hp} {v:V} {u:Value},Inv (Dx CX P w K mg base N qual scope f cdv A outer s H E) [] σ' H' s'->RelV v u->Q v H'->CE outer P w H s Q u s' :=
  fun {σ' H' v u} J rv q=>⟨v,H',J.os,J.bare,J.base,J.hok,rv,q⟩
 cases fl with
 | ret u =>
  obtain ⟨v,σ',H',J,rv,q⟩:=hs
  exact fin J rv q
 | next =>
  obtain ⟨σ',H',J,q⟩:=hs
  exact fin (v:=V.non) (u:=Value.none) J rfl q
 | brk =>
  obtain ⟨_,_,_,q⟩:=hs
  exact P6 q
 | cont =>
  obtain ⟨_,_,_,q⟩:=hs
  exact P6 q
end L2
namespace L2
open PySem PySem.Spec PyProof.Rows
section
variable {X:Cx} {x:Str} {p pos:Pos} {e:Expr} {es:List Expr} {t:TA} {id T:String} {r:List V->Hp->VK->Prop}
noncomputable def tCB (r:List V->Hp->VK->Prop) (t:TA):TE:=fun σ H Q=>t σ H fun vs H1=>r vs H1 Q
theorem Zqk (hc:Ct X (.builtin id) r) (hg:Gl X x) (hm:X.mg x=none) (hv:bootBuiltins x=some (.builtin id)) (ha:PA X (e :: es) t) (hn:x ≠ "__name__" := by decide) (hdb:(x == ("__debug__" : Str))=false:=by decide)
  (he:starEach (e :: es) X.env=(false,eval e X.env) :: starEach es X.env:=by rfl) (hpl:(backTo pos (starEach es X.env)).any (·.1)=false:=by rfl):PE X (.Call (.Name x p) (e :: es) [] pos) (tCB r t):=by
 intro pins s σ H Q I h
 refine S9 (Ej I hg hm hv ?_ hn hdb)
 exact PyProof.Rows.callWith_builtin1 (Am (ha pos pins s σ H _ I h) fun us s1 ⟨vs,H1,I1,r1,q1⟩=>hc pins s1 σ H1 vs us Q I1 r1 q1) he hpl
theorem Zlh (hc:Ct X (.type T) r) (hg:Gl X x) (hm:X.mg x=none) (hv:bootBuiltins x=some (.type T)) (ha:PA X (e :: es) t) (hn:x ≠ "__name__" := by decide) (hdb:(x == ("__debug__" : Str))=false:=by decide)
  (he:starEach (e :: es) X.env=(false,eval e X.env) :: starEach es X.env:=by rfl) (hpl:(backTo pos (starEach es X.env)).any (·.1)=false:=by rfl):PE X (.Call (.Name x p) (e :: es) [] pos) (tCB r t):=by
 intro pins s σ H Q I h
 refine S9 (Ej I hg hm hv ?_ hn hdb)
 exact Ra (Am (ha pos pins s σ H _ I h) fun us s1 ⟨vs,H1,I1,r1,q1⟩=>hc pins s1 σ H1 vs us Q I1 r1 q1) he hpl
end
end L2
namespace HT
open PySem PyProof.Rows
section
open PySem.SeqAt
open PySem.AutoSeq1 (wpAny_loadPart')
open PySem.MeetsSeq PySem.MeetsSeq2 PySem.MeetsSeq3
end
section
variable {prog:Program} {w:World} {A:Around} {E:Value->Shared->Prop} {s:Shared}
theorem cat_tup {t b:Addr} {vs ws:List Value} {Q:Value->Shared->Prop} (ht:IsTup s.heap t vs.toArray) (hb:IsTup s.heap b ws.toArray) (hv:vs≠[])
  (h1:ws=[]->Q (.ref t) s) (h2:ws≠[]->Q (.ref s.heap.objs.size) { s with heap:=s.heap.push { cls:=.type "tuple",data:=.seq (vs++ws).toArray } })
  (hsz:vs.length + ws.length<=sizeLine):wpAny (model prog w) A (binaryOp .Add (.ref t) (.ref b)) Q E s:=by
 obtain ⟨⟨cls,dd,data,sl⟩,ho,hc,n,hd⟩:=id ht
 obtain ⟨⟨cls2,dd2,data2,sl2⟩,ho2,hc2,n2,hd2⟩:=id hb
 simp only at hc hd hc2 hd2
 subst hc hd hc2 hd2
 have e:vs.toArray++ws.toArray=(vs++ws).toArray:=by simp
 by_cases hw:ws=[]
 ·exact U4 ⟨_,ho,rfl⟩ ⟨_,ho2,rfl⟩ Uo Uy Uc T8 (T3 _ _)
   (tuple_addW1 t b vs.toArray ws.toArray n n2 dd dd2 sl sl2 (by simpa using hv) (by simp [hw])) ⟨ho,ho2,h1 hw⟩
 ·refine U4 ⟨_,ho,rfl⟩ ⟨_,ho2,rfl⟩ Uo Uy Uc T8 (T3 _ _)
   (tuple_addW2 t b vs.toArray ws.toArray n n2 dd dd2 sl sl2 (by simpa using hv) (by simpa using hw) (by rw [Pf,Pf]; exact hsz)) ⟨ho,ho2,?_⟩
  rw [e]
  exact h2 hw
noncomputable def sIx (n d:Nat):Option Int->Nat
 | none=>d
 | some v=>if v < 0 then (v + (n:Int)).toNat else min v.toNat n
theorem sIx_none (n d:Nat):sIx n d none=d:=rfl
theorem sIx_nat (n d k:Nat):sIx n d (some (k:Int))=min k n:=by
 show (if (k:Int) < 0 then ((k:Int) + (n:Int)).toNat else min (k:Int).toNat n)=min k n
 rw [if_neg (by omega),Rf]
theorem Zso (n d:Nat) (hd:d<=n) (o:Option Int):sIx n d o<=n:=by
 cases o with
 | none=>exact hd
 | some v =>
  show (if v < 0 then (v + (n:Int)).toNat else min v.toNat n)<=n
  by_cases hv:v < 0
  ·rw [if_pos hv]; omega
  ·rw [if_neg hv]; exact Nat.min_le_right _ _
theorem Zgg (v:Int) (n d:Nat):(if v < 0 then max (v + (n:Int)) 0 else min v (n:Int))=((sIx n d (some v):Nat):Int):=by
 show (if v < 0 then max (v + (n:Int)) 0 else min v (n:Int))=(((if v < 0 then (v + (n:Int)).toNat else min v.toNat n):Nat):Int)
 by_cases hv:v < 0
 ·simp only [if_pos hv]; omega
 ·simp only [if_neg hv]; omega
theorem Zkl (lo hi:Option Int) (n:Nat):Vd lo hi 1 (n:Int)=(((sIx n 0 lo:Nat):Int),((sIx n n hi:Nat):Int)):=by
 have h1:¬ ((1:Int) < 0):=by omega
 unfold Vd
 simp only [h1,if_false]
 refine Prod.ext ?_ ?_
 ·cases lo with
  | none=>rfl
  | some v=>exact Zgg v n 0
 ·cases hi with
  | none=>rfl
  | some v=>exact Zgg v n n
theorem Zre (i j:Nat):T1 (i:Int) (j:Int) 1=j - i:=by
 unfold T1
 have h1:(1:Int) > 0:=by omega
 simp only [h1,if_true,Int.ediv_one]
 split <;> omega
theorem Zfv {v:Value} {o:Option Int} {Q:Option Int->Shared->Prop} (p:IsPart v o) (h:Q o s):wpAny (model prog w) A (Builtin.Slice.slicePartIndex v) Q E s:=by
 cases p with
 | none=>exact slicePart_none h
 | int i t=>exact slicePart_int h
theorem sliceApplied_gen {sl:Addr} {vl vu:Value} {lo hi:Option Int} {n:Nat} {Q:Int×Int×Nat->Shared->Prop} (hs:s.heap.IsSliceOf sl vl vu .none) (pl:IsPart vl lo) (pu:IsPart vu hi)
  (h:Q (((sIx n 0 lo:Nat):Int),1,sIx n n hi - sIx n 0 lo) s):wpAny (model prog w) A (Builtin.Slice.sliceApplied (.ref sl) (pure (n:Int))) Q E s:=by
 obtain ⟨os,hos,hcs,hds⟩:=id hs
 unfold Builtin.Slice.sliceApplied Builtin.Slice.sliceFields
 refine O8 (O8 (Pn hos hds (x:=vl) rfl (O8 (Pn hos hds (x:=vu) rfl (O8 (Pn hos hds (x:=.none) rfl (O9 ?_)))))))
 refine O8 (slicePart_none ?_)
 show wpAny _ _ (if ((1:Int) == 0)=true then _ else _) _ _ s
 rw [if_neg (by decide)]
 refine O8 (Zfv pl (O8 (Zfv pu (O8 (O9 ?_)))))
 show wpAny _ _ (match Vd lo hi 1 (n:Int) with | (lo,hi)=>pure (lo,(1:Int),T1 lo hi 1)) _ _ s
 rw [Zkl lo hi n]
 show wpAny _ _ (pure (((sIx n 0 lo:Nat):Int),(1:Int),T1 ((sIx n 0 lo:Nat):Int) ((sIx n n hi:Nat):Int) 1)) _ _ s
 rw [Zre]
 exact O9 h
theorem Zkq (xs:Array Value) (i k:Nat):((Pw k).filterMap fun (m:Nat)=>xs[((i:Int) + (m:Int) * 1).toNat]?).toArray=((xs.toList.drop i).take k).toArray:=by
 have e:(fun (m:Nat)=>xs[((i:Int) + (m:Int) * 1).toNat]?)=fun m=>xs[i + m]?:=by
  funext m
  have:((i:Int) + (m:Int) * 1).toNat=i + m:=by omega
  rw [this]
 rw [e]
 have:=pick_run xs i k
 rw [List.filterMap_map] at this
 have e2:((fun x=>xs[x]?) ∘ fun x=>i + x)=fun m=>xs[i + m]?:=rfl
 rw [e2] at this
 rw [this]
theorem getItem_tuple_cut {t sl:Addr} {items:Array Value} {vl vu:Value} {lo hi:Option Int} {Q:Value->Shared->Prop} (ht:IsTup s.heap t items) (hs:s.heap.IsSliceOf sl vl vu .none) (pl:IsPart vl lo) (pu:IsPart vu hi)
  (hw:¬ (sIx items.size 0 lo=0/\sIx items.size items.size hi=items.size))
  (h:Q (.ref s.heap.objs.size) { s with heap:=s.heap.push { cls:=.type "tuple",data:=.seq ((items.toList.drop (sIx items.size 0 lo)).take (sIx items.size items.size hi - sIx items.size 0 lo)).toArray } })
  (hsz:items.size<=sizeLine):wpAny (model prog w) A (getItem (.ref t) (.ref sl)) Q E s:=by
 have htake:sizeOk (.seq ((items.toList.drop (sIx items.size 0 lo)).take (sIx items.size items.size hi - sIx items.size 0 lo)).toArray):=by
  show ((items.toList.drop (sIx items.size 0 lo)).take (sIx items.size items.size hi - sIx items.size 0 lo)).toArray.size<=sizeLine
  rw [Pf,Qi,Se,Uh]
  omega
 have hj:sIx items.size items.size hi<=items.size:=Zso _ _ (Pa _) hi
 obtain ⟨os,hos,hcs,hds⟩:=id hs
 have hTs:s.TypeIs (.ref sl) "slice" := ⟨os,hos,hcs⟩
 unfold getItem
 try with_reducible refine Qr ?_
 first | refine O8 (O9 ?_) | skip
 refine O8 (wpAny_sequenceKey ht.typeIs (by decide) ?_)
 refine O8 (Qz (name:=Ql "__getitem__") ht.typeIs R8
  (Q4 R8 ht.typeIs entry_tuple_getitem ?_ (args_tuple_getitem _ _)))
 show wpAny _ _ (Builtin.Tuple.tupleItemsOf (.ref t) >>= _) _ _ s
 refine O8 (tupleItemsOf_ ht ?_)
 refine O8 (Sn hTs ?_)
 rw [if_pos (by decide)]
 refine O8 (sliceApplied_gen hs pl pu ?_)
 have hno:¬ ((((sIx items.size 0 lo:Nat):Int) == 0 && (1:Int) == 1 && (sIx items.size items.size hi - sIx items.size 0 lo) == items.size)=true):=by
  intro q
  rw [Q5,Q5] at q
  have q1:((sIx items.size 0 lo:Nat):Int)=0:=eq_of_beq q.1.1
  have q2:sIx items.size items.size hi - sIx items.size 0 lo=items.size:=eq_of_beq q.2
  exact hw ⟨by omega,by omega⟩
 show wpAny _ _ (if (((sIx items.size 0 lo:Nat):Int) == 0 && (1:Int) == 1 && (sIx items.size items.size hi - sIx items.size 0 lo) == items.size)=true then _ else _) _ _ s
 rw [if_neg hno,Zkq]
 first
  | exact O8 (m:=T4 _) (Rm (O9 ⟨_,rfl,O9 h⟩) htake)
  | exact O8 (m:=T4 _) (Rm (O8 (O9 (O9 ⟨_,rfl,O9 h⟩))) htake)
  | exact O8 (O8 (m:=T4 _) (Rm (O9 (O9 ⟨_,rfl,O9 h⟩)) htake))
  | exact O8 (O8 (m:=T4 _) (Rm (O9 ⟨_,rfl,O9 h⟩) htake))
end
end HT
namespace L2
open PySem PySem.Spec PyProof.Rows
noncomputable abbrev TO:=St->Hp->(Option Int->Hp->Prop)->Prop
noncomputable def PO (X:Cx) (e:Option Expr) (t:TO):Prop :=
 ∀ (pins:List (Addr×Obj)) (s:Shared) (σ:St) (H:Hp) (Q:Option Int->Hp->Prop),Inv X pins σ H s->t σ H Q ->
  wpAny (model X.prog X.w) X.A (evalPart e X.env) (fun u s'=>∃ o H',Inv X pins σ H' s'/\IsPart u o/\Q o H') X.xe s
noncomputable def Za1:TO:=fun _ H Q=>Q none H
noncomputable def Zbv (t:TE):TO:=fun σ H Q=>t σ H fun x H1=>∃ i,x=.int i/\Q (some i) H1
section
variable {X:Cx} {e:Expr} {te:TE} {lo hi:Option Expr} {tl th:TO} {pos p2:Pos}
theorem Zik:PO X none Za1:=by
 intro pins s σ H Q I h
 rw [evalPart_none]
 exact O9 ⟨none,H,I,.none,h⟩
theorem Zoz (h:PE X e te):PO X (some e) (Zbv te):=by
 intro pins s σ H Q I hw
 rw [evalPart_some]
 refine Am (h pins s σ H _ I hw) fun u s1 ⟨x,H1,I1,r1,q1⟩=>?_
 obtain ⟨i,rfl,q⟩:=q1
 obtain ⟨t,rfl⟩:=r1
 exact ⟨some i,H1,I1,.int i t,q⟩
noncomputable def SlR (X:Cx) (r:V->Option Int->Option Int->Hp->VK->Prop):Prop :=
 ∀ (pins:List (Addr×Obj)) (s:Shared) (σ:St) (H:Hp) (x:V) (v vl vu:Value) (lo hi:Option Int) (sl:Addr) (Q:VK),Inv X pins σ H s->RelV x v->s.heap.IsSliceOf sl vl vu .none->IsPart vl lo->IsPart vu hi->r x lo hi H Q ->
  ∃ T id,typeLookup (.type T) "__getitem__" = pure (some (.builtin id))/\s.TypeIs v T/\wpAny (model X.prog X.w) X.A (getItem v (.ref sl)) (EP X pins σ Q) X.xe s
theorem SlR.or {r r':V->Option Int->Option Int->Hp->VK->Prop} (h:SlR X r) (h':SlR X r'):SlR X (fun x lo hi H Q=>r x lo hi H Q\/r' x lo hi H Q):=by
 intro pins s σ H x v vl vu lo hi sl Q I rx hs pl pu q
 rcases q with q | q
 ·exact h pins s σ H x v vl vu lo hi sl Q I rx hs pl pu q
 ·exact h' pins s σ H x v vl vu lo hi sl Q I rx hs pl pu q
noncomputable def tSl (r:V->Option Int->Option Int->Hp->VK->Prop) (te:TE) (tl th:TO):TE:=fun σ H Q=>te σ H fun x H1=>tl σ H1 fun l H2=>th σ H2 fun u H3=>r x l u H3 Q
theorem Zje {r:V->Option Int->Option Int->Hp->VK->Prop} (hr:SlR X r) (he:PE X e te) (hl:PO X lo tl) (hu:PO X hi th):PE X (.Subscript e (.Slice lo hi none p2) pos) (tSl r te tl th):=by
 intro pins s σ H Q I h
 refine Subscript_ (Am (he pins s σ H _ I h) fun v s1 ⟨x,H1,I1,r1,q1⟩=>?_)
 refine wpAny_Slice (Am (hl pins s1 σ H1 _ I1 q1) fun vl s2 ⟨l,H2,I2,pl,q2⟩=>Am (hu pins s2 σ H2 _ I2 q2) fun vu s3 ⟨u,H3,I3,pu,q3⟩=>?_)
 rw [evalPart_none]
 refine O9 ?_
 have I4:Inv X pins σ H3 { s3 with heap:=s3.heap.push { cls:=.type "slice",data:=.fields #[vl,vu,.none] } }:=I3.kept (t':=s3.toks) fun b ob q=>Pd _ q
 obtain ⟨T,id,hT,ht,hg⟩:=hr pins { s3 with heap:=s3.heap.push { cls:=.type "slice",data:=.fields #[vl,vu,.none] } } σ H3 x v vl vu l u s3.heap.objs.size Q I4 r1 (Heap.IsSliceOf.new ..) pl pu q3
 show wpAny (model X.prog X.w) X.A (subscriptTail e (.Slice lo hi none p2) v (.ref s3.heap.objs.size)) (EP X pins σ Q) X.xe { s3 with heap:=s3.heap.push { cls:=.type "slice",data:=.fields #[vl,vu,.none] } }
 exact tail_any (ops:=[.ref s3.heap.objs.size,v]) ht hT hg (by with_unfolding_all rfl)
noncomputable def Cf (xs:List V) (lo hi:Option Int):List V:=(xs.drop (HT.sIx xs.length 0 lo)).take (HT.sIx xs.length xs.length hi - HT.sIx xs.length 0 lo)
theorem Zeg (xs:List V) (lo hi:Option Int):(Cf xs lo hi).length<=xs.length:=by
 unfold Cf
 rw [Qi,Se]
 omega
noncomputable def rSlT (K:O7):V->Option Int->Option Int->Hp->VK->Prop:=fun x lo hi H Q=>∃ a xs,x=.ref a/\SqT K H a xs /\
 ¬ (HT.sIx xs.length 0 lo=0/\HT.sIx xs.length xs.length hi=xs.length)/\∀ p,H p=none->Q (.ref p) (upd H p (.tup (Cf xs lo hi)))
theorem Zhb:SlR X (rSlT X.K):=by
 intro pins s σ H x v vl vu lo hi sl Q I rx hs pl pu h
 obtain ⟨a,xs,rfl,hx,hw,q⟩:=h
 cases rx
 obtain ⟨its,r,ht,hz⟩:=I.tuple hx
 have hlen:its.toArray.size=xs.length:=by rw [Pf]; exact r.length.symm
 refine ⟨"tuple",_,R8.lookup,ht.typeIs,?_⟩
 refine HT.getItem_tuple_cut ht hs pl pu (by rw [hlen]; exact hw) ?_ (by rw [hlen]; exact hz)
 rw [hlen]
 refine ⟨.ref s.heap.objs.size,_,I.laid (t':=s.toks) (o:=.tup (Cf xs lo hi)) (fun b ob q=>Pd _ q) (Pa _) ?_,rfl,q _ (I.hok.fresh (Pa _))⟩
 exact ⟨P3 (Zeg xs lo hi) hz,_,(r.drop (HT.sIx xs.length 0 lo)).take (HT.sIx xs.length xs.length hi - HT.sIx xs.length 0 lo),IsTup.new _ _⟩
noncomputable def Zr0 (K:O7):R2:=fun x y H Q=>∃ a b xs ys,x=.ref a/\y=.ref b/\SqT K H a xs/\SqT K H b ys/\xs≠[]/\xs.length + ys.length<=sizeLine /\
 (ys=[]->Q (.ref a) H)/\(ys≠[]->∀ p,H p=none->Q (.ref p) (upd H p (.tup (xs++ys))))
theorem Vals.nil_iff {xs:List V} {us:List Value} (r:Vals xs us):us=[]↔xs=[]:=by
 cases r with
 | nil=>simp
 | cons _ _=>simp
theorem Zdr:OpR X (binaryOp .Add) (Zr0 X.K):=by
 intro pins s σ H x y v u Q I rx ry h
 obtain ⟨a,b,xs,ys,rfl,rfl,ha,hb,hx,hz,q1,q2⟩:=h
 cases rx
 cases ry
 obtain ⟨its,r1,p1,_⟩:=I.tuple ha
 obtain ⟨its2,r2,p2,_⟩:=I.tuple hb
 refine HT.cat_tup p1 p2 (fun z=>hx (r1.nil_iff.mp z)) (fun z=>⟨.ref a,H,I,rfl,q1 (r2.nil_iff.mp z)⟩) (fun z=>?_) (by rw [<- r1.length,<- r2.length]; exact hz)
 refine ⟨.ref s.heap.objs.size,_,I.laid (t':=s.toks) (o:=.tup (xs++ys)) (fun b ob q=>Pd _ q) (Pa _) ?_,rfl,q2 (fun w=>z (r2.nil_iff.mpr w)) _ (I.hok.fresh (Pa _))⟩
 exact ⟨by rw [Pc]; exact hz,_,r1.append r2,IsTup.new _ _⟩
end
end L2
namespace L2
open PySem PySem.Spec PyProof.Rows
noncomputable def Fd (n:Nat) (i:Int):Option Nat:=if 0<=i then (if i < n then some i.toNat else none) else if -(n:Int)<=i then some (i + n).toNat else none
noncomputable def Cm {α:Type} (xs:List α) (i:Int):Option α:=(Fd xs.length i).bind fun j=>xs[j]?
theorem Zqv {n:Nat} {i:Int} {j:Nat} (h:Fd n i=some j):seqIndex? i n=some j/\j < n/\-(n:Int)<=i/\i < n:=by
 unfold Fd at h
 by_cases h0:0<=i
 ·rw [if_pos h0] at h
  by_cases h1:i < n
  ·rw [if_pos h1] at h
   have e:i.toNat=j:=Qf h
   exact ⟨by rw [seqIndex_of h0 h1,e],by omega,by omega,h1⟩
  ·rw [if_neg h1] at h; cases h
 ·rw [if_neg h0] at h
  by_cases h1:-(n:Int)<=i
  ·rw [if_pos h1] at h
   have e:(i + n).toNat=j:=Qf h
   exact ⟨by rw [seqIndex_neg (by omega) h1,e],by omega,h1,by omega⟩
  ·rw [if_neg h1] at h; cases h
theorem Nj {α:Type} {xs:List α} {i:Int} {v:α} (h:Cm xs i=some v):∃ j,seqIndex? i xs.length=some j/\xs[j]?=some v/\j < xs.length/\-(xs.length:Int)<=i/\i < xs.length:=by
 unfold Cm at h
 cases e:Fd xs.length i with
 | none=>rw [e] at h; cases h
 | some j =>
  rw [e] at h
  obtain ⟨h1,h2,h3,h4⟩:=Zqv e
  exact ⟨j,h1,h,h2,h3,h4⟩
theorem Bc {α:Type} {xs:List α} {j:Nat} {v:α} (h:xs[j]?=some v):Cm xs (j:Int)=some v:=by
 have hj:j < xs.length:=(Pj.mp h).1
 have e:Fd xs.length (j:Int)=some j:=by
  unfold Fd
  rw [if_pos (by omega),if_pos (by omega)]; simp
 unfold Cm; rw [e]; exact h
noncomputable def Mx (b:Expr):Prop:=∀ o i,subscripted b false o i=operate [o,i] (getItem o i)
noncomputable def IxR (X:Cx) (r:R2):Prop :=
 ∀ (value slice:Expr) (pins:List (Addr×Obj)) (s:Shared) (σ:St) (H:Hp) (x y:V) (v u:Value) (Q:VK),Inv X pins σ H s->RelV x v->RelV y u->r x y H Q ->
  subscripted slice false v u=operate [v,u] (getItem v u)->wpAny (model X.prog X.w) X.A (subscriptTail value slice v u) (EP X pins σ Q) X.xe s
noncomputable def G8 (X:Cx) (id:String) (r:V->List V->Hp->VK->Prop):Prop :=
 ∀ (pins:List (Addr×Obj)) (s:Shared) (σ:St) (H:Hp) (x:V) (xs:List V) (v:Value) (us:List Value) (Q:VK),Inv X pins σ H s->RelV x v->Vals xs us->r x xs H Q ->
  wpAny (model X.prog X.w) X.A (call (.builtin id) (v :: us)) (EP X pins σ Q) X.xe s
section
variable {X:Cx} {a b:Expr} {ta tb:TE} {pos:Pos}
theorem IxR.or {r r':R2} (h:IxR X r) (h':IxR X r'):IxR X (fun x y H Q=>r x y H Q\/r' x y H Q):=by
 intro value slice pins s σ H x y v u Q I rx ry q hs
 rcases q with q | q
 ·exact h value slice pins s σ H x y v u Q I rx ry q hs
 ·exact h' value slice pins s σ H x y v u Q I rx ry q hs
theorem Ziy {r:R2} (hr:IxR X r) (ha:PE X a ta) (hb:PE X b tb) (hs:Mx b):PE X (.Subscript a b pos) (Ez r ta tb):=by
 intro pins s σ H Q I h
 exact Subscript_ (Ny ha hb I h fun v u s2 x y H2 I2 rx ry q=>hr a b pins s2 σ H2 x y v u Q I2 rx ry q (hs _ _))
noncomputable def rIxL (K:O7):R2:=fun x y H Q=>∃ p xs i v,x=.ref p/\y=.int i/\SqL K H p xs/\Cm xs i=some v/\Q v H
noncomputable def rIxT (K:O7):R2:=fun x y H Q=>∃ p xs i v,x=.ref p/\y=.int i/\SqT K H p xs/\Cm xs i=some v/\Q v H
noncomputable def rIxS:R2:=fun x y H Q=>∃ z i c,x=.str z/\y=.int i/\z.length<=sizeLine/\Cm z.cps.toList i=some c/\Q (.str ⟨#[c]⟩) H
theorem ix_list:IxR X (rIxL X.K):=by
 intro value slice pins s σ H x y v u Q I rx ry h hs
 obtain ⟨p,xs,i,z,rfl,rfl,hq,he,q⟩:=h
 cases rx
 obtain ⟨t,rfl⟩:=ry
 obtain ⟨its,r,pl,hz⟩:=I.list hq
 obtain ⟨j,h1,h2,h3,h4,h5⟩:=Nj he
 obtain ⟨w,ew,rw'⟩:=r.get h2
 have hl:=r.length
 have hn:=Kk
 have fin:EP X pins σ Q w s:=⟨z,H,I,rw',q⟩
 by_cases h0:0<=i
 ·have hj:i.toNat=j:=by
   rw [seqIndex_of h0 h5] at h1
   exact Qf h1
  exact item_listR pl.isList h0 (by omega) (by rw [hj]; simpa using ew) fin hs
 ·have hj:(i + (its.toArray.size:Int)).toNat=j:=by
   rw [seqIndex_neg (by omega) h4] at h1
   rw [Pf,<- hl]
   exact Qf h1
  exact subscriptTail_builtinR (x:=w) pl.isList.typeIs slot_list_getitem.lookup
   (wpAny_getItem_list_neg (Q:=fun r s'=>r=w/\EP X pins σ Q r s') pl.isList (by omega) (by rw [Pf] <;> omega) (by omega) (by rw [hj]; simpa using ew) ⟨rfl,fin⟩) hs
theorem ix_tup:IxR X (rIxT X.K):=by
 intro value slice pins s σ H x y v u Q I rx ry h hs
 obtain ⟨p,xs,i,z,rfl,rfl,hq,he,q⟩:=h
 cases rx
 obtain ⟨t,rfl⟩:=ry
 obtain ⟨its,r,pl,hz⟩:=I.tuple hq
 obtain ⟨j,h1,h2,h3,h4,h5⟩:=Nj he
 obtain ⟨w,ew,rw'⟩:=r.get h2
 have hl:=r.length
 have hn:=Kk
 have fin:EP X pins σ Q w s:=⟨z,H,I,rw',q⟩
 exact subscriptTail_builtinR (x:=w) pl.typeIs slot_tuple_getitem.lookup
  (getItem_tuple (j:=j) (Q:=fun r s'=>r=w/\EP X pins σ Q r s') pl (by omega) (by omega) (by rw [Pf,<- hl]; exact h1) (by simpa using ew) ⟨rfl,fin⟩) hs
theorem Zmz:IxR X rIxS:=by
 intro value slice pins s σ H x y v u Q I rx ry h hs
 obtain ⟨z,i,c,rfl,rfl,hz,he,q⟩:=h
 obtain ⟨t,rfl⟩:=rx
 obtain ⟨t',rfl⟩:=ry
 obtain ⟨j,h1,h2,h3,h4,h5⟩:=Nj he
 have hl:z.cps.toList.length=z.length:=by simp [Str.length]
 rw [hl] at h1 h4 h5
 have hn:=Kk
 exact tail_any (typeIs_str s z t) slot_str_getitem.lookup (getItem_str (c:=c) (by
  have e1:decide (i < -(2 ^ 63:Int))=false:=decide_eq_false (by omega)
  have e2:decide (i ≥ 2 ^ 63)=false:=decide_eq_false (by omega)
  rw [e1,e2,Bool.or_false]) (by rw [h1]; simpa using h2) ⟨.str ⟨#[c]⟩,H,I.tok _,⟨_,rfl⟩,q⟩) hs
noncomputable def Iq (K:O7):R2:=fun x y H Q=>rIxL K x y H Q\/rIxT K x y H Q\/rIxS x y H Q
theorem Zjt:IxR X (Iq X.K):=ix_list.or (ix_tup.or Zmz)
theorem Zp0 (lo hi:Option Int) (n:Nat):(sliceBounds lo hi none n).1=((HT.sIx n 0 lo:Nat):Int)/\(sliceBounds lo hi none n).2.1=((HT.sIx n n hi:Nat):Int)/\(sliceBounds lo hi none n).2.2=1:=by
 refine ⟨?_,?_,rfl⟩
 ·cases lo with
  | none=>simp [sliceBounds,HT.sIx]
  | some i =>
   simp only [sliceBounds,HT.sIx,Option.getD_none,show (1:Int) > 0 by decide,if_true]
   by_cases h:i < 0
   ·simp only [h,if_true] <;> omega
   ·simp only [h,if_false] <;> omega
 ·cases hi with
  | none=>simp [sliceBounds,HT.sIx]
  | some i =>
   simp only [sliceBounds,HT.sIx,Option.getD_none,show (1:Int) > 0 by decide,if_true]
   by_cases h:i < 0
   ·simp only [h,if_true] <;> omega
   ·simp only [h,if_false] <;> omega
theorem Zmb (its:List Value) (lo hi:Option Int):slicePick its.toArray lo hi none=((its.drop (HT.sIx its.length 0 lo)).take (HT.sIx its.length its.length hi - HT.sIx its.length 0 lo)).toArray:=by
 obtain ⟨h1,h2,h3⟩:=Zp0 lo hi its.toArray.size
 unfold slicePick
 rw [h1,h2,h3]
 simp only [sliceRange_one,pick_run,Pf] <;> rfl
noncomputable def Mv (K:O7):V->Option Int->Option Int->Hp->VK->Prop:=fun x lo hi H Q=>∃ a xs,x=.ref a/\SqL K H a xs/\∀ p,H p=none->Q (.ref p) (upd H p (.lst (Cf xs lo hi)))
theorem sl_list:SlR X (Mv X.K):=by
 intro pins s σ H x v vl vu lo hi sl Q I rx hs pl pu h
 obtain ⟨a,xs,rfl,hx,q⟩:=h
 cases rx
 obtain ⟨its,r,ht,hz⟩:=I.list hx
 have hlen:=r.length
 refine ⟨"list",_,slot_list_getitem.lookup,ht.isList.typeIs,?_⟩
 refine wpAny_getItem_list_slice ht.isList hs pl pu .none (by simp) ?_ (by rw [Pf] <;> omega)
 rw [Zmb,<- hlen]
 refine ⟨.ref s.heap.objs.size,_,I.laid (t':=s.toks) (o:=.lst (Cf xs lo hi)) (fun b ob q=>Pd _ q) (Pa _) ?_,rfl,q _ (I.hok.fresh (Pa _))⟩
 exact ⟨P3 (Zeg xs lo hi) hz,_,0,(r.drop (HT.sIx xs.length 0 lo)).take (HT.sIx xs.length xs.length hi - HT.sIx xs.length 0 lo),Pp _ rfl⟩
noncomputable def Cu:V->Bool
 | .non=>true
 | .bl _=>true
 | .int _=>true
 | .str _=>true
 | _=>false
noncomputable def Dv:V->V->Bool
 | .non,.non=>true
 | .bl a,.bl b=>a == b
 | .bl a,.int b=>(if a then 1 else 0) == b
 | .int a,.bl b=>a == (if b then 1 else 0)
 | .int a,.int b=>a == b
 | .str a,.str b=>a == b
 | _,_=>false
theorem Nd {A:Around} {s:Shared} {y x:V} {u v:Value} (ry:RelV y u) (rx:RelV x v) (fy:Cu y=true) (fx:Cu x=true):Pt A s u v (Dv y x):=by
 cases y with
 | non =>
  cases ry
  cases x with
  | non=>cases rx; exact V3 _
  | bl b=>cases rx; exact Pt.none_bool b
  | int b=>obtain ⟨t,rfl⟩:=rx; exact Pt.none_int b t
  | str b=>obtain ⟨t,rfl⟩:=rx; exact Pt.none_str b t
  | _=>exact absurd (show false=true from fx) Pk
 | bl a =>
  cases ry
  cases x with
  | non=>cases rx; exact Pt.bool_none a
  | bl b=>cases rx; exact Pt.bool_bool a b
  | int b=>obtain ⟨t,rfl⟩:=rx; exact Pt.bool_int a b t
  | str b=>obtain ⟨t,rfl⟩:=rx; exact Pt.bool_str a b t
  | _=>exact absurd (show false=true from fx) Pk
 | int a =>
  obtain ⟨t',rfl⟩:=ry
  cases x with
  | non=>cases rx; exact Pt.int_none a t'
  | bl b=>cases rx; exact Pt.int_bool a t' b
  | int b=>obtain ⟨t,rfl⟩:=rx; exact Pt.int_int a t' b t
  | str b=>obtain ⟨t,rfl⟩:=rx; exact Pt.int_str a t' b t
  | _=>exact absurd (show false=true from fx) Pk
 | str a =>
  obtain ⟨t',rfl⟩:=ry
  cases x with
  | non=>cases rx; exact Pt.str_none a t'
  | bl b=>cases rx; exact Pt.str_bool a t' b
  | int b=>obtain ⟨t,rfl⟩:=rx; exact Pt.str_int a t' b t
  | str b=>obtain ⟨t,rfl⟩:=rx; exact Pt.str_str a t' b t
  | _=>exact absurd (show false=true from fx) Pk
 | _=>exact absurd (show false=true from fy) Pk
noncomputable def E8 (x:V) (u:Value):Bool:=match u with
 | .none=>Dv .non x
 | .bool b=>Dv (.bl b) x
 | .int i _=>Dv (.int i) x
 | .str z _=>Dv (.str z) x
 | _=>false
theorem Zgq {x y:V} {u:Value} (r:RelV y u) (f:Cu y=true):E8 x u=Dv y x:=by
 cases y with
 | non=>cases r; rfl
 | bl b=>cases r; rfl
 | int i=>obtain ⟨t,rfl⟩:=r; rfl
 | str z=>obtain ⟨t,rfl⟩:=r; rfl
 | _=>exact absurd (show false=true from f) Pk
theorem Na {x:V}:∀ {xs:List V} {us:List Value},Vals xs us->xs.all Cu=true->us.any (E8 x)=xs.any fun y=>Dv y x
 | _,_,.nil,_=>rfl
 | y :: xs,u :: us,.cons r t,f=>by
  rw [Q7,Q5] at f
  rw [To,To,Zgq r f.1,Na t f.2]
theorem Zbm {A:Around} {s:Shared} {x:V} {v:Value} (rx:RelV x v) (fx:Cu x=true):∀ {xs:List V} {us:List Value},Vals xs us->xs.all Cu=true->∀ u∈us,Pt A s u v (E8 x u)
 | _,_,.nil,_=>fun u hu=>by cases hu
 | y :: xs,u :: us,.cons r t,f=>fun u' hu=>by
  rw [Q7,Q5] at f
  rcases Pm.mp hu with rfl | hu
  ·rw [Zgq r f.1]; exact Nd r rx f.1 fx
  ·exact Zbm rx fx t f.2 u' hu
noncomputable def Eg (x:V) (xs:List V):Bool:=xs.any fun y=>Dv y x
noncomputable def rIn (K:O7) (neg:Bool):R2:=fun x y H Q=>∃ p xs,y=.ref p/\(SqL K H p xs\/SqT K H p xs)/\Cu x=true/\xs.all Cu=true/\Q (.bl (if neg then !Eg x xs else Eg x xs)) H
theorem op_in_seq:OpR X (compareOp .In) (rIn X.K false):=by
 intro pins s σ H x y v u Q I rx ry h
 obtain ⟨p,xs,rfl,hq,fx,fs,q⟩:=h
 cases ry
 rcases hq with hq | hq
 ·obtain ⟨its,r,pl,hz⟩:=I.list hq
  refine SeqAt.in_listAt (E8 x) pl.isList (fun w hw=>Zbm rx fx r fs w (by simpa using hw)) ⟨.bl _,H,I,rfl,?_⟩
  rw [show its.toArray.any (E8 x)=its.any (E8 x) by simp,Na r fs]
  exact q
 ·obtain ⟨its,r,pl,hz⟩:=I.tuple hq
  refine SeqAt.in_tupleAt (E8 x) pl (fun w hw=>Zbm rx fx r fs w (by simpa using hw)) ⟨.bl _,H,I,rfl,?_⟩
  rw [show its.toArray.any (E8 x)=its.any (E8 x) by simp,Na r fs]
  exact q
theorem Zro:Ct X (.type "list") (fun xs H Q=>∃ p ys,xs=[.ref p]/\(SqL X.K H p ys\/SqT X.K H p ys)/\∀ l,H l=none->Q (.ref l) (upd H l (.lst ys))):=by
 intro pins s σ H xs us Q I r h
 obtain ⟨p,ys,rfl,hq,q⟩:=h
 obtain ⟨u,rfl,rx⟩:=Jc r
 cases rx
 have fin:∀ (its:List Value),Vals ys its->ys.length<=sizeLine->∀ (h':Heap) (c':Nat),(∀ b o',s.heap.get? b=some o'->h'.get? b=some o') ->
   h'.get? s.heap.objs.size=some { cls:=.type "list",dict:=none,data:=.seq its.toArray c',slots:=#[] }->EP X pins σ Q (.ref s.heap.objs.size) { s with heap:=h' }:=fun its r' hz h' c' kp e =>
  ⟨.ref s.heap.objs.size,_,I.laid (t':=s.toks) kp (Pa _) (show ObjOk X.prog X.w _ h' _ (.lst ys) from ⟨hz,its,c',r',e⟩),rfl,q _ (I.hok.fresh (Pa _))⟩
 rcases hq with hq | hq
 ·obtain ⟨its,r',pl,hz⟩:=I.list hq
  have hlen:=r'.length
  obtain ⟨o,ho,hc,n,hd⟩:=pl.isList
  exact call_list_seq p (.inl rfl) ho hc hd (fun h' c' kp e=>fin its r' hz h' c' kp e) (by simp only [Pf] <;> omega)
 ·obtain ⟨its,r',pl,hz⟩:=I.tuple hq
  have hlen:=r'.length
  obtain ⟨o,ho,hc,n,hd⟩:=pl
  exact call_list_seq p (.inr rfl) ho hc hd (fun h' c' kp e=>fin its r' hz h' c' kp e) (by simp only [Pf] <;> omega)
noncomputable def Ie (K:O7) (T:String) (x:V) (H:Hp):Prop:=match x with
 | .str _=>T = "str"
 | .int _=>T = "int"
 | .ref p=>(T = "list" /\ ∃ xs,SqL K H p xs)\/(T = "tuple" /\ ∃ o,K.lookup p=some o/\o.cls=.type "tuple" /\ o.dict=none) \/
   (T = "dict" /\ ((∃ kvs,H p=some (.dK kvs))\/∃ kvs,H p=some (.dT kvs)))\/(T = "set" /\ ∃ S n,H p=some (.set S n))
 | _=>False
theorem Zcz {pins:List (Addr×Obj)} {σ:St} {H:Hp} {s:Shared} {T:String} {x:V} {v:Value} (I:Inv X pins σ H s) (r:RelV x v) (ty:Ie X.K T x H) :
  s.TypeIs v T/\∀ a,v=.ref a->∃ ob,s.heap.get? a=some ob/\ob.dict=none:=by
 cases x with
 | str z =>
  obtain ⟨t,rfl⟩:=r
  cases (show T = "str" from ty)
  exact ⟨typeIs_str s z t,fun _ e=>nomatch e⟩
 | int i =>
  obtain ⟨t,rfl⟩:=r
  cases (show T = "int" from ty)
  exact ⟨typeIs_int s i t,fun _ e=>nomatch e⟩
 | ref p =>
  cases r
  rcases ty with ⟨rfl,xs,hq⟩ | ⟨rfl,o,hk,hc,hd⟩ | ⟨rfl,hk⟩ | ⟨rfl,S,n,hk⟩
  ·obtain ⟨its,_,pl,_⟩:=I.list hq
   refine ⟨pl.isList.typeIs,fun a e=>?_⟩
   cases e
   obtain ⟨o,n,e,c,hd,_⟩:=pl
   exact ⟨o,e,hd⟩
  ·refine ⟨⟨o,I.kIn p o hk,hc⟩,fun a e=>?_⟩
   cases e
   exact ⟨o,I.kIn _ o hk,hd⟩
  ·have z:∃ o,s.heap.get? p=some o/\o.ExactDict:=by
    rcases hk with ⟨kvs,hk⟩ | ⟨kvs,hk⟩
    ·obtain ⟨_,_,_,_,o,_,_,e,ex,_⟩:=I.hok p _ hk
     exact ⟨o,e,ex⟩
    ·obtain ⟨_,_,_,_,o,_,_,e,ex,_⟩:=I.hok p _ hk
     exact ⟨o,e,ex⟩
   obtain ⟨o,e,ex⟩:=z
   refine ⟨⟨o,e,ex.1⟩,fun a e2=>?_⟩
   cases e2
   exact ⟨o,e,ex.2.1⟩
  ·obtain ⟨o,_,_,_,e,ex,_⟩:=I.hok p _ hk
   refine ⟨⟨o,e,ex.1⟩,fun a e2=>?_⟩
   cases e2
   exact ⟨o,e,ex.2.1⟩
 | _=>exact P6 ty
noncomputable def Lb (K:O7) (T:String) (r:V->List V->Hp->VK->Prop) (to:TE):TE:=fun σ H Q=>to σ H fun x H1=>Ie K T x H1/\r x [] H1 Q
noncomputable def tBM (K:O7) (T:String) (r:V->List V->Hp->VK->Prop) (to:TE) (t:TA):TE:=fun σ H Q=>to σ H fun x H1=>Ie K T x H1/\t σ H1 fun xs H2=>r x xs H2 Q
variable {o e:Expr} {es:List Expr} {to:TE} {t:TA} {name:Str} {apos cpos:Pos} {T id:String} {r:V->List V->Hp->VK->Prop}
theorem Zm4 (pa:PlainAttrs T) (slot:Slot T name id) (hty:typeOf (.builtin id)=pure (.type "method_descriptor")) (hm:G8 X id r) (ho:PE X o to)
  (hbase:attributeBase o name X.env (eval o X.env)=eval o X.env:=by rfl) (hline:(apos.endLine == cpos.line)=true:=by rfl):PE X (.Call (.Attribute o name apos) [] [] cpos) (Lb X.K T r to):=by
 intro pins s σ H Q I h
 refine wpAny_Call_method0_late hbase hline (Am (ho pins s σ H _ I h) fun v s1 ⟨x,H1,I1,r1,ty,q1⟩=>?_)
 obtain ⟨h1,h2⟩:=Zcz I1 r1 ty
 exact ⟨T,id,pa,slot,hty,h1,h2,Calls.callWith_builtin rfl (PySem.evalArgs_none (hm pins s1 σ H1 x [] v [] Q I1 r1 .nil q1))⟩
theorem Zlm (pa:PlainAttrs T) (slot:Slot T name id) (hty:typeOf (.builtin id)=pure (.type "method_descriptor")) (hm:G8 X id r) (ho:PE X o to) (ha:PA X (e :: es) t)
  (hbase:attributeBase o name X.env (eval o X.env)=eval o X.env:=by rfl)
  (hfew:((backTo cpos (starEach (e :: es) X.env)).all (fun x=>!x.1) && (backToKw cpos (keywordEach [] X.env)).all (fun x=>x.1.isSome)
   && decide ((e :: es).length + ([]:List Keyword).length + (if ([]:List Keyword).isEmpty then 0 else 1) < 30))=true:=by rfl)
  (hline:(apos.endLine == cpos.line)=true:=by rfl) (hs:starEach (e :: es) X.env=(false,eval e X.env) :: starEach es X.env:=by rfl) (hplain:(backTo cpos (starEach es X.env)).any (·.1)=false:=by rfl) :
  PE X (.Call (.Attribute o name apos) (e :: es) [] cpos) (tBM X.K T r to t):=by
 intro pins s σ H Q I h
 refine wpAny_Call_method_late hbase hfew hline rfl (Am (ho pins s σ H _ I h) fun v s1 ⟨x,H1,I1,r1,ty,q1⟩=>?_)
 obtain ⟨h1,h2⟩:=Zcz I1 r1 ty
 refine ⟨T,id,pa,slot,hty,h1,h2,?_⟩
 have hA:=ha cpos pins s1 σ H1 _ I1 q1
 rw [hs] at hA ⊢
 refine Calls.callWith_builtin (by show (false || (backTo cpos (starEach es X.env)).any (·.1))=false; rw [hplain] <;> rfl) (Calls.evalArgs_plain ?_)
 exact Am hA fun us s2 ⟨vs,H2,I2,r2,q2⟩=>hm pins s2 σ H2 x vs v us Q I2 r1 r2 q2
end
end L2
namespace L2
open PySem PySem.Spec PyProof.Rows
noncomputable def MtM (X:Cx) (id:String) (r:V->List V->Hp->VK->Prop):Prop :=
 ∀ (pins:List (Addr×Obj)) (s:Shared) (σ:St) (H:Hp) (x:V) (xs:List V) (v:Value) (us:List Value) (Q:VK),Inv X pins σ H s->RelV x v->Vals xs us->r x xs H Q ->
  wpAny (model X.prog X.w) X.A (call (.builtin id) (v :: us)) (EP X pins σ Q) X.xe s
theorem Vals.one:∀ {x:V} {us:List Value},Vals [x] us->∃ u,us=[u]/\RelV x u
 | _,_,.cons r .nil=>⟨_,rfl,r⟩
theorem Vals.two:∀ {x y:V} {us:List Value},Vals [x,y] us->∃ u v,us=[u,v]/\RelV x u/\RelV y v
 | _,_,_,.cons r (.cons q .nil)=>⟨_,_,rfl,r,q⟩
theorem Vals.zero:∀ {us:List Value},Vals [] us->us=[]
 | _,.nil=>rfl
theorem Vals.dropLast {xs:List V} {us:List Value} (h:Vals xs us):Vals xs.dropLast us.dropLast:=by
 induction h with
 | nil=>exact .nil
 | cons r t ih =>
  cases t with
  | nil=>exact .nil
  | cons q t'=>exact .cons r ih
theorem Vals.rep {xs:List V} {us:List Value} (h:Vals xs us):∀ k:Nat,Vals (P7 k xs).flatten (P7 k us).flatten
 | 0=>.nil
 | k + 1=>by
  rw [Sy,Sy,Um,Um]
  exact Vals.append h (Vals.rep h k)
theorem Zlf {α:Type} (l:List α):l.eraseIdx (l.length - 1)=l.dropLast:=by
 induction l with
 | nil=>rfl
 | cons a r ih =>
  cases r with
  | nil=>rfl
  | cons b r =>
   have e:(a :: b :: r).length - 1=((b :: r).length - 1) + 1:=by
    have h1:(a :: b :: r).length=r.length + 2:=rfl
    have h2:(b :: r).length=r.length + 1:=rfl
    omega
   rw [e,List.eraseIdx_cons_succ,ih]
   all_goals rfl
theorem Zf9 (its:List Value):∀ (k:Nat) (acc:List Value),
  List.foldl (fun x1 x2=>x1++x2) acc.toArray (P7 k its.toArray)=(acc++(P7 k its).flatten).toArray
 | 0,acc=>by simp
 | k + 1,acc=>by
  have e:acc.toArray++its.toArray=(acc++its).toArray:=by simp
  have e2:(acc++its)++(P7 k its).flatten=acc++(P7 (k + 1) its).flatten:=by
   rw [Sy,Um,Qe]
  rw [<- e2,<- Zf9 its k (acc++its),<- e,Sy,List.foldl_cons]
section
variable {X:Cx} {pins:List (Addr×Obj)} {σ:St} {H:Hp} {s:Shared} {l b:Addr} {xs ys zs:List V}
theorem Inv.lset {its its':List Value} {n:Nat} {f:Array Value->Array Value} {t':Nat} (I:Inv X pins σ H s) (hH:H l=some (.lst xs))
  (e:s.heap.get? l=some { cls:=.type "list",data:=.seq its.toArray n }) (hf:f its.toArray=its'.toArray) (hv:Vals ys its') (hz:ys.length<=sizeLine) :
  Inv X pins σ (upd H l (.lst ys)) { s with heap:=s.heap.update l (Qs f),toks:=t' }:=by
 have q:=PySem.IsL.update e f
 rw [hf] at q
 refine I.write (x:=l) (e:=l) (by rw [hH]; exact trivial) (.inl rfl) (fun b' u hb hu=>(Q1 s.heap (Qs f) (Pg hb)).trans hu) ⟨_,q⟩ ?_
 exact ⟨hz,its',_,hv,q⟩
theorem Inv.lnew {its:List Value} {t':Nat} (I:Inv X pins σ H s) (hv:Vals ys its) (hz:ys.length<=sizeLine) :
  Inv X pins σ (upd H s.heap.objs.size (.lst ys)) { s with heap:=s.heap.push { cls:=.type "list",data:=.seq its.toArray },toks:=t' } :=
 I.laid (fun _ _ q=>Pd _ q) (Pa _) ⟨hz,its,0,hv,Pp _ rfl⟩
theorem Inv.fresh (I:Inv X pins σ H s):H s.heap.objs.size=none:=I.hok.fresh (Pa _)
theorem Inv.lstM (I:Inv X pins σ H s) (hH:H l=some (.lst xs)):xs.length<=sizeLine/\∃ (its:List Value) (n:Nat),Vals xs its/\xs.length=its.length/\s.heap.get? l=some { cls:=.type "list",data:=.seq its.toArray n }:=by
 obtain ⟨z,its,n,r,e⟩:=I.hok l _ hH
 exact ⟨z,its,n,r,r.length,e⟩
theorem Zdu {n:Nat} (h:n<=sizeLine):T6 n=false:=by
 unfold T6
 exact decide_eq_false (by omega)
end
section
variable {X:Cx}
noncomputable def Zef:V->List V->Hp->VK->Prop:=fun x vs H Q=>∃ l xs y,x=.ref l/\vs=[y]/\H l=some (.lst xs)/\xs.length < sizeLine/\Q .non (upd H l (.lst (xs++[y])))
theorem B6:MtM X "list.append" Zef:=by
 intro pins s σ H x vs v us Q I rx rv h
 obtain ⟨l,xs,y,rfl,rfl,hH,hz,q⟩:=h
 cases rx
 obtain ⟨u,rfl,ru⟩:=rv.one
 obtain ⟨z,its,n,r,hl,e⟩:=I.lstM hH
 refine Sq F.slot_list_append ⟨_,e,rfl⟩ F.entry_list_append (F.args_list_append_2 _ _) (PySem.list_append l its.toArray n u (by rw [Pf]; omega)) ⟨e,?_⟩
 refine ⟨.non,_,I.lset (its':=its++[u]) hH e (by simp) (r.append (.cons ru .nil)) ?_,rfl,q⟩
 rw [Pc,Ph]
 omega
noncomputable def Zsn:V->List V->Hp->VK->Prop:=fun x vs H Q=>∃ l b xs zs,x=.ref l/\vs=[.ref b]/\H l=some (.lst xs)/\H b=some (.lst zs)/\xs.length + zs.length<=sizeLine/\Q .non (upd H l (.lst (xs++zs)))
theorem Ng:MtM X "list.extend" Zsn:=by
 intro pins s σ H x vs v us Q I rx rv h
 obtain ⟨l,b,xs,zs,rfl,rfl,hH,hB,hz,q⟩:=h
 cases rx
 obtain ⟨u,rfl,ru⟩:=rv.one
 cases ru
 obtain ⟨z,its,n,r,hl,e⟩:=I.lstM hH
 obtain ⟨z2,its2,n2,r2,hl2,e2⟩:=I.lstM hB
 have hsz:its.toArray.size + its2.toArray.size<=sizeLine:=by rw [Pf,Pf]; omega
 have hlong:¬ (!its.toArray.isEmpty && T6 (its.toArray.size + its2.toArray.size))=true:=by
  rw [Zdu hsz,Bool.and_false]
  exact Pk
 refine Sq F.slot_list_extend ⟨_,e,rfl⟩ F.entry_list_extend (F.args_list_extend_2 _ _)
  (AutoSeq1.list_extend_list_list_0 l its.toArray n b its2.toArray n2 hlong (by rw [Pf]; omega) (by omega)) ⟨e,e2,?_⟩
 refine ⟨.non,_,I.lset (its':=its++its2) hH e (by simp) (r.append r2) ?_,rfl,q⟩
 rw [Pc]
 omega
noncomputable def rPop:V->List V->Hp->VK->Prop:=fun x vs H Q=>∃ l xs y,x=.ref l/\vs=[]/\H l=some (.lst xs)/\xs[xs.length - 1]?=some y/\Q y (upd H l (.lst xs.dropLast))
theorem N4:MtM X "list.pop" rPop:=by
 intro pins s σ H x vs v us Q I rx rv h
 obtain ⟨l,xs,y,rfl,rfl,hH,hy,q⟩:=h
 cases rx
 have hus:=rv.zero
 subst hus
 obtain ⟨z,its,n,r,hl,e⟩:=I.lstM hH
 obtain ⟨u,hu,ru⟩:=r.get hy
 have hy':its.toArray[its.toArray.size - 1]?=some u:=by
  show its.toArray[its.length - 1]?=some u
  rw [<- Array.getElem?_toList,<- hl]
  exact hu
 refine Sq F.slot_list_pop ⟨_,e,rfl⟩ F.entry_list_pop (F.args_list_pop_1 _) (MeetsSeq.list_pop_last l its.toArray n u hy' (by rw [Pf]; omega)) ⟨e,?_⟩
 refine ⟨y,_,I.lset (its':=its.dropLast) hH e ?_ r.dropLast ?_,ru,q⟩
 ·show its.toArray.eraseIdxIfInBounds (its.toArray.size - 1)=its.dropLast.toArray
  rw [Pf,List.eraseIdxIfInBounds_toArray,Zlf]
 ·rw [List.length_dropLast]
  omega
noncomputable def rCat:R2:=fun x y H Q=>∃ l b xs zs,x=.ref l/\y=.ref b/\H l=some (.lst xs)/\H b=some (.lst zs)/\xs.length + zs.length<=sizeLine/\∀ p,H p=none->Q (.ref p) (upd H p (.lst (xs++zs)))
theorem op_cat:OpR X (binaryOp .Add) rCat:=by
 intro pins s σ H x y v u Q I rx ry h
 obtain ⟨l,b,xs,zs,rfl,rfl,hH,hB,hz,q⟩:=h
 cases rx
 cases ry
 obtain ⟨z,its,n,r,hl,e⟩:=I.lstM hH
 obtain ⟨z2,its2,n2,r2,hl2,e2⟩:=I.lstM hB
 refine PySem.P.add_list e e2 ?_ (by rw [Pf,Pf]; omega)
 have ea:its.toArray++its2.toArray=(its++its2).toArray:=by simp
 rw [ea]
 exact ⟨.ref _,_,I.lnew (t':=s.toks) (r.append r2) (by rw [Pc]; omega),rfl,q _ I.fresh⟩
noncomputable def rRep:R2:=fun x y H Q=>∃ l k xs,x=.ref l/\y=.int k/\H l=some (.lst xs)/\-(2 ^ 63)<=k/\k < 2 ^ 63/\xs.length * k.toNat<=sizeLine /\
 ∀ p,H p=none->Q (.ref p) (upd H p (.lst (P7 k.toNat xs).flatten))
theorem Znn {α:Type} (xs:List α) (k:Nat):(P7 k xs).flatten.length=k * xs.length:=by
 induction k with
 | zero=>simp
 | succ k ih=>rw [Sy,Um,Pc,ih,Nat.succ_mul,Nat.add_comm]
theorem Zi7:OpR X (binaryOp .Mult) rRep:=by
 intro pins s σ H x y v u Q I rx ry h
 obtain ⟨l,k,xs,rfl,rfl,hH,h1,h2,hz,q⟩:=h
 cases rx
 obtain ⟨t,rfl⟩:=ry
 obtain ⟨z,its,n,r,hl,e⟩:=I.lstM hH
 have hlen:its.toArray.size * k.toNat<=sizeLine:=by rw [Pf,<- hl]; exact hz
 have hcap:¬ its.toArray.size * k.toNat > (2 ^ 63 - 1) / 8:=by
  have:(sizeLine:Nat)<=(2 ^ 63 - 1) / 8:=by decide
  omega
 have hfit:¬ (!Builtin.List.listFitsIndex k)=true:=by
  rw [fitsIndex_both h1 h2]
  exact Pk
 have hlong:¬ T6 (its.toArray.size * k.toNat)=true:=by
  rw [Zdu hlen]
  exact Pk
 have hnew:List.foldl (fun x1 x2=>x1++x2) #[] (P7 (if its.toArray.isEmpty=true then 0 else k.toNat) its.toArray)=(P7 k.toNat its).flatten.toArray:=by
  have f0:∀ m:Nat,List.foldl (fun x1 x2=>x1++x2) #[] (P7 m its.toArray)=(P7 m its).flatten.toArray:=fun m=>by
   have:=Zf9 its m []
   rw [List.nil_append] at this
   exact this
  rw [f0]
  cases its with
  | nil=>simp
  | cons a r'=>rw [if_neg (by simp)]
 refine wpAny_binaryOp_repeat_ref (T := "list") (U := "int") (by decide) ⟨_,e,rfl⟩ (fun s'=>typeIs_int s' k t) noFill_list_mul F.fills_int_mul F.slot_int_rmul repeat_list F.slot_int_index.lookup
  (Sq F.slot_int_rmul (typeIs_int s k t) F.entry_int_rmul (F.args_int_rmul_2 _ _) (int___rmul___int_list k t l its.toArray n)
   ⟨e,rfl,⟨_,e,rfl⟩,Sq F.slot_list_mul ⟨_,e,rfl⟩ F.entry_list_mul (F.args_list_mul_2 _ _) (AutoListH.list___mul___list_int_3 l its.toArray n k t hfit hcap hlong) ⟨e,?_⟩⟩)
 rw [hnew]
 exact ⟨.ref _,_,I.lnew (t':=s.toks) (r.rep k.toNat) (by rw [Znn,Nat.mul_comm]; exact hz),rfl,q _ I.fresh⟩
end
section
variable {prog:Program} {w:World} {A:Around} {E:Value->Shared->Prop} {s:Shared}
end
section
variable {X:Cx}
end
end L2
namespace Att
open PySem PySem.W PySem.Calls PyProof.Rows
theorem Zr9 {P:Params} {h:Heap}:∀ (ns:List Int) (vs:List Value),WellAll P h vs (ns.map WData.int)->IntsAre vs ns:=by
 intro ns
 induction ns with
 | nil =>
  intro vs w
  rw [List.map_nil] at w
  cases w
  exact .nil
 | cons n ns ih =>
  intro vs w
  rw [Qq] at w
  cases w with
  | cons a b =>
   cases a
   exact .cons _ _ (ih _ b)
theorem Zmk {l:OpenLaw} {n:Nat} (hn:l.most=some n) {P:Params} {h:Heap} {args:List WData} {vals:List Value}
  (hpre:l.row.toRowW.claim.pre args=true) (hwl:WellAll P h vals args) :
  ∃ a vs ns,vals=[Value.ref a]/\args=[WData.list (ns.map WData.int)]/\h.get? a=some { cls:=.type "list",data:=.seq vs.toArray }/\IntsAre vs ns/\ns.length<=n:=by
 have hsh:WShape.hasAll [] args [.list .int]=true:=(pre_splitW hpre).1
 have hc:l.pre.holds [] { args:=args }=true:=(pre_splitW hpre).2
 obtain ⟨d,r,rfl,h1,h2⟩:=hasAllW_cons hsh
 obtain rfl:=hasAllW_nil h2
 obtain ⟨xs,rfl,h3⟩:=hasW_list h1
 obtain ⟨ns,rfl⟩:=items_int h3
 have hlen:ns.length<=n:=by
  unfold OpenLaw.pre at hc
  have h4:(WTm.not (.lt (.lit (.int (n:Int))) (.len (.arg 0)))).holds [] { args:=[.list (ns.map .int)] }=true:=by
   have h4:=(holds_andW hc).1
   rw [hn] at h4
   exact h4
  have h5:=condW_of h4 (w_not (w_lt w_lit (w_len_list (w_arg rfl))))
  rw [Pi] at h5
  refine Nat.le_of_not_lt fun q=>?_
  have q':(n:Int) < ((ns.length:Nat):Int):=by omega
  first
   | (rw [decide_eq_true q'] at h5; exact absurd h5 (by decide))
   | (simp at h5; omega)
 cases hwl with
 | cons w1 w2 =>
  cases w2
  cases w1 with
  | list ho hall=>exact ⟨_,_,ns,rfl,rfl,ho,Zr9 ns _ hall,hlen⟩
theorem Zom (l:OpenLaw) (args:List WData):l.row.toRowW.claim.post args (.bool true) args=true :=
 postW_of (r:=l.row.toRowW) (X:=(true == true))
  (show WShape.has [] (.bool true) .bool=true by first | rfl | decide | simp [WShape.has,WShape.arms,WShape.armsAll])
  (show (WTm.eq .res (.lit (.bool true))).value [] { args:=args,res:=some (.bool true),after:=args }=some (.bool (true == true)) from w_eq_bool (w_res rfl) w_lit) rfl
theorem attach_call {l:OpenLaw} {n:Nat} {q:Program} {loose:List Str} {XP:(Str->Option Value)->Heap->Prop} {YP:World->Heap->Prop} {d:DefRec}
  (hn:l.most=some n) (hdf:d.params.defaults=[])
  (call:∀ (w:World) (s₀ s₁:Shared) (mg mb:Str->Option Value) (fa:Addr) (o:Obj) (pm cd doc:Value) (a:Addr) (vs:List Value) (ns:List Int),
   Ground q loose [] XP w s₀ mg mb s₁.heap->YP w s₁.heap ->
   s₁.heap.get? fa=some o->o.data=.func (docDef d.name d.params d.body d.scope pm cd doc)->s₁.heap.CodeRec cd d.name->mg d.name=some (.ref fa) ->
   s₁.heap.get? a=some { cls:=.type "list",data:=.seq vs.toArray }->IntsAre vs ns->ns.length<=n->s₁.gens=#[] ->
   codeAny (model l.prog w) callerA (.call (.ref fa) ⟨[.ref a],[]⟩) (fun r s'=>r=.ok (.ret (.bool true))/\OldK s₁.heap s'.heap/\s'.os=s₁.os/\AllBare s'.gens) s₁) :
  WalkO q loose XP YP l.row.toRowW d [] (fun f vs=>PySem.call f vs):=by
 intro w s₀ s₁ mg mb G Y fa o pm cd doc dV kV ho hd hcd hD hmg hg args vals as hpre hlay hrd hwl hlo
 obtain rfl:dV=.none:=Dflts.none hD hdf
 obtain rfl:kV=.none:=Dflts.noKw hD
 obtain ⟨a,vs,ns,rfl,rfl,hobj,hints,hlen⟩:=Zmk hn hpre hwl
 refine enter_call (R6 (call w s₀ s₁ mg mb fa o pm cd doc a vs ns G Y ho (fd_plain hd) hcd hmg hobj hints hlen hg) fun r s' hq=>?_)
 obtain ⟨rfl,h2,h3,h4⟩:=hq
 exact ⟨.inl ⟨.bool true,.bool true,[],rfl,fun _=>rfl,.bool true,Zom l _,fun _=>⟨List.Pairwise.nil,fun _ hm=>(nomatch hm)⟩⟩,h2,h3,h4⟩
section
variable {prog:Program} {w:World} {A:Around} {E:Value->Shared->Prop} {s:Shared} {K:Frag}
end
end Att
namespace L2
open PySem PySem.Spec PyProof.Rows
theorem Zcn:∀ {vs:List Value} {ns:List Int},IntsAre vs ns->Vals (ns.map V.int) vs
 | _,_,.nil=>.nil
 | _,_,.cons n t h=>.cons ⟨t,rfl⟩ (Zcn h)
noncomputable def Zaq (H:Hp):Prop:=∀ b,H b=none\/∃ o xs,H b=some (.frz o (.lst xs))
theorem Zjz {P:Program} {w:World} {K:O7} {mg mb:Str->Option Value} {CX:B7} {k:Nat} {fa a:Addr} {fd:FuncData} {x:Str} {sp:Sp} {s₁:Shared} {vs:List Value} {ns:List Int}
  (KX:K.In s₁.heap) (hns:s₁.heap.Ns mainGlobals mg) (hb:s₁.heap.Ns builtinsNs mb) (hbb:∀ x:Str,x ≠ "__name__" -> mb x=bootBuiltins x) (hlim:s₁.heap.NoLimit) (hg:s₁.gens=#[])
  (ha:s₁.heap.get? a=some { cls:=.type "list",data:=.seq vs.toArray }) (hi:IntsAre vs ns) (hl:ns.length<=sizeLine) (hr:Room k callerA)
  (F:∀ base:Heap,K.In base->base.Ns mainGlobals mg->FnOk P w K mg base CX k fa fd [x] sp) (hbind:∀ (s:Shared) (u:Value),BindsTo s fd ⟨[u],[]⟩ [(x,u)])
  (hsp:∀ H:Hp,Zaq H->SqL K H a (ns.map V.int)->sp [.ref a] H (fun v _=>v=.bl true) fun _ _ _=>False)
  (hCX:∀ H e s',CX [] H s₁ (fun _ _ _=>False) e s'->False) :
  codeAny (model P w) callerA (.call (.ref fa) ⟨[.ref a],[]⟩) (fun r s'=>r=.ok (.ret (.bool true))/\OldK s₁.heap s'.heap/\s'.os=s₁.os/\AllBare s'.gens) s₁:=by
 have rv:=Zcn hi
 have lenV:=hi.length
 have core:∀ H:Hp,Zaq H->SqL K H a (ns.map V.int)->HOk P w H s₁.heap->(∀ b,H b≠none->b=a)->(H a≠none->K.lookup a=none) ->
   codeAny (model P w) callerA (.call (.ref fa) ⟨[.ref a],[]⟩) (fun r s'=>r=.ok (.ret (.bool true))/\OldK s₁.heap s'.heap/\s'.os=s₁.os/\AllBare s'.gens) s₁:=by
  intro H hO hS hok hA hK
  have base_of:∀ {b:Addr} {o:Obj},s₁.heap.get? b=some o->H b=none->(E7 s₁.heap H).get? b=some o:=fun e n=>Zou e n
  have noA:∀ {b:Addr} {o:Obj} {es:Array DictEntry} {ep:Nat},s₁.heap.get? b=some o->o.data=.dict es ep->H b=none:=fun {b o es ep} e d=>by
   cases q:H b with
   | none=>rfl
   | some u =>
    have e':b=a:=hA b (by rw [q]; simp)
    subst e'
    rw [ha] at e; cases e
    have d':Data.seq vs.toArray _=Data.dict es ep:=d
    cases d'
  have nsK:∀ {b:Addr} {m:Str->Option Value},s₁.heap.Ns b m->(E7 s₁.heap H).Ns b m:=fun {b m} ⟨o,es,ep,e,d,r⟩=>⟨o,es,ep,base_of e (noA e d),d,r⟩
  have hKb:K.In (E7 s₁.heap H):=fun b o e=>base_of (KX b o e) (by
   cases q:H b with
   | none=>rfl
   | some u =>
    have e':b=a:=hA b (by rw [q]; simp)
    subst e'
    rw [hK (by rw [q]; simp)] at e; cases e)
  have hM:Mod K mg (E7 s₁.heap H):=⟨hKb,nsK hns,⟨mb,nsK hb,hbb⟩,let ⟨mc,h1,h2⟩:=hlim; ⟨mc,nsK h1,h2⟩⟩
  have e0:Env0 P w K mg (E7 s₁.heap H) callerA [] s₁ H:=⟨rfl,hM,fun b o e=>Zs5 e,Nat.le_of_eq (Zjg _ _),trivial,fun b hb=>absurd (show b∈([]:List Addr) from hb) (by simp),hok,.of_eq hg⟩
  refine R6 ((F _ hKb (nsK hns)).run callerA [] s₁ H ⟨[.ref a],[]⟩ [.ref a] [.ref a] _ _ hr e0 (hbind s₁ (.ref a)) (.cons rfl .nil) (hsp H hO hS)) fun r s' h=>?_
  cases r with
  | error e=>exact (hCX H e s' h).elim
  | ok fl =>
   cases fl with
   | next=>exact P6 h
   | brk=>exact P6 h
   | cont=>exact P6 h
   | ret u =>
    obtain ⟨v,H',os,bare,un,hok',r',q⟩:=h
    have q':v=.bl true:=q
    subst q'
    obtain rfl:u=Value.bool true:=r'
    refine ⟨rfl,OldK.of_keep fun b o e=>?_,os,bare⟩
    cases q:H b with
    | none=>exact un.keep b o e q (by intro z; exact absurd (show b∈([]:List Addr) from z) (by simp)) (by simp)
    | some u =>
     rcases hO b with z | ⟨ob,xs,z⟩
     ·rw [q] at z; cases z
     ·have z2:=un.frzs b ob _ z
      obtain ⟨e1,_⟩:=hok b _ z
      obtain ⟨e2,_⟩:=hok' b _ z2
      rw [e] at e1; cases e1
      exact e2
 cases hk:K.lookup a with
 | some o =>
  have e:=KX a o hk
  rw [ha] at e
  cases e
  refine core (fun _=>none) (fun _=>.inl rfl) (.inr ⟨_,vs.toArray,_,hk,rfl,rfl,rfl,by rw [Pf,lenV]; exact hl,by simpa using rv⟩) (fun b u z=>by have z':(none:Option HO)=some u:=z; cases z') (fun b z=>absurd rfl z) fun z=>absurd rfl z
 | none =>
  refine core (fun b=>if b=a then some (.frz { cls:=.type "list",data:=.seq vs.toArray } (.lst (ns.map V.int))) else none) (fun b=>?_) (.inl (.inr ⟨{ cls:=.type "list",data:=.seq vs.toArray },if_pos rfl⟩)) (fun b u z=>?_) (fun b z=>?_) fun _=>hk
  ·by_cases hb:b=a
   ·exact .inr ⟨_,_,if_pos hb⟩
   ·exact .inl (if_neg hb)
  ·by_cases hb:b=a
   ·have z':=(if_pos hb).symm.trans z
    cases z'
    subst hb
    exact ⟨ha,by rw [Pi]; exact hl,vs,_,rv,ha⟩
   ·have z':=(if_neg hb).symm.trans z
    cases z'
  ·by_cases hb:b=a
   ·exact hb
   ·exact absurd (if_neg hb) z
end L2
namespace L2
open PySem PySem.Spec PyProof.Rows
theorem walk_of {l:V4} {n k:Nat} {q:Program} {loose:List Str} {XP:(Str->Option Value)->Heap->Prop} {YP:World->Heap->Prop} {d:DefRec} {K:Params->O7} {CX:World->B7} {sp:World->Sp} {x:Str}
  (hn:l.most=some n) (hn2:n<=sizeLine) (hdf:d.params.defaults=[]) (hr:Room k callerA)
  (hY:∀ (w:World) (h:Heap),YP w h->(K w.params).In h)
  (F:∀ (w:World) (mg:Str->Option Value) (fa:Addr) (h:Heap),(K w.params).In h->h.Ns mainGlobals mg->mg d.name=some (.ref fa) ->
   ∃ fd:FuncData,(∀ (s:Shared) (u:Value),BindsTo s fd ⟨[u],[]⟩ [(x,u)]) /\
    ∀ base:Heap,(K w.params).In base->base.Ns mainGlobals mg->FnOk l.prog w (K w.params) mg base (CX w) k fa fd [x] (sp w))
  (hsp:∀ (w:World) (H:Hp) (a:Addr) (ns:List Int),ns.length<=n->Zaq H->SqL (K w.params) H a (ns.map V.int)->sp w [.ref a] H (fun v _=>v=.bl true) fun _ _ _=>False)
  (hCX:∀ (w:World) (H:Hp) (s:Shared) (e:Value) (s':Shared),CX w [] H s (fun _ _ _=>False) e s'->False) :
  PySem.W.WalkO q loose XP YP l.row.toRowW d [] (fun f vs=>PySem.call f vs):=by
 refine Att.attach_call hn hdf fun w s₀ s₁ mg mb fa o pm cd doc a vs ns G Y ho hd hcd hmg hobj hints hlen hg=>?_
 have KX:=hY w _ Y
 obtain ⟨fd,hb,hF⟩:=F w mg fa _ KX G.T.g hmg
 exact Zjz KX G.T.g G.T.b G.T.builtins G.T.nolimit hg hobj hints (P3 hlen hn2) hr hF hb (fun H hO hS=>hsp w H a ns hlen hO hS) fun H e s'=>hCX w H s₁ e s'
end L2
namespace L2
open PySem PySem.Spec PyProof.Rows
noncomputable def Gx (s:Stmt):Arguments:=match s with
 | .FunctionDef _ a _ _ _ _ _ _ _ _=>a
 | _=>{ posonlyargs:=[],args:=[],vararg:=none,kwonlyargs:=[],kw_defaults:=[],kwarg:=none,defaults:=[] }
noncomputable def E3 (s:Stmt):List Stmt:=match s with
 | .FunctionDef _ _ b _ _ _ _ _ _ _=>b
 | _=>[]
noncomputable def Az (s:Stmt):Scope:=match s with
 | .FunctionDef _ _ _ _ _ _ sc _ _ _=>sc
 | _=>{ kind:=.function,names:=[],isGenerator:=false,isCoroutine:=false }
noncomputable abbrev An:B7:=fun _ _ _ _ _ _=>False
noncomputable abbrev E0:XK:=fun _ _ _=>False
theorem Cw {X:Cx}:E9 An X E0:=fun _ _ _ _ _ _ _ h=>h.elim
structure Fun (K:O7) (x qual:Str) (st:Stmt) (f:Addr) (fd:FuncData):Prop where
 ex:∃ (oc:Value) (od:Option Addr) (kV doc pm:Value) (an:Option Addr) (cdv ct:Value) (osl:Array (Option Value)),
  fd=Rr x qual (Gx st) (E3 st) (Az st) .none kV doc pm an cdv ct/\K.lookup f=some ⟨oc,od,.func fd,osl⟩/\PySem.W.codeIn K cdv qual=true
 kp:Q6 K (.ref f)=true
section
variable {P:Program} {w:World} {K:O7} {mg:Str->Option Value} {base:Heap}
theorem Fun.ok {x qual:Str} {st:Stmt} {f:Addr} {fd:FuncData} {N ps:List Str} {k:Nat} {sp:Sp} (F:Fun K x qual st f fd) (S:A2 N ps (Az st)) (len:∀ vs H Q E,sp vs H Q E->vs.length=ps.length)
  (hbody:∀ (cdv:Value) (A:Around) (outer:List Env) (s:Shared) (H:Hp) (vs:List V) (Q:VK) (E:XK),Room k (A.deeper (envOfC qual (Az st) s.heap.objs.size f cdv))->sp vs H Q E ->
   ∃ t,PSs (Dx An P w K mg base N qual (Az st) f cdv A outer s H E).nox (E3 st) t/\t { nx:=fun _ H'=>Q .non H',rt:=Q } (Ex N vs) H):FnOk P w K mg base An (k + 1) f fd ps sp:=by
 obtain ⟨oc,od,kV,doc,pm,an,cdv,ct,osl,rfl,lk,hcd⟩:=F.ex
 refine Zgy lk hcd S len fun A outer s H vs Q E hr hsp=>?_
 obtain ⟨t,h,q⟩:=hbody cdv A outer s H vs Q E hr hsp
 exact ⟨t,h.nox,q⟩
theorem Fun.binds {x qual:Str} {st:Stmt} {f:Addr} {fd:FuncData} {ps:List Str} (F:Fun K x qual st f fd)
  (h:∀ (kV doc pm:Value) (an:Option Addr) (cdv ct:Value) (us:List Value),us.length=ps.length->bindArgs (Rr x qual (Gx st) (E3 st) (Az st) .none kV doc pm an cdv ct) ⟨us,[]⟩=pure (ps.zip us)):Binds K fd ps []:=by
 obtain ⟨oc,od,kV,doc,pm,an,cdv,ct,osl,rfl,lk,hcd⟩:=F.ex
 exact .all (h kV doc pm an cdv ct)
theorem fun_mk {x qual:Str} {st:Stmt} {f:Addr} {oc:Value} {od an:Option Addr} {osl:Array (Option Value)} {kV doc pm cdv ct:Value} (l:K.lookup f=some ⟨oc,od,.func (Rr x qual (Gx st) (E3 st) (Az st) .none kV doc pm an cdv ct),osl⟩)
  (c:PySem.W.codeIn K cdv qual=true) (k:Q6 K (.ref f)=true):Fun K x qual st f (Rr x qual (Gx st) (E3 st) (Az st) .none kV doc pm an cdv ct):=⟨⟨oc,od,kV,doc,pm,an,cdv,ct,osl,rfl,l,c⟩,k⟩
end
section
variable {X:Cx}
end
theorem iteF {A B:Prop} (h:B):if false=true then A else B:=by
 rw [if_neg Pk]
 exact h
theorem iteT {A B:Prop} (h:A):if true=true then A else B:=by
 rw [if_pos rfl]
 exact h
theorem C2 {c A B:Prop} [Decidable c] (h1:c->A) (h2:¬ c->B):if c then A else B:=by
 by_cases h:c
 ·rw [if_pos h]
  exact h1 h
 ·rw [if_neg h]
  exact h2 h
noncomputable def Same (H H':Hp):Prop:=∀ b o,H b=some o->H' b=some o
theorem Same.refl (H:Hp):Same H H:=fun _ _ h=>h
theorem Same.trans {H H1 H2:Hp} (a:Same H H1) (b:Same H1 H2):Same H H2:=fun c o h=>b c o (a c o h)
theorem Same.free {H H':Hp} (e:Same H H') {l:Addr} (h:H' l=Option.none):H l=Option.none:=by
 cases q:H l with
 | none=>rfl
 | some o =>
  rw [e l o q] at h
  cases h
theorem Same.seq {K:O7} {H H':Hp} {a:Addr} {xs:List V} (e:Same H H') (h:SqL K H a xs):SqL K H' a xs:=by
 rcases h with (h | ⟨o,h⟩) | h
 ·exact .inl (.inl (e _ _ h))
 ·exact .inl (.inr ⟨o,e _ _ h⟩)
 ·exact .inr h
end L2
set_option maxHeartbeats 8000000
namespace L2
open PySem PySem.Spec PyProof.Rows
noncomputable def Ds (env:Env):List (Str×NameKind)->List (Str×Addr)->List (Str×Addr)
 | [],acc=>acc
 | (n,k) :: r,acc=>Ds env r (if k == .free then (match env.cells.lookup n with | some a=>(n,a) :: acc | none=>acc) else acc)
theorem Zbp {env:Env}:∀ {ns:List (Str×NameKind)} {acc:List (Str×Addr)} {x:Str} {c:Addr},(∀ x c,acc.lookup x=some c->env.cells.lookup x=some c)->(Ds env ns acc).lookup x=some c->env.cells.lookup x=some c
 | [],acc,x,c,h,e=>h x c e
 | (n,k) :: r,acc,x,c,h,e=>by
  refine Zbp (ns:=r) ?_ e
  intro y d
  split
  ·split
   ·rename_i a ha
    intro q
    rw [Rn] at q
    split at q
    ·rename_i hy
     have hy':y=n:=by simpa using hy
     subst hy'
     rw [ha]; exact q
    ·exact h y d q
   ·exact h y d
  ·exact h y d
theorem Zc9 {env:Env}:∀ {ns:List (Str×NameKind)} {acc:List (Str×Addr)} {x:Str},(acc.lookup x).isSome=true->((Ds env ns acc).lookup x).isSome=true
 | [],acc,x,h=>h
 | (n,k) :: r,acc,x,h=>by
  refine Zc9 (ns:=r) ?_
  split
  ·split
   ·rw [Rn]
    split
    ·rfl
    ·exact h
   ·exact h
  ·exact h
theorem Zf0 {env:Env}:∀ {ns:List (Str×NameKind)} {acc:List (Str×Addr)} {x:Str},(x,NameKind.free)∈ns->(env.cells.lookup x).isSome=true->((Ds env ns acc).lookup x).isSome=true
 | [],acc,x,h,_=>by cases h
 | (n,k) :: r,acc,x,h,hc=>by
  rcases Pm.mp h with e | e
  ·cases e
   refine Zc9 (ns:=r) ?_
   obtain ⟨a,ha⟩:=Su.mp hc
   rw [if_pos (by rfl),ha]
   show (Rh n ((n,a) :: acc)).isSome=true
   rw [Rn]
   simp
  ·exact Zf0 (ns:=r) e hc
theorem Zdn {scope:Scope} {env:Env} (h:∀ x∈scope.names,x.2=.free->(env.cells.lookup x.1).isSome=true):closureFor scope env=pure (Ds env scope.names []):=by
 have all:∀ (ns:List (Str×NameKind)) (acc:List (Str×Addr)),(∀ x∈ns,x.2=.free->(env.cells.lookup x.1).isSome=true) ->
   (forIn ns acc fun (x:Str×NameKind) (cs:List (Str×Addr))=>(if (x.2 == NameKind.free)=true then do let a <- cellOf env x.1; pure (ForInStep.yield ((x.1,a) :: cs)) else pure (ForInStep.yield cs):Sem (ForInStep (List (Str×Addr)))))=pure (Ds env ns acc):=by
  intro ns
  induction ns with
  | nil=>intro acc _; rfl
  | cons x r ih =>
   intro acc hx
   obtain ⟨n,k⟩:=x
   rw [Tg]
   by_cases hk:(k == NameKind.free)=true
   ·obtain ⟨a,ha⟩:=Su.mp (hx (n,k) Ui (by simpa using hk))
    have ha:env.cells.lookup n=some a:=ha
    have hcell:cellOf env n=pure a:=by unfold cellOf; rw [ha]
    simp only [hk,if_true,hcell]
    refine Eq.trans (ih ((n,a) :: acc) fun y hy=>hx y (Rk _ hy)) ?_
    conv=>rhs; unfold Ds
    simp only [hk,if_true,ha]
   ·simp only [hk]
    refine Eq.trans (ih acc fun y hy=>hx y (Rk _ hy)) ?_
    conv=>rhs; unfold Ds
    simp only [hk]
    rfl
 unfold closureFor
 exact (by
  have:=all scope.names [] h
  first | exact this | (simp only [bind_pure] ; exact this) | simpa using this)
noncomputable def C6 (X:Cx) (scope:Scope) (C:Addr) (N:List Str) (s₀:Shared) (H₀:Hp) (ex:List Addr):Cx where
 prog:=X.prog
 w:=X.w
 K:=X.K
 mg:=X.mg
 base:=X.base
 A:=X.A
 N:=N
 s₀:=s₀
 H₀:=H₀
 env:=compEnvC scope (Ds X.env scope.names []) C X.env
 outer:=X.stack
 stack:=X.stack
 ex:=ex
 fn:=fun _=>false
 calm:=X.calm
 pn:=[]
 xe:=fun _ _=>False
structure Gq (sc:Scope) (env:Env):Prop where
 kind:sc.kind=.function
 nocell:∀ y∈sc.names,y.2≠.cell
 loc:∀ y∈sc.names,y.2=.local->sc.names.lookup y.1=some .local
 free:∀ x∈sc.names,x.2=.free->(env.cells.lookup x.1).isSome=true
theorem Mj {env:Env}:∀ {names:List (Str×NameKind)} {x:Str} {k:NameKind},((names.map fun (n,k)=>if (k == NameKind.free && env.scope.kind == .function && env.kindOf n == some .cell) then (n,NameKind.cell) else (n,k)).lookup x=some k) ->
  ∃ k',names.lookup x=some k'/\(k'=k\/(k'=.free/\k=.cell))
 | [],x,k,h=>by simp at h
 | (n,q) :: r,x,k,h=>by
  have ih:=@Mj env r x k
  have h:Rh x ((if (q == NameKind.free && env.scope.kind == .function && env.kindOf n == some .cell)=true then (n,NameKind.cell) else (n,q)) :: _)=some k:=h
  rw [Rn]
  cases hx:x == n with
  | true =>
   by_cases hc:(q == NameKind.free && env.scope.kind == .function && env.kindOf n == some .cell)=true
   ·rw [if_pos hc] at h
    simp only [Rn,hx] at h
    refine ⟨q,rfl,.inr ⟨?_,(Qf h).symm⟩⟩
    simp only [Q5] at hc
    simpa using hc.1.1
   ·rw [if_neg hc] at h
    simp only [Rn,hx] at h
    exact ⟨q,rfl,.inl (Qf h)⟩
  | false =>
   by_cases hc:(q == NameKind.free && env.scope.kind == .function && env.kindOf n == some .cell)=true
   ·rw [if_pos hc] at h
    simp only [Rn,hx] at h
    exact ih h
   ·rw [if_neg hc] at h
    simp only [Rn,hx] at h
    exact ih h
noncomputable def Fq (X:Cx) (scope:Scope) (N:List Str) (σ σ0:St):Prop :=
 σ0.length=N.length/\∀ (i:Nat) (x:Str) (v:V),N[i]?=some x->σ0[i]?=some (some v)->∃ j:Nat,X.N[j]?=some x/\σ[j]?=some (some v)/\scope.names.lookup x=some .free/\(X.env.kindOf x=some .cell\/X.env.kindOf x=some .free)
section
variable {X:Cx}
theorem Zl0 {scope:Scope} {N:List Str} {pins:List (Addr×Obj)} {σ σ0:St} {H:Hp} {s:Shared} {h':Heap} {tk:Nat} {fp:List Addr} (I:Inv X pins σ H s) (S:Gq scope X.env) (hf:∀ b∈fp,FpOk X pins H b) (hlt:∀ b∈fp,b < s.heap.objs.size)
  (T:Fq X scope N σ σ0) (hn:h'.Ns s.heap.objs.size (fun _=>none)) (hk:∀ b o,s.heap.get? b=some o->h'.get? b=some o) :
  Inv (C6 X scope s.heap.objs.size N s H fp) [] σ0 H { s with heap:=h',toks:=tk }:=by
 have subC:∀ x c,(Ds X.env scope.names []).lookup x=some c->X.env.cells.lookup x=some c:=fun x c e=>Zbp (ns:=scope.names) (acc:=[]) (fun y d z=>by simp at z) e
 have hasC:∀ x,scope.names.lookup x=some .free->∃ c,(Ds X.env scope.names []).lookup x=some c:=fun x e=>by
  have m:=Ry e
  exact Su.mp (Zf0 m (S.free _ m rfl))
 have fsN:∀ b∈fp,b ∉ Bg X.stack:=fun b hb z=>by
  obtain ⟨_,f1,f2,_⟩:=hf b hb
  rcases Pm.mp (I.stkSub b z) with e | e
  ·exact f1 e
  ·exact f2 e
 have kinds:∀ x,((relabel scope X.env).names.lookup x=some .cell\/(relabel scope X.env).names.lookup x=some .free)->scope.names.lookup x=some .free:=fun x hx=>by
  rcases hx with hx | hx
  ·obtain ⟨k',e,q⟩:=Mj hx
   rcases q with q | ⟨q,_⟩
   ·subst q
    exact absurd rfl (S.nocell _ (Ry e))
   ·rw [e,q]
  ·obtain ⟨k',e,q⟩:=Mj hx
   rcases q with q | ⟨_,q⟩
   ·rw [e,q]
   ·cases q
 have noex:∀ b o,X.base.get? b=some o->b ∉ fp:=fun b o e hb=>by
  obtain ⟨_,_,_,f3,_⟩:=hf b hb
  rcases f3 with z | z
  ·exact I.ok.noex b o e z
  ·exact absurd (Pr (Pe e) (P3 I.ok.bsz z)) (Qp _)
 refine ⟨⟨I.ok.mod,S.kind,I.ok.glob,I.ok.blt,Pa _,fun x y c e1 e2=>I.ok.inj x y c (subC x c e1) (subC y c e2),fun x hx=>hasC x (kinds x hx),fun x c z=>absurd (show false=true from z) Pk,I.ok.hd,I.ok.frames,.inl rfl,
   fun b hb=>⟨Pl (hlt b hb),fun x c e=>(hf b hb).2.2.2.2.1 x c (subC x c e)⟩,I.bs,P3 I.ok.bsz I.sz,noex,fsN,I.stack,I.stkFree⟩,
  rfl,I.bare,Un.kept hk,⟨_,hn,fun i x v e1 e2 e3=>?_⟩,fun x c e=>?_,I.hok.fresh (Pa _),fun x c e=>I.freeC x c (subC x c e),fun p hp=>absurd (show p∈([]:List (Addr×Obj)) from hp) (by simp),I.hok.kept hk,T.1⟩
 ·obtain ⟨j,hj,hs,hfr,hkd⟩:=T.2 i x v e1 e2
  obtain ⟨m,_,hl⟩:=I.loc
  obtain ⟨u,r,l⟩:=hl j x v hj hs (hkd.elim (fun z=>Or.inr (Or.inl z)) fun z=>Or.inr (Or.inr z))
  refine ⟨u,r,.inr ⟨?_,?_⟩⟩
  ·show (relabel scope X.env).names.lookup x=some .cell\/(relabel scope X.env).names.lookup x=some .free
   rcases e3 with z | z | z
   ·obtain ⟨k',e,q⟩:=Mj (show (relabel scope X.env).names.lookup x=some .local from z)
    rw [hfr] at e
    cases e
    rcases q with q | ⟨_,q⟩ <;> cases q
   ·exact .inl z
   ·exact .inr z
  ·obtain ⟨c,hc⟩:=hasC x hfr
   refine ⟨c,hc,?_⟩
   rcases l with ⟨k,_⟩ | ⟨_,c',e,z⟩
   ·rcases hkd with hkd | hkd <;> (rw [hkd] at k; cases k)
   ·have e':=subC x c hc
    rw [e] at e'
    cases e'
    obtain ⟨o,ho,hd⟩:=z
    exact ⟨o,hk _ o ho,hd⟩
 ·obtain ⟨v,o,ho,hd⟩:=I.cell x c (subC x c e)
  exact ⟨v,o,hk _ o ho,hd⟩
theorem Zih {scope:Scope} {N:List Str} {pins pins':List (Addr×Obj)} {σ σ':St} {H H':Hp} {s s':Shared} {h':Heap} {fp:List Addr} (I:Inv X pins σ H s) (hf:∀ b∈fp,FpOk X pins H b)
  (I':Inv (C6 X scope s.heap.objs.size N s H fp) pins' σ' H' s') (hs:Pq s.heap.objs.size s'.heap h'):Inv X pins σ H' { s' with heap:=h' }:=by
 have hC:H' s.heap.objs.size=none:=I'.free
 have ne:∀ b o,s.heap.get? b=some o->b≠s.heap.objs.size:=fun b o e=>Pl (Pe e)
 have B:Un (Bg X.stack) fp H H' s.heap s'.heap:=I'.base
 refine I.call' (s':={ s' with heap:=h' }) (ch:=fp) I'.os ⟨fun b o e n hb hx=>?_,fun b o e n hb hx=>?_,B.free,fun b o e hx=>?_,B.tups,B.frzs,B.tbls⟩ (fun b o e=>?_) I'.bare (fun b hb=>?_)
 ·exact (hs.2 b (ne b o e)).trans (B.keep b o e n hb hx)
 ·obtain ⟨sl,q⟩:=B.slot b o e n hb hx
  exact ⟨sl,(hs.2 b (ne b o e)).trans q⟩
 ·obtain ⟨o',q⟩:=B.there b o e hx
  exact ⟨o',(hs.2 b (ne b o e)).trans q⟩
 ·refine (I'.hok b o e).stay (fun c w' hc q=>(hs.2 c ?_).trans q) (fun _ q=>q) fun _ _ q=>q
  rintro rfl
  rcases hc with rfl | hc
  ·rw [hC] at e; cases e
  ·rw [hC] at hc; cases hc
 ·obtain ⟨_,f1,_,f3,f4,f5⟩:=hf b hb
  exact ⟨f3,f1,f4,f5⟩
end
end L2
namespace L2
open PySem PySem.Spec PyProof.Rows
section
variable {prog:Program} {w:World} {A:Around} {R:Result->Shared->Prop} {s:Shared}
theorem Zp5 {elt target iter:Expr} {ifs:List Expr} {scope:Scope} {pos:Pos} {it acc:Value} {env:Env} (I:Nat->Shared->Prop)
  (turn:∀ n s,I n s->wpAny (model prog w) A (pyNext it) (fun r s₁=>match r with
   | none=>R (.ok .next) s₁
   | some v=>wpAny (model prog w) A (letOwnedTupleGo target it v) (fun _ s₁'=>wpAny (model prog w) A (assign target env v) (fun _ s₂ =>
     wpAny (model prog w) A (forIn ifs true fun c r=>if r=true then do let ok <- isTrue c env (eval c env); pure (ForInStep.yield ok) else pure (ForInStep.yield r)) (fun ok s₃ =>
      if ok=true then wpAny (model prog w) A (eval elt env) (fun x s₄ =>
       wpAny (model prog w) A (call (.builtin "list.append") [acc,x]) (fun _ s₅=>∃ m,m < n/\I m s₅) (fun _ _=>False) s₄) (fun _ _=>False) s₃
      else ∃ m,m < n/\I m s₃) (fun _ _=>False) s₂) (fun _ _=>False) s₁') (fun _ _=>False) s₁) (fun _ _=>False) s)
  (n:Nat) (h:I n s):codeAny (model prog w) A (.compLoop (.ListComp elt [⟨target,iter,ifs,0⟩] scope pos) 0 it acc env) R s:=by
 refine codeAny_loop rfl I (fun n s hI=>?_) n h
 show wpAny _ A ((compTurn (.ListComp elt [⟨target,iter,ifs,0⟩] scope pos) 0 it acc env).onRaise (fun x=>do noteFrame x env; theTreesLotGoes x)) _ _ s
 refine wpAny_noted ?_
 rw [compTurn_list]
 have up:∀ {α:Type} {t:Sem α} {Q:α->Shared->Prop} {s:Shared} {E:Value->Shared->Prop},wpAny (model prog w) A t Q (fun _ _=>False) s->wpAny (model prog w) A t Q E s:=fun h=>wpAny_noRaise h
 refine O8 (wpAny_standAt (O8 (up (Am (turn n s hI) fun r s₁ h₁=>?_))))
 cases r with
 | none=>exact O9 h₁
 | some v =>
  refine O8 (up (Am h₁ fun _ s₁' h₁'=>?_))
  refine O8 (up (Am h₁' fun _ s₂ h₂=>O8 (up (Am h₂ fun ok s₃ h₃=>?_))))
  cases ok with
  | false=>exact O9 ⟨rfl,h₃⟩
  | true =>
   exact O8 (O8 (up (Am h₃ fun x s₄ h₄=>O8 (up (Am h₄ fun _ s₅ h₅=>O9 (O9 ⟨rfl,h₅⟩))))))
end
noncomputable def Lz (J:It) (g:TG) (tt:TT) (te:TE) (σ0:St) (H1:Hp) (D:Addr) (Q:VK):Prop :=
 ∃ W:Nat->Nat->St->Hp->Prop,(∃ m,W 0 m σ0 (upd H1 D (.lst [])))/\∀ i m σ' H',W i m σ' H' ->
  (J.stop i H'/\Q (.ref D) H')\/(J.go i H'/\∃ N:St->Hp->Prop,(∀ σ2 H2,N σ2 H2->∃ m',m' < m/\W (i + 1) m' σ2 H2)/\∀ x H2,J.yld i H' x H2->g x σ' H2 fun σ2 H3=>tt σ2 H3 fun b H4 =>
   if b=true then te σ2 H4 fun y H5=>∃ ys,H5 D=some (.lst ys)/\ys.length < sizeLine/\N σ2 (upd H5 D (.lst (ys++[y]))) else N σ2 H4)
noncomputable def J9 (wi:TI) (σ0:St->St) (g:TG) (tt:TT) (te:TE):TE:=fun σ H Q=>wi σ H fun J H1=>∀ D,H1 D=none->Lz J g tt te (σ0 σ) H1 D Q
noncomputable def Iv (X:Cx) (ifs:List Expr) (t:TT):Prop :=
 ∀ (pins:List (Addr×Obj)) (s:Shared) (σ:St) (H:Hp) (Q:Bool->Hp->Prop),Inv X pins σ H s->t σ H Q ->
  wpAny (model X.prog X.w) X.A (forIn ifs true fun c r=>if r=true then do let ok <- isTrue c X.env (eval c X.env); pure (ForInStep.yield ok) else pure (ForInStep.yield r)) (TP X pins σ Q) X.xe s
noncomputable def Nu:TT:=fun _ H Q=>Q true H
theorem Zpv {X:Cx}:Iv X [] Nu:=fun _ _ _ H _ I h=>wpAny_tests_nil ⟨H,I,h⟩
section
variable {X:Cx} {elt target iter:Expr} {ifs:List Expr} {scope:Scope} {pos:Pos} {N:List Str} {wi:TI} {σ0:St->St} {g:TG} {tt:TT} {te:TE}
theorem Zc2 {pins:List (Addr×Obj)} {σ:St} {H:Hp} {s:Shared} {it:Addr} {fp:List Addr} {tn:Nat->Heap->Prop} {J:It} {Q:Addr->Hp->Prop} {RR:Value->Addr->Result->Shared->Prop} {E:Value->Shared->Prop}
  (hc:X.calm=true) (S:Gq scope X.env) (T:Fq X scope N σ (σ0 σ)) (I:Inv X pins σ H s) (Tn:Fu X.prog X.w X.K target J fp it tn) (st:tn 0 s.heap) (hf:∀ b∈fp,FpOk X pins H b)
  (hg:∀ C s H fp,PG (C6 X scope C N s H fp) target g) (ht:∀ C s H fp,Iv (C6 X scope C N s H fp) ifs tt) (he:∀ C s H fp,PE (C6 X scope C N s H fp) elt te)
  (hw:∀ D,H D=none->∃ W:Nat->Nat->St->Hp->Prop,(∃ m,W 0 m (σ0 σ) (upd H D (.lst [])))/\∀ i m σ' H',W i m σ' H' ->
   (J.stop i H'/\Q D H')\/(J.go i H'/\∃ N:St->Hp->Prop,(∀ σ2 H2,N σ2 H2->∃ m',m' < m/\W (i + 1) m' σ2 H2)/\∀ x H2,J.yld i H' x H2->g x σ' H2 fun σ2 H3=>tt σ2 H3 fun b H4 =>
    if b=true then te σ2 H4 fun y H5=>∃ ys,H5 D=some (.lst ys)/\ys.length < sizeLine/\N σ2 (upd H5 D (.lst (ys++[y]))) else N σ2 H4))
  (hR:∀ (D C:Addr) (H':Hp) (s':Shared) (m:Str->Option Value),s.heap.objs.size<=C->H' C=none->s'.heap.Ns C m->(∀ h',Pq C s'.heap h'->Inv X pins σ H' { s' with heap:=h' })->Q D H'->RR (.ref D) C (.ok .next) s') :
  wpAny (model X.prog X.w) X.A (newList []) (fun acc s₃=>wpAny (model X.prog X.w) X.A (newFunctionEnv scope X.env.globals (Ds X.env scope.names []) [] X.env.qual none .none (some X.env)) (fun cenv s₄ =>
   codeAny (model X.prog X.w) X.A (.compStart (.ListComp elt [⟨target,iter,ifs,0⟩] scope pos) 0 (.ref it) acc { cenv with scope:=relabel scope X.env }) (RR acc cenv.locals) s₄) E s₃) E s:=by
 refine Rm (wpAny_newFunctionEnv S.nocell (by intro y hy; simp at hy) (fun h₁ hns₁ hsb₁=>?_) S.kind)
 have hD:H s.heap.objs.size=none:=I.hok.fresh (Pa _)
 have I3:Inv X pins σ (upd H s.heap.objs.size (.lst [])) { s with heap:=s.heap.push { cls:=.type "list",dict:=none,data:=.seq ([]:List Value).toArray } }:=I.lnew (ys:=[]) (its:=[]) (t':=s.toks) .nil (by simp)
 have hlt:∀ b∈fp,b < s.heap.objs.size:=fun b hb=>by obtain ⟨o,e,_⟩:=Tn.obj _ _ st b hb; exact Pe e
 have hf3:∀ b∈fp,FpOk X pins (upd H s.heap.objs.size (.lst [])) b:=fun b hb=>⟨by rw [Af (Pl (hlt b hb))]; exact (hf b hb).1,(hf b hb).2⟩
 have hlt3:∀ b∈fp,b < ({ s with heap:=s.heap.push { cls:=.type "list",dict:=none,data:=.seq ([]:List Value).toArray } }:Shared).heap.objs.size:=fun b hb=>by
  show b < (s.heap.push _).objs.size
  rw [Qc]
  exact Nat.lt_succ_of_lt (hlt b hb)
 have hk1:∀ b o,({ s with heap:=s.heap.push { cls:=.type "list",dict:=none,data:=.seq ([]:List Value).toArray } }:Shared).heap.get? b=some o->h₁.get? b=some o:=fun b o e =>
  hsb₁.extBut b o (Pl (Pe e)) (Pd _ e)
 have I4:=Zl0 (N:=N) (tk:=s.toks + ([]:List (Str×Value)).length) I3 S hf3 hlt3 T hns₁ hk1
 have st4:tn 0 h₁:=Tn.keep _ _ _ st fun b hb o e=>hk1 b o (Pd _ e)
 obtain ⟨W,⟨m0,w0⟩,turn⟩:=hw _ hD
 generalize hX:C6 X scope ({ s with heap:=s.heap.push { cls:=.type "list",dict:=none,data:=.seq ([]:List Value).toArray } }:Shared).heap.objs.size N { s with heap:=s.heap.push { cls:=.type "list",dict:=none,data:=.seq ([]:List Value).toArray } } (upd H s.heap.objs.size (.lst [])) fp=X' at I4
 have eP:X'.prog=X.prog:=by rw [<- hX]; rfl
 have eW:X'.w=X.w:=by rw [<- hX]; rfl
 have eK:X'.K=X.K:=by rw [<- hX]; rfl
 have eA:X'.A=X.A:=by rw [<- hX]; rfl
 have eC:X'.calm=true:=by rw [<- hX]; exact hc
 have eX:X'.xe=fun _ _=>False:=by rw [<- hX]; rfl
 have eEx:X'.ex=fp:=by rw [<- hX]; rfl
 have hg':PG X' target g:=by rw [<- hX]; exact hg _ _ _ _
 have ht':Iv X' ifs tt:=by rw [<- hX]; exact ht _ _ _ _
 have he':PE X' elt te:=by rw [<- hX]; exact he _ _ _ _
 have eE:X'.env=compEnvC scope (Ds X.env scope.names []) ({ s with heap:=s.heap.push { cls:=.type "list",dict:=none,data:=.seq ([]:List Value).toArray } }:Shared).heap.objs.size X.env:=by rw [<- hX]; rfl
 have fpIn:∀ {H':Hp},(∀ b∈fp,H' b=none)->∀ b∈fp,FpOk X' [] H' b:=fun {H'} hn b hb=>by
  obtain ⟨f0,f1,f2,f3,f4,f5⟩:=hf3 b hb
  rw [<- hX]
  refine ⟨hn b hb,Pl (hlt3 b hb),fun z=>?_,.inl hb,fun x c e=>f4 x c (Zbp (ns:=scope.names) (acc:=[]) (fun y d z=>by simp at z) e),fun p hp=>absurd (show p∈([]:List (Addr×Obj)) from hp) (by simp)⟩
  rcases Pm.mp (I3.stkSub b z) with e | e
  ·exact f1 e
  ·exact f2 e
 have fr0:∀ b∈fp,upd H s.heap.objs.size (.lst []) b=none:=fun b hb=>(hf3 b hb).1
 have loop:codeAny (model X.prog X.w) X.A (.compLoop (.ListComp elt [⟨target,iter,ifs,0⟩] scope pos) 0 (.ref it) (.ref s.heap.objs.size) X'.env)
   (RR (.ref s.heap.objs.size) ({ s with heap:=s.heap.push { cls:=.type "list",dict:=none,data:=.seq ([]:List Value).toArray } }:Shared).heap.objs.size)
   { s with heap:=h₁,toks:=s.toks + ([]:List (Str×Value)).length }:=by
  refine Zp5 (fun n s'=>∃ i σ' H',Inv X' [] σ' H' s'/\tn i s'.heap/\(∀ b∈fp,H' b=none)/\W i n σ' H') ?_ m0 ⟨0,σ0 σ,_,I4,st4,fr0,w0⟩
  rintro n s5 ⟨i,σ5,H5,I5,st5,fr5,w5⟩
  rcases turn i n σ5 H5 w5 with ⟨stop,qn⟩ | ⟨go,Nx,hN,step⟩
  ·have q:=Tn.done X' eP eW eK eC i [] s5 σ5 H5 (fun _ _=>False) I5 (fpIn fr5) st5 stop
   rw [eA] at q
   refine Am q fun r s6 ⟨hr,I6⟩=>?_
   subst hr
   obtain ⟨mm,hns6,_⟩:=I6.loc
   rw [eE] at hns6
   have fr6:=I6.free
   rw [eE] at fr6
   refine hR _ _ H5 s6 mm ?_ fr6 hns6 (fun h' hs=>?_) qn
   ·show s.heap.objs.size<=(s.heap.push _).objs.size
    rw [Qc]
    exact U8 _
   ·rw [<- hX] at I6
    exact Zih I3 hf3 I6 hs
  ·have q:=Tn.item X' eP eW eK eC i [] s5 σ5 H5 (fun _ _=>False) I5 (fpIn fr5) st5 go
   rw [eA] at q
   refine Am q fun r s6 ⟨u,hr,h6⟩=>?_
   subst hr
   refine Am h6 fun _ s7 ⟨x,H7,I7,r7,y7,st7,fr7⟩=>?_
   have I7':=I7.pinned (fpIn fr7) (Tn.obj _ _ st7)
   have q8:=hg' _ s7 σ5 H7 x u _ I7' r7 (step x H7 y7)
   rw [eP,eW,eA,eX] at q8
   refine Am q8 fun _ s8 ⟨σ8,H8,I8,q8⟩=>?_
   have q9:=ht' _ s8 σ8 H8 _ I8 q8
   rw [eP,eW,eA,eX] at q9
   refine Am q9 fun ok s9 ⟨H9,I9,q9⟩=>?_
   have again:∀ {σ10:St} {H10:Hp} {s10:Shared},Inv X' ([]++Kj fp s7.heap) σ10 H10 s10->Nx σ10 H10->∃ m,m < n/\∃ i σ' H',Inv X' [] σ' H' s10/\tn i s10.heap/\(∀ b∈fp,H' b=none)/\W i m σ' H':=fun {σ10 H10 s10} J10 n10=>by
    obtain ⟨m',hm,w10⟩:=hN σ10 H10 n10
    refine ⟨m',hm,i + 1,σ10,H10,J10.unpinned,Tn.keep _ _ _ st7 fun b hb o e=>(J10.pin (b,o) (Q2 _ (Q2 _ (Mu hb e)))).1,fun b hb=>?_,w10⟩
    obtain ⟨o,e,d⟩:=Tn.obj _ _ st7 b hb
    exact (J10.pin (b,o) (Q2 _ (Q2 _ (Mu hb e)))).2.1
   cases ok with
   | false =>
    have q9':Nx σ8 H9:=q9
    exact again I9 q9'
   | true =>
    have q9':te σ8 H9 _:=q9
    have q10:=he' _ s9 σ8 H9 _ I9 q9'
    rw [eP,eW,eA,eX] at q10
    refine Am q10 fun y s10 ⟨yv,H10,I10,r10,ys,hys,hz,n10⟩=>?_
    have q11:=(B6 (X:=X')) _ s10 σ8 H10 (.ref s.heap.objs.size) [yv] (.ref s.heap.objs.size) [y] (fun _ H11=>Nx σ8 H11) I10 rfl (.cons r10 .nil) ⟨_,ys,yv,rfl,rfl,hys,hz,n10⟩
    rw [eP,eW,eA,eX] at q11
    exact Am q11 fun _ s11 ⟨_,H11,I11,_,n11⟩=>again I11 n11
 rw [eE] at loop
 exact codeAny_compStart_list loop (Tn.self _ 0 _ _ _ st4 loop)
theorem Zoc (hc:X.calm=true) (S:Gq scope X.env) (hi:PI X target iter wi) (T:∀ σ,σ.length=X.N.length->Fq X scope N σ (σ0 σ))
  (hg:∀ C s H fp,PG (C6 X scope C N s H fp) target g) (ht:∀ C s H fp,Iv (C6 X scope C N s H fp) ifs tt) (he:∀ C s H fp,PE (C6 X scope C N s H fp) elt te)
  (hs:∀ x,foldedSetIterable iter X.env x=pure x:=by intro _; rfl):PE X (.ListComp elt [⟨target,iter,ifs,0⟩] scope pos) (J9 wi σ0 g tt te):=by
 intro pins s σ H Q I h
 rw [eval_ListComp]
 refine wpAny_comprehension_free (use:=none) rfl hs (Zdn S.free) S.kind S.loc (Am (hi pins s σ H _ I h) fun xv s₁ h₁=>Am h₁ fun itv s₂ h₂=>?_)
 obtain ⟨it,fp,tn,J,H2,rfl,I2,Tn,st2,f2,hw⟩:=h₂
 refine Zc2 (Q:=fun D H'=>Q (.ref D) H') (RR:=fun acc C=>compPost (model X.prog X.w) X.A X.xe none (EP X pins σ Q) acc C) hc S (T σ I.len) I2 Tn st2 f2 hg ht he hw ?_
 intro D C H' s' m hC _ hn hI hq
 exact ⟨m,hn,fun h' hs'=>⟨.ref D,H',hI h' hs',rfl,hq⟩⟩
theorem Zlr {i:Nat} {y:Str} {py spos:Pos} (hc:X.calm=true) (S:Gq scope X.env) (hi:PI X target iter wi) (T:∀ σ,σ.length=X.N.length->Fq X scope N σ (σ0 σ))
  (hg:∀ C s H fp,PG (C6 X scope C N s H fp) target g) (ht:∀ C s H fp,Iv (C6 X scope C N s H fp) ifs tt) (he:∀ C s H fp,PE (C6 X scope C N s H fp) elt te)
  (hN:X.N.Nodup) (hy:X.N[i]?=some y) (hx:Fi X.env.scope y)
  (hsw:swapsWith (.ListComp elt [⟨target,iter,ifs,0⟩] scope pos) (some (.Name y py)) spos.line X.env=pure true:=by rfl)
  (hf:X.fn y=true\/X.env.scope.names.lookup y=some .local:=by first | exact .inl rfl | exact .inr rfl | assumption)
  (hs:∀ x,foldedSetIterable iter X.env x=pure x:=by intro _; rfl):PS X (.Assign [.Name y py] (.ListComp elt [⟨target,iter,ifs,0⟩] scope pos) spos) (Gc (J9 wi σ0 g tt te) (Fz i)):=by
 intro pins s σ H D I h
 rw [exec_Assign_Name_used _ _ _ _ hsw]
 refine O8 (wpAny_standAt (O8 ?_))
 show wpAny _ X.A (do let _ <- comprehension (.ListComp elt [⟨target,iter,ifs,0⟩] scope pos) scope X.env _ (newList []) false (eval iter X.env) (some (assign (.Name y py) X.env))) _ _ s
 refine O8 (Am (wpAny_comprehension_free (use:=some (assign (.Name y py) X.env)) (Q:=fun _ s'=>SP X pins D .next s') rfl hs (Zdn S.free) S.kind S.loc
  (Am (hi pins s σ H _ I h) fun xv s₁ h₁=>Am h₁ fun itv s₂ h₂=>?_)) fun _ s' hq=>O9 (O9 hq))
 obtain ⟨it,fp,tn,J,H2,rfl,I2,Tn,st2,f2,hw⟩:=h₂
 refine Zc2 (Q:=fun L H'=>D.nx (σ.set i (some (.ref L))) H') (RR:=fun acc C=>compPost (model X.prog X.w) X.A X.xe (some (assign (.Name y py) X.env)) (fun _ s'=>SP X pins D .next s') acc C) hc S (T σ I.len) I2 Tn st2 f2 hg ht he hw ?_
 intro L C H' s' m hC hfree hn hI hq
 have I3:Inv X pins σ H' s':=hI s'.heap (.refl ..)
 refine wpAny_assign_Name (Zel I3 hN hy hx (v:=.ref L) rfl (fun s4 I4 hch=>?_) hf)
 obtain ⟨a,hsb,ha⟩:=hch
 have haC:C≠a:=by
  rintro rfl
  rcases ha with e | e
  ·have:=I2.lt
   rw [<- e] at this
   exact absurd (Pr this hC) (Qp _)
  ·obtain ⟨v,z⟩:=I2.cell y _ e
   exact absurd (Pr z.lt hC) (Qp _)
 refine ⟨m,hn.sameBut hsb haC,fun h' hs'=>⟨_,H',?_,hq⟩⟩
 have e4:({ s4 with heap:=h' }:Shared)={ s4 with heap:=h',toks:=s4.toks }:=rfl
 rw [e4]
 refine I4.turned (it:=C) (fun b o hb e=>(hs'.2 b hb).trans e) hfree ?_ (.inr (P3 I2.sz hC)) ?_ ?_
 ·exact Qk (Pr I2.lt hC)
 ·rintro x c e rfl
  obtain ⟨v,z⟩:=I2.cell x _ e
  exact absurd (Pr z.lt hC) (Qp _)
 ·rintro p hp e
  exact absurd (Pr (Pe (I2.pin p hp).1) (by rw [e]; exact hC)) (Qp _)
end
end L2
namespace L2
open PySem PySem.Spec PyProof.Rows
section
variable {X:Cx}
theorem Zq3 {K:O7} {T:String}:P4 K (.type T) (.type T)=some true:=by
 unfold P4
 rw [if_pos (by simp)]
theorem Zp7 {K:O7} {T U:String} {b:Bool} {l:List Value} (hm:PySem.W.kitMeta U=true) (hn:¬ T=U) (hl:fastBuiltinMro T=some l) (hb:l.contains (.type U)=b):P4 K (.type T) (.type U)=some b:=by
 unfold P4
 rw [if_neg (by simp [hn])]
 show (if PySem.W.kitMeta U=true then Qh K (.type T) (.type U) else none)=some b
 rw [if_pos hm]
 show (fastBuiltinMro T).map (·.contains (.type U))=some b
 rw [hl,<- hb]
 rfl
theorem Zkd:OpR X (compareOp .LtE) (fun x y H Q=>∃ i j,x=.str i/\y=.str j/\Q (.bl (!(decide (j.cps.toList < i.cps.toList)))) H):=by
 intro pins s σ H x y v u Q I rx ry h
 obtain ⟨i,j,rfl,rfl,q⟩:=h
 obtain ⟨t,rfl⟩:=rx
 obtain ⟨t',rfl⟩:=ry
 exact PySem.P.le_str (Bk I q rfl)
theorem Zhu:OpR X (compareOp .In) (fun x y H Q=>∃ (c:Nat) (j:Str),x=.str ⟨#[c]⟩/\y=.str j/\Q (.bl (decide (c∈j.cps.toList))) H):=by
 intro pins s σ H x y v u Q I rx ry h
 obtain ⟨c,j,rfl,rfl,q⟩:=h
 exact Zqs pins s σ H _ _ v u Q I rx ry ⟨_,_,rfl,rfl,by rw [StrLaws.found_one]; exact q⟩
noncomputable def Zba:V->Option Int->Option Int->Hp->VK->Prop:=fun x lo hi H Q=>∃ z,x=.str z/\z.length<=sizeLine/\Q (.str (Ts z lo hi)) H
theorem sl_str:SlR X Zba:=by
 intro pins s σ H x v vl vu lo hi sl Q I rx hs pl pu h
 obtain ⟨z,rfl,hz,q⟩:=h
 obtain ⟨t,rfl⟩:=rx
 obtain ⟨o,ho,hc,hd⟩:=hs
 refine ⟨"str",_,slot_str_getitem.lookup,typeIs_str _ _ _,?_⟩
 cases pl with
 | none =>
  cases pu with
  | none=>exact T9 (l:=none) (u:=none) (st:=none) ⟨_,ho,hc,hd⟩ rfl (Ur ⟨P3 (U5 z _ _) hz,fun t' k=>⟨.str (Ts z _ _),H,I.tok k,⟨t',rfl⟩,q⟩⟩)
  | int j u=>exact T9 (l:=none) (u:=some (j,u)) (st:=none) ⟨_,ho,hc,hd⟩ rfl (Ur ⟨P3 (U5 z _ _) hz,fun t' k=>⟨.str (Ts z _ _),H,I.tok k,⟨t',rfl⟩,q⟩⟩)
 | int i ti =>
  cases pu with
  | none=>exact T9 (l:=some (i,ti)) (u:=none) (st:=none) ⟨_,ho,hc,hd⟩ rfl (Ur ⟨P3 (U5 z _ _) hz,fun t' k=>⟨.str (Ts z _ _),H,I.tok k,⟨t',rfl⟩,q⟩⟩)
  | int j u=>exact T9 (l:=some (i,ti)) (u:=some (j,u)) (st:=none) ⟨_,ho,hc,hd⟩ rfl (Ur ⟨P3 (U5 z _ _) hz,fun t' k=>⟨.str (Ts z _ _),H,I.tok k,⟨t',rfl⟩,q⟩⟩)
end
end L2
namespace L2
open PySem PySem.Spec PyProof.Rows
noncomputable def Its (z:Str):It:=⟨fun i _=>i < z.cps.size,fun i H x H'=>H'=H/\∃ c,z.cps.toList[i]?=some c/\x=.str ⟨#[c]⟩,fun i _=>i=z.cps.size⟩
theorem Znt (z:Str):["enumerate", "zip", "dict_itemiterator", "dict_reverseitemiterator", "odict_iterator", "itertools.zip_longest", "itertools.pairwise"].contains (strIterType z)=false:=by
 unfold strIterType
 cases z.cps.all (· < 128) <;> decide
theorem Zey {P:Program} {w:World} {A:Around} (hh:A.handled=none) (it:Addr) (z:Str) (t:Tok):Walks P w A it [it] [it] z.cps.size (SignAt z) (fun i h=>h.IsStrIter it (strIterType z) z t i):=by
 unfold strIterType
 cases z.cps.all (· < 128)
 ·exact Walks.strWide hh it z t
 ·exact Walks.strAscii hh it z t
theorem Zjn {P:Program} {w:World} {K:O7} {tg:Expr} (it:Addr) (z:Str) (t:Tok):Fu P w K tg (Its z) [it] it (fun i h=>h.IsStrIter it (strIterType z) z t i) where
 mem:=by simp
 obj:=fun i h st b hb=>by
  have e:b=it:=by simpa using hb
  subst e
  obtain ⟨o,e,c,d⟩:=st
  exact ⟨o,e,fun v z=>by rw [d] at z; cases z⟩
 keep:=fun i h h' st k=>let ⟨o,e,r⟩:=st; ⟨o,k it (by simp) o e,r⟩
 item:=by
  intro X hP hw hK hc i pins s σ H E I hf st hg
  subst hP hw hK
  obtain ⟨f0,f1,f2,f3,f4,f5⟩:=hf it (by simp)
  refine (Zey (P:=X.prog) (w:=X.w) (I.ok.hd hc) it z t).item i s _ _ hg st fun v h' tk hv st' kk=>?_
  obtain ⟨c,u,hcu,rfl⟩:=hv
  have I1:Inv X pins σ H { s with heap:=h',toks:=tk }:=I.turned (fun b o hb e=>kk b o (by simpa using hb) e) f0 f1 f3 f4 f5
  obtain ⟨o,e,cc,d⟩:=id st'
  exact ⟨_,rfl,Hq (s:={ s with heap:=h',toks:=tk }) e cc d (Znt z) ⟨.str ⟨#[c]⟩,H,I1,⟨u,rfl⟩,⟨rfl,c,by simpa using hcu,rfl⟩,st',fun b hb=>(hf b hb).1⟩⟩
 done:=by
  intro X hP hw hK hc i pins s σ H E I hf st hg
  subst hP hw hK
  obtain ⟨f0,f1,f2,f3,f4,f5⟩:=hf it (by simp)
  have hg:i=z.cps.size:=hg
  subst hg
  exact (Zey (P:=X.prog) (w:=X.w) (I.ok.hd hc) it z t).done s _ _ st fun h' tk kk=>⟨rfl,I.turned (fun b o hb e=>kk b o (by simpa using hb) e) f0 f1 f3 f4 f5⟩
 self:=fun A i s Q E st h=>by
  obtain ⟨o,e,c,d⟩:=st
  unfold strIterType at c
  cases ha:z.cps.all (· < 128)
  ·rw [ha] at c; exact wpAny_pyIter_striter_wide ⟨o,e,c,d⟩ h
  ·rw [ha] at c; exact wpAny_pyIter_striter_ascii ⟨o,e,c,d⟩ h
section
variable {X:Cx} {tg:Expr}
end
section
variable {g:TG} {tt:TT} {te:TE} {σ0:St} {H1:Hp} {D:Addr} {Q:VK}
noncomputable def Zap (g:TG) (tt:TT) (te:TE) (D:Addr) (Nx:List V->St->Hp->Prop) (x:V) (σ:St) (H:Hp):Prop :=
 g x σ H fun σ2 H3=>tt σ2 H3 fun b H4=>if b=true then te σ2 H4 fun y H5=>∃ ys,H5 D=some (.lst ys)/\ys.length < sizeLine/\(∃ zs,upd H5 D (.lst (ys++[y])) D=some (.lst zs)/\Nx zs σ2 (upd H5 D (.lst (ys++[y])))) else ∃ zs,H4 D=some (.lst zs)/\Nx zs σ2 H4
theorem Mq {K:O7} {a:Addr} {xs:List V} (Pv:Nat->List V->St->Hp->Prop) (h0:Pv 0 [] σ0 (upd H1 D (.lst []))) (hl:∀ i ys σ H,i<=xs.length->Pv i ys σ H->SqL K H a xs)
  (hs:∀ i x ys σ H,xs[i]?=some x->H D=some (.lst ys)->Pv i ys σ H->Zap g tt te D (Pv (i + 1)) x σ H)
  (hd:∀ ys σ H,H D=some (.lst ys)->Pv xs.length ys σ H->Q (.ref D) H):Lz (Gg K a) g tt te σ0 H1 D Q:=by
 refine ⟨fun i m σ H=>m=xs.length - i/\i<=xs.length/\∃ ys,H D=some (.lst ys)/\Pv i ys σ H,⟨xs.length,by simp,Pu _,[],Ae,h0⟩,?_⟩
 rintro i m σ H ⟨rfl,hi,ys,hD,p⟩
 have q:=hl i ys σ H hi p
 by_cases hlt:i < xs.length
 ·refine .inr ⟨⟨xs,xs[i],q,by simp [hlt]⟩,fun σ2 H2=>∃ zs,H2 D=some (.lst zs)/\Pv (i + 1) zs σ2 H2,fun σ' H' p'=>⟨xs.length - (i + 1),by omega,rfl,hlt,p'⟩,fun x H' y=>?_⟩
  obtain ⟨e,y⟩:=y
  subst e
  exact hs i x ys σ _ (y xs q) hD p
 ·have e:i=xs.length:=by omega
  subst e
  exact .inl ⟨⟨xs,q,Pa _⟩,hd ys σ H hD p⟩
end
section
variable {X:Cx}
theorem Zgr:∀ {bs:List Bool} {us:List Value},Vals (bs.map V.bl) us->us=bs.map Value.bool
 | [],_,.nil=>rfl
 | b :: bs,_,.cons r t=>by
  cases r
  rw [Zgr t]
  rfl
theorem Zh3 {bs:List Bool}:(Pw bs.length).all (fun i=>bs.getD i true)=bs.all id:=by
 induction bs with
 | nil=>rfl
 | cons b r ih =>
  rw [P8,List.range_succ_eq_map,Q7,List.all_map,Q7]
  have:((fun i=>(b :: r).getD i true) ∘ Nat.succ)=fun i=>r.getD i true:=by
   funext i
   simp
  rw [this,ih]
  rfl
theorem Zqd (hc:X.calm=true):Ct X (.builtin "all") (fun xs H Q=>∃ (p:Addr) (bs:List Bool),xs=[.ref p]/\SqL X.K H p (bs.map V.bl)/\Q (.bl (bs.all id)) H):=by
 intro pins s σ H xs us Q I r h
 obtain ⟨p,bs,rfl,hq,q⟩:=h
 obtain ⟨u,rfl,ru⟩:=r.one
 cases ru
 obtain ⟨its,rv,pl,hz⟩:=I.list hq
 obtain rfl:=Zgr rv
 refine call_all_walk (Tb pl.isList ?_)
 have hlt:p < s.heap.objs.size:=by obtain ⟨o,e,_⟩:=pl.isList; exact Pe e
 have hl':(s.heap.push { cls:=.type "list_iterator",data:=.fields #[.ref p,rawInt 0] }).IsList p (bs.map Value.bool).toArray:=pl.isList.at fun o e=>Pd _ e
 refine ⟨s.heap.objs.size,_,_,_,_,_,fun i=>bs.getD i true,rfl,Walks.list (A:=X.A.in1) (show X.A.in1.handled=none from I.ok.hd hc) s.heap.objs.size p (Pl hlt) (bs.map Value.bool).toArray,⟨⟨_,Pp _ rfl,rfl,rfl⟩,?_⟩,?_,?_⟩
 ·exact pl.isList.at fun o e=>Pd _ e
 ·intro i v s' Q' E' hv hQ
  have hv':(bs.map Value.bool)[i]?=some v:=by simpa using hv
  rw [Qn] at hv'
  cases e:bs[i]? with
  | none=>rw [e] at hv'; cases hv'
  | some b =>
   rw [e] at hv'
   cases hv'
   have:bs.getD i true=b:=by simp [List.getD,e]
   have hQ:Q' (bs.getD i true) s':=hQ
   rw [this] at hQ
   exact Rc hQ
 ·intro h' tk hk
  have I1:Inv X pins σ H { s with heap:=s.heap.push { cls:=.type "list_iterator",data:=.fields #[.ref p,rawInt 0] } }:=I.kept (t':=s.toks) fun b o e=>Pd _ e
  have F:=I.fpOk (Pa s.heap.objs.size) (I.hok.fresh (Pa _))
  obtain ⟨f0,f1,f2,f3,f4,f5⟩:=F
  have I2:Inv X pins σ H { s with heap:=h',toks:=tk }:=Inv.turned (s:={ s with heap:=s.heap.push { cls:=.type "list_iterator",data:=.fields #[.ref p,rawInt 0] } }) (h':=h') (t':=tk) (it:=s.heap.objs.size) I1 (fun b o hb e=>hk b o (by simpa using hb) e) f0 f1 f3 f4 f5
  refine ⟨.bl (bs.all id),H,I2,?_,q⟩
  show Value.bool _=Value.bool _
  have:(bs.map Value.bool).toArray.size=bs.length:=by simp
  rw [this,Zh3]
end
end L2
namespace L2
open PySem PySem.Spec PyProof.Rows
theorem Same.upd {H:Hp} {p:Addr} {o:HO} (h:H p=none):Same H (upd H p o):=fun b u e=>by rw [Af (Cg e h)]; exact e
theorem Aj {H:Hp} {a:Addr} (h:H a=none) (o:HO):∃ H1,Same H H1/\H1 a=some o/\upd H a o=H1:=⟨_,Same.upd h,Ae,rfl⟩
theorem Same.put {H0 H:Hp} {p:Addr} {o:HO} (s:Same H0 H) (h:H p=none):Same H0 (L2.upd H p o):=s.trans (Same.upd h)
theorem Same.over {H0 H:Hp} {p:Addr} {o:HO} (s:Same H0 H) (h:H0 p=none):Same H0 (L2.upd H p o):=fun b u e=>by rw [Af (Cg e h)]; exact s b u e
theorem Same.tup {K:O7} {H H':Hp} {a:Addr} {xs:List V} (e:Same H H') (h:SqT K H a xs):SqT K H' a xs:=by
 rcases h with (h | ⟨o,h⟩) | h
 ·exact .inl (.inl (e _ _ h))
 ·exact .inl (.inr ⟨o,e _ _ h⟩)
 ·exact .inr h
theorem Jb {sc out:Scope} {qual:Str} {n:Nat} {f:Addr} {cd:Value} (hk:sc.kind=.function) (hc:(sc.names.all fun y=>y.2 != .cell)=true)
  (hl:(sc.names.all fun y=>y.2 != .local || sc.names.lookup y.1 == some .local)=true) (hf:(sc.names.all fun y=>y.2 != .free || out.names.lookup y.1 == some .cell)=true):Gq sc (envOfC qual out n f cd) where
 kind:=hk
 nocell:=fun y hy e=>by have:=Sf.mp hc y hy; rw [e] at this; cases this
 loc:=fun y hy e=>by
  have:=Sf.mp hl y hy
  rw [e] at this
  simpa using this
 free:=fun y hy e=>by
  have h:=Sf.mp hf y hy
  rw [e] at h
  have h:out.names.lookup y.1=some .cell:=by simpa using h
  obtain ⟨c,hc⟩:=Za6 (n:=n + 1) h
  show ((cellsFrom (n + 1) out.names []).lookup y.1).isSome=true
  rw [hc]
  rfl
noncomputable def Ew (k:Nat) (cap:List Nat) (σ:St):St:=P7 k none++cap.map fun j=>(σ[j]?).join
theorem Zk1 {X:Cx} {scope:Scope} {N:List Str} {k:Nat} {cap:List Nat} {σ:St} (hl:k + cap.length=N.length)
  (h:∀ (i j:Nat) (x:Str),cap[i]?=some j->N[k + i]?=some x->X.N[j]?=some x/\scope.names.lookup x=some .free/\(X.env.kindOf x=some .cell\/X.env.kindOf x=some .free)):Fq X scope N σ (Ew k cap σ):=by
 refine ⟨by unfold Ew; simp [hl],fun i x v hx hv=>?_⟩
 unfold Ew at hv
 by_cases hi:i < k
 ·rw [P0 (by simpa using hi),List.getElem?_replicate,if_pos hi] at hv
  cases hv
 ·rw [Rb (by simpa using hi),Sv,Qn] at hv
  cases hj:cap[i - k]? with
  | none=>rw [hj] at hv; cases hv
  | some j =>
   rw [hj] at hv
   have hv:(σ[j]?).join=some v:=Qf hv
   obtain ⟨h1,h2,h3⟩:=h (i - k) j x hj (by rw [show k + (i - k)=i by omega]; exact hx)
   refine ⟨j,h1,?_,h2,h3⟩
   cases e:σ[j]? with
   | none=>rw [e] at hv; cases hv
   | some o=>rw [e] at hv; exact congrArg some hv
theorem Hx {X:Cx} {scope:Scope} {N:List Str} {k:Nat} {cap:List Nat} (hl:k + cap.length=N.length)
  (h:((cap.zip (N.drop k)).all fun p=>X.N[p.1]? == some p.2 && scope.names.lookup p.2 == some .free && (X.env.kindOf p.2 == some .cell || X.env.kindOf p.2 == some .free))=true):∀ σ,σ.length=X.N.length->Fq X scope N σ (Ew k cap σ):=fun σ _ =>
 Zk1 hl fun i j x hj hx=>by
  have m:(j,x)∈cap.zip (N.drop k):=by
   refine Rl (i:=i) ?_
   rw [List.getElem?_zip_eq_some]
   exact ⟨hj,by rw [List.getElem?_drop]; exact hx⟩
  have:=Sf.mp h _ m
  simp only [Q5,Bool.or_eq_true,beq_iff_eq] at this
  exact ⟨this.1.1,this.1.2,this.2⟩
theorem Zb1 {α:Type} {xs:List α} {i:Int} (h0:0<=i) (h1:i < xs.length):∃ v,Cm xs i=some v/\v∈xs:=by
 have hj:i.toNat < xs.length:=by omega
 refine ⟨xs[i.toNat],?_,Vw hj⟩
 have:=Bc (xs:=xs) (j:=i.toNat) (v:=xs[i.toNat]) (by simp [hj])
 rwa [Sz h0] at this
noncomputable def Os:Expr->Option V
 | .Constant (.str x) _ _=>some (.str x)
 | .Constant (.int i) _ _=>some (.int i)
 | .Constant (.bool b) _ _=>some (.bl b)
 | .Constant .none _ _=>some .non
 | _=>none
noncomputable def Me:List Expr->Option (List V)
 | []=>some []
 | e :: es=>match Os e,Me es with
  | some v,some vs=>some (v :: vs)
  | _,_=>none
noncomputable def Zax (xs:List V):TA:=fun _ H Q=>Q xs H
theorem Zmt {X:Cx} {e:Expr} {v:V} (h:Os e=some v):PE X e (tC v)/\∀ es,starEach (e :: es) X.env=(false,eval e X.env) :: starEach es X.env:=by
 unfold Os at h
 split at h
 ·cases h; exact ⟨Zd8,fun _=>rfl⟩
 ·cases h; exact ⟨Zhi,fun _=>rfl⟩
 ·cases h; exact ⟨Zhp,fun _=>rfl⟩
 ·cases h; exact ⟨Zc6,fun _=>rfl⟩
 ·cases h
theorem Zf6 {X:Cx}:∀ {es:List Expr} {xs:List V},Me es=some xs->PA X es (Zax xs)
 | [],xs,h=>by
  have h:some []=some xs:=h
  cases h
  exact Zdg
 | e :: es,xs,h=>by
  unfold Me at h
  split at h
  ·rename_i v vs h1 h2
   cases h
   obtain ⟨p,hs⟩:=Zmt (X:=X) h1
   exact Zej p (Zf6 h2) (hs es)
  ·cases h
structure A8 (P:Program) (w:World) (K:O7) (mg:Str->Option Value) (base:Heap) (k:Nat) (x:Str) (ps:List Str) (sp:Sp):Prop where
 ex:∃ (f:Addr) (fd:FuncData),FnOk P w K mg base An k f fd ps sp/\mg x=some (.ref f)/\Q6 K (.ref f)=true/\Binds K fd ps []
section
variable {X:Cx} {k:Nat} {x:Str} {ps:List Str} {sp:Sp} {p pos:Pos} {e:Expr} {es:List Expr} {t:TA}
theorem Zqm (C:A8 X.prog X.w X.K X.mg X.base k x ps sp) (hr:Room k X.A) (ha:PA X (e :: es) t) (hg:Gl X x:=by rfl) (hdb:(x == ("__debug__" : Str))=false:=by decide)
  (he:starEach (e :: es) X.env=(false,eval e X.env) :: starEach es X.env:=by rfl) (hpl:(backTo pos (starEach es X.env)).any (·.1)=false:=by rfl):PE X (.Call (.Name x p) (e :: es) [] pos) (Jf sp [] E0 t):=by
 obtain ⟨f,fd,F,hm,hk,hb⟩:=C.ex
 exact Zg7 F hr hg hm hk hb .nil Cw ha hdb he hpl
end
end L2
namespace L2
open PySem
theorem Zqf {x:V} {u:Value} (h:Lu u=some x):RelV x u:=by
 cases u <;> simp only [Lu] at h <;> first | (cases h; first | rfl | exact ⟨_,rfl⟩) | cases h
noncomputable def D7:List Value->Option (List V)
 | []=>some []
 | u :: r=>match Lu u,D7 r with
  | some x,some xs=>some (x :: xs)
  | _,_=>none
theorem Zgf:∀ {us:List Value} {xs:List V},D7 us=some xs->Vals xs us
 | [],xs,h=>by
  have h:some []=some xs:=h
  cases h
  exact .nil
 | u :: r,xs,h=>by
  unfold D7 at h
  split at h
  ·rename_i x ys h1 h2
   cases h
   exact .cons (Zqf h1) (Zgf h2)
  ·cases h
theorem Gh {K:O7} {a:Addr} {od:Option Addr} {its:Array Value} {n:Nat} {sl:Array (Option Value)} {xs:List V} (l:K.lookup a=some ⟨.type "tuple",od,.seq its n,sl⟩) (h:D7 its.toList=some xs) (hz:xs.length<=1000):∀ H,SqT K H a xs:=fun H=>by
 have v:=Zgf h
 refine .inr ⟨_,its,n,l,rfl,rfl,?_,v⟩
 have e:=v.length
 have b:1000<=sizeLine:=by decide
 have e2:its.toList.length=its.size:=Uh
 omega
theorem Zgi {P:Program} {w:World} {K:O7} {mg:Str->Option Value} {base:Heap} {k:Nat} {x:Str} {ps:List Str} {sp:Sp} {f:Addr} {fd:FuncData} (F:FnOk P w K mg base An k f fd ps sp) (m:mg x=some (.ref f)) (kp:Q6 K (.ref f)=true) (b:Binds K fd ps []):A8 P w K mg base k x ps sp:=⟨f,fd,F,m,kp,b⟩
section
variable {P:Program} {w:World} {K:O7} {mg:Str->Option Value} {base:Heap}
end
end L2
set_option autoImplicit true
namespace L2
open PySem PySem.Spec PyProof.Rows
structure QE (X:Cx) (e:Expr) (t:TE):Prop where
 run:PE X e t
structure QT (X:Cx) (e:Expr) (t:TT):Prop where
 run:PT X e t
structure QW (X:Cx) (e:Expr) (t:TT):Prop where
 run:PW X e t
structure QA (X:Cx) (es:List Expr) (t:TA):Prop where
 run:PA X es t
structure QS (X:Cx) (st:Stmt) (t:TS):Prop where
 run:PS X st t
structure Dz (X:Cx) (sts:List Stmt) (t:TS):Prop where
 run:PSs X sts t
structure QG (X:Cx) (e:Expr) (g:TG):Prop where
 run:PG X e g
structure QGs (X:Cx) (es:List Expr) (g:Dy):Prop where
 run:PGs X es g
structure QI (X:Cx) (tg iter:Expr) (wi:TI):Prop where
 run:PI X tg iter wi
structure QC (X:Cx) (op:CmpOp) (a b:Expr) (t:TE):Prop where
 run:PC X op a b t
structure QO (X:Cx) (e:Option Expr) (t:TO):Prop where
 run:PO X e t
structure QTs (X:Cx) (ifs:List Expr) (t:TT):Prop where
 run:Iv X ifs t
theorem Ac {i j pos}:QE X (.Constant (.int i) j pos) (tC (.int i)):=⟨Zhi⟩
theorem Cz {b j pos}:QE X (.Constant (.bool b) j pos) (tC (.bl b)):=⟨Zhp⟩
theorem Em {j pos}:QE X (.Constant .none j pos) (tC .non):=⟨Zc6⟩
theorem Ar {x j pos}:QE X (.Constant (.str x) j pos) (tC (.str x)):=⟨Zd8⟩
theorem Zbw {x:Str} {v:V} {u:Value} {pos:Pos} (hg:Gl X x) (hm:X.mg x=some u) (r:RelV v u) (hd:(x == ("__debug__" : Str))=false:=by decide):QE X (.Name x pos) (tC v):=⟨Zfn hg hm r hd⟩
theorem C8 {x:Str} {v:V} {u:Value} {pos:Pos} (hg:Gl X x) (hm:X.mg x=none) (hv:bootBuiltins x=some u) (r:RelV v u) (hn:x ≠ "__name__" := by decide) (hd:(x == ("__debug__" : Str))=false:=by decide):QE X (.Name x pos) (tC v):=⟨Zo0 hg hm hv r hn hd⟩
theorem Au {op:Operator} {r:R2} (ho:OpR X (binaryOp op) r) (ha:QE X a ta) (hb:QE X b tb):QE X (.BinOp a op b pos) (Ez r ta tb):=⟨Zo3 ho ha.run hb.run⟩
theorem Hd {op:UnaryOp} {r:V->Hp->VK->Prop} (ho:UnR X (unaryOp op) r) (ha:QE X a ta):QE X (.UnaryOp op a pos) (tUn r ta):=⟨Zoh ho ha.run⟩
theorem Zdp {op:CmpOp} {t:TE} (h:QC X op a b t) (h1:behindInMarks op b=false:=by first | exact Lq _ (by decide) (by decide) | rfl):QE X (.Compare a [op] [b] pos) t:=⟨Zk3 h.run h1⟩
theorem Zlz {op:CmpOp} {t:TE} (h:QC X op a b t) (h1:behindInMarks op b=false:=by first | exact Lq _ (by decide) (by decide) | rfl):QT X (.Compare a [op] [b] pos) (tB t):=⟨Zsh h.run h1⟩
theorem E1 {op:CmpOp} {r:R2} (ho:OpR X (compareOp op) r) (ha:QE X a ta) (hb:QE X b tb) (hm:behindInMarks op b=false):QE X (.Compare a [op] [b] pos) (Ez r ta tb):=⟨Zij ho ha.run hb.run hm⟩
theorem A6 {op:CmpOp} {r:R2} (ho:OpR X (compareOp op) r) (ha:QE X a ta) (hb:QE X b tb) (hm:behindInMarks op b=false):QT X (.Compare a [op] [b] pos) (Zad (Ez r ta tb)):=⟨Zk6 ho ha.run hb.run hm⟩
theorem Zsu {op op':CmpOp} {r r':R2} (ho:OpR X (compareOp op) r) (ho':OpR X (compareOp op') r') (ha:QE X a ta) (hb:QE X b tb) (hc:QE X c tc) (hm:lastMarks [op,op'] [b,c]=false:=by with_unfolding_all rfl):QE X (.Compare a [op,op'] [b,c] pos) (Zah r r' ta tb tc):=⟨Zsz ho ho' ha.run hb.run hc.run hm⟩
theorem Da {e:Expr} {t:TE} (h:QE X e t) (he:∀ whole,isTrue e X.env whole=(do let v <- whole; standAt e.pos; holding [v] (truthy v)):=by intro _; rfl):QT X e (tB t):=⟨Zl4 h.run he⟩
theorem Fn (ha:QT X a tA):QW X (.BoolOp .And [a] pos) tA:=⟨pw_and1 ha.run⟩
theorem Ia (ha:QT X a tA):QW X (.BoolOp .Or [a] pos) tA:=⟨pw_or1 ha.run⟩
theorem E5 {rest:List Expr} (ha:QT X a tA) (hb:QW X (.BoolOp .And (b :: rest) pos) tB'):QW X (.BoolOp .And (a :: b :: rest) pos) (Za7 tA tB'):=⟨pw_and ha.run hb.run⟩
theorem Hm {rest:List Expr} (ha:QT X a tA) (hb:QW X (.BoolOp .Or (b :: rest) pos) tB'):QW X (.BoolOp .Or (a :: b :: rest) pos) (tOr tA tB'):=⟨pw_or ha.run hb.run⟩
theorem Fv (ha:QT X a tA):QT X (.UnaryOp .Not a pos) (O2 tA):=⟨Zss ha.run⟩
theorem Eu {op} {t:TE} (h:QE X a t):QE X (.BoolOp op [a] pos) t:=⟨Zlb h.run⟩
theorem Ek {rest:List Expr} (ha:QE X a ta) (hb:QE X (.BoolOp .And (b :: rest) pos) tb):QE X (.BoolOp .And (a :: b :: rest) pos) (Zbn ta tb):=⟨Zji ha.run hb.run⟩
theorem Zqh {rest:List Expr} (ha:QE X a ta) (hb:QE X (.BoolOp .Or (b :: rest) pos) tb):QE X (.BoolOp .Or (a :: b :: rest) pos) (Zbl ta tb):=⟨Zok ha.run hb.run⟩
theorem Zgt (ha:QE X a ta):QE X (.UnaryOp .Not a pos) (Zau ta):=⟨Zqy ha.run⟩
theorem Ll {c:Expr} (hc:QT X c tA) (ha:QE X a ta) (hb:QE X b tb):QE X (.IfExp c a b pos) (Ip tA ta tb):=⟨Zsg hc.run ha.run hb.run⟩
theorem Ba  : Dz X [] O1:=⟨Zkn⟩
theorem Ad {st:Stmt} {rest:List Stmt} {t u:TS} (h1:QS X st t) (h2:Dz X rest u):Dz X (st :: rest) (L8 t u):=⟨Zsp h1.run h2.run⟩
theorem Ag {st:Stmt} {t:TS} (h1:QS X st t):Dz X [st] t:=⟨Zh1 h1.run⟩
theorem Be {e:Expr} {te:TE} (he:QE X e te) (hs:swapsWith e none pos.line X.env=pure false:=by rfl):QS X (.Expr e pos) (Za9 te):=⟨Zn1 he.run hs⟩
theorem Av {e:Expr} {te:TE} (he:QE X e te):QS X (.Return (some e) pos) (O0 te):=⟨Zka he.run⟩
theorem A7 {t u:TS} {c:Expr} {a b:List Stmt} {tc:TT} (hc:QT X c tc) (ha:Dz X a t) (hb:Dz X b u):QS X (.If c a b pos) (Jg tc t u):=⟨Zn0 hc.run ha.run hb.run⟩
theorem Ev  : QGs X [] Zag:=⟨Zp9⟩
theorem Cb {e:Expr} {es:List Expr} {t:TG} {u:Dy} (h1:QG X e t) (h2:QGs X es u) (hs:(assignEach (e :: es) X.env).map (·.2)=assign e X.env :: (assignEach es X.env).map (·.2):=by rfl):QGs X (e :: es) (Oy t u):=⟨Znz h1.run h2.run hs⟩
theorem Bb {i:Nat} {x:Str} (hN:X.N.Nodup) (hi:X.N[i]?=some x) (hx:Fi X.env.scope x) (hf:X.fn x=true\/X.env.scope.names.lookup x=some .local:=by first | exact .inl rfl | exact .inr rfl | assumption):QG X (.Name x pos) (Fz i):=⟨Zmv hN hi hx hf⟩
theorem Zle {es:List Expr} {k:Nat} {t:Dy} {n:Nat} (hc:X.calm=true) (h:QGs X es t) (hn:(assignEach es X.env).length=n:=by rfl) (hst:(assignEach es X.env).findIdx? (·.1)=none:=by rfl):QG X (.Tuple es k pos) (Ls X.K n t):=⟨Znu hc h.run hn hst⟩
theorem Ij {tg e:Expr} {te:TE} {g:TG} (he:QE X e te) (hg:QG X tg g) (hs:swapsWithSole [tg] e pos.line X.env=pure false:=by rfl) (hw:swappedStores [tg] e X.env=pure none:=by rfl) (h1:(assignEach [tg] X.env).map (·.2)=[assign tg X.env]:=by rfl):QS X (.Assign [tg] e pos) (Gc te g):=⟨Zp4 he.run hg.run hs hw h1⟩
theorem Zo1 {i:Nat} {x:Str} {e:Expr} {te:TE} {pos':Pos} (hN:X.N.Nodup) (hi:X.N[i]?=some x) (hx:Fi X.env.scope x) (he:QE X e te) (hs:swapsWith e (some (.Name x pos')) pos.line X.env=pure false:=by rfl) (hf:X.fn x=true\/X.env.scope.names.lookup x=some .local:=by first | exact .inl rfl | exact .inr rfl | assumption):QS X (.Assign [.Name x pos'] e pos) (Gc te (Fz i)):=⟨Zqo hN hi hx he.run hs hf⟩
theorem Zec {c:Expr} {body:List Stmt} {tc:TT} {tb:TS} (hp:PassesOwn (model X.prog X.w) X.A X.env X.xe) (hc:QT X c tc) (hb:Dz X body tb):QS X (.While c body [] pos) (Zci tc tb):=⟨Zrk hp hc.run hb.run⟩
theorem Hy {a:Expr} {ta:TA} {p pos:Pos} (hg:Gl X "range") (hm:X.mg "range" = none) (ha:QA X [a] ta) (hs:starEach [a] X.env=[(false,eval a X.env)]:=by rfl):QI X tg (.Call (.Name "range" p) [a] [] pos) (Nn ta):=⟨Zs7 hg hm ha.run hs⟩
theorem Zjd {a b:Expr} {ta:TA} {p pos:Pos} (hg:Gl X "range") (hm:X.mg "range" = none) (ha:QA X [a,b] ta) (hs:starEach [a,b] X.env=[(false,eval a X.env),(false,eval b X.env)]:=by rfl) (hs2:starEach [b] X.env=[(false,eval b X.env)]:=by rfl):QI X tg (.Call (.Name "range" p) [a,b] [] pos) (Zay ta):=⟨Zjm hg hm ha.run hs hs2⟩
theorem Dr {iter:Expr} {body:List Stmt} {wi:TI} {g:TG} {tb:TS} {pos:Pos} (hp:PassesOwn (model X.prog X.w) X.A X.env X.xe) (hc:X.calm=true) (hi:QI X tg iter wi) (hg:QG X tg g) (hb:Dz X body tb) (hs:∀ x,foldedSetIterable iter X.env x=pure x:=by intro _; rfl):QS X (.For tg iter body [] pos) (Zam wi g tb):=⟨Zjo hp hc hi.run hg.run hb.run hs⟩
theorem Zm8 (he:QE X e ta) (hb:attributeBase e f X.env (eval e X.env)=eval e X.env):QE X (.Attribute e f pos) (Zbb X.K ta f):=⟨Zn4 he.run hb⟩
theorem Zln (ha:QE X o ta) (hv:QE X value tv) (hs:swapsWith value (some (.Attribute o f pos')) pos.line X.env=pure false):QS X (.Assign [.Attribute o f pos'] value pos) (L6 X.K ta tv f):=⟨Zj1 ha.run hv.run hs⟩
theorem Ab  : QA X [] La:=⟨Zdg⟩
theorem Aa (ha:QE X e te) (hr:QA X es t) (hs:starEach (e :: es) X.env=(false,eval e X.env) :: starEach es X.env:=by rfl):QA X (e :: es) (Zat te t):=⟨Zej ha.run hr.run hs⟩
theorem Ah {x1} (h:QA X es t):QE X (.Tuple es x1 pos) (On t):=⟨Zr3 h.run⟩
theorem Bm (h:QA X es t):QE X (.List es pos) (Nw t):=⟨Zq5 h.run⟩
theorem A1 (C:A8 X.prog X.w X.K X.mg X.base k x ps sp) (hr:Room k X.A) (ha:QA X (e :: es) t) (hg:Gl X x:=by rfl) (hdb:(x == ("__debug__" : Str))=false:=by decide) (he:starEach (e :: es) X.env=(false,eval e X.env) :: starEach es X.env:=by rfl) (hpl:(backTo pos (starEach es X.env)).any (·.1)=false:=by rfl):QE X (.Call (.Name x p) (e :: es) [] pos) (Jf sp [] E0 t):=⟨Zqm C hr ha.run hg hdb he hpl⟩
theorem Bj {id:String} (hc:Ct X (.builtin id) r) (hg:Gl X x) (hm:X.mg x=none) (hv:bootBuiltins x=some (.builtin id)) (ha:QA X (e :: es) t) (hn:x ≠ "__name__" := by decide) (hdb:(x == ("__debug__" : Str))=false:=by decide) (he:starEach (e :: es) X.env=(false,eval e X.env) :: starEach es X.env:=by rfl) (hpl:(backTo pos (starEach es X.env)).any (·.1)=false:=by rfl):QE X (.Call (.Name x p) (e :: es) [] pos) (tCB r t):=⟨Zqk hc hg hm hv ha.run hn hdb he hpl⟩
theorem Fc {T:String} (hc:Ct X (.type T) r) (hg:Gl X x) (hm:X.mg x=none) (hv:bootBuiltins x=some (.type T)) (ha:QA X (e :: es) t) (hn:x ≠ "__name__" := by decide) (hdb:(x == ("__debug__" : Str))=false:=by decide) (he:starEach (e :: es) X.env=(false,eval e X.env) :: starEach es X.env:=by rfl) (hpl:(backTo pos (starEach es X.env)).any (·.1)=false:=by rfl):QE X (.Call (.Name x p) (e :: es) [] pos) (tCB r t):=⟨Zlh hc hg hm hv ha.run hn hdb he hpl⟩
theorem Fw  : QO X none Za1:=⟨Zik⟩
theorem Fy (h:QE X e te):QO X (some e) (Zbv te):=⟨Zoz h.run⟩
theorem Fk {lo hi:Option Expr} {r:V->Option Int->Option Int->Hp->VK->Prop} (hr:SlR X r) (he:QE X e te) (hl:QO X lo tl) (hu:QO X hi th):QE X (.Subscript e (.Slice lo hi none p2) pos) (tSl r te tl th):=⟨Zje hr he.run hl.run hu.run⟩
theorem Lv {r:R2} (hr:IxR X r) (ha:QE X a ta) (hb:QE X b tb) (hs:Mx b):QE X (.Subscript a b pos) (Ez r ta tb):=⟨Ziy hr ha.run hb.run hs⟩
theorem Zmn {T id:String} (pa:PlainAttrs T) (slot:Slot T name id) (hty:typeOf (.builtin id)=pure (.type "method_descriptor")) (hm:G8 X id r) (ho:QE X o to) (ha:QA X (e :: es) t) (hbase:attributeBase o name X.env (eval o X.env)=eval o X.env:=by rfl) (hfew:((backTo cpos (starEach (e :: es) X.env)).all (fun x=>!x.1) && (backToKw cpos (keywordEach [] X.env)).all (fun x=>x.1.isSome)
   && decide ((e :: es).length + ([]:List Keyword).length + (if ([]:List Keyword).isEmpty then 0 else 1) < 30))=true:=by rfl) (hline:(apos.endLine == cpos.line)=true:=by rfl) (hs:starEach (e :: es) X.env=(false,eval e X.env) :: starEach es X.env:=by rfl) (hplain:(backTo cpos (starEach es X.env)).any (·.1)=false:=by rfl):QE X (.Call (.Attribute o name apos) (e :: es) [] cpos) (tBM X.K T r to t):=⟨Zlm pa slot hty hm ho.run ha.run hbase hfew hline hs hplain⟩
theorem Zn2 {T id:String} (pa:PlainAttrs T) (slot:Slot T name id) (hty:typeOf (.builtin id)=pure (.type "method_descriptor")) (hm:G8 X id r) (ho:QE X o to) (hbase:attributeBase o name X.env (eval o X.env)=eval o X.env:=by rfl) (hline:(apos.endLine == cpos.line)=true:=by rfl):QE X (.Call (.Attribute o name apos) [] [] cpos) (Lb X.K T r to):=⟨Zm4 pa slot hty hm ho.run hbase hline⟩
theorem Zbj (hc:X.calm=true) (S:Gq scope X.env) (hi:QI X target iter wi) (T:∀ σ,σ.length=X.N.length->Fq X scope N σ (σ0 σ)) (hg:∀ C s H fp,QG (C6 X scope C N s H fp) target g) (ht:∀ C s H fp,QTs (C6 X scope C N s H fp) ifs tt) (he:∀ C s H fp,QE (C6 X scope C N s H fp) elt te) (hs:∀ x,foldedSetIterable iter X.env x=pure x:=by intro _; rfl):QE X (.ListComp elt [⟨target,iter,ifs,0⟩] scope pos) (J9 wi σ0 g tt te):=⟨Zoc hc S hi.run T (fun C s H fp=>(hg C s H fp).run) (fun C s H fp=>(ht C s H fp).run) (fun C s H fp=>(he C s H fp).run) hs⟩
theorem Zb4 {i:Nat} {y:Str} {py spos:Pos} (hc:X.calm=true) (S:Gq scope X.env) (hi:QI X target iter wi) (T:∀ σ,σ.length=X.N.length->Fq X scope N σ (σ0 σ)) (hg:∀ C s H fp,QG (C6 X scope C N s H fp) target g) (ht:∀ C s H fp,QTs (C6 X scope C N s H fp) ifs tt) (he:∀ C s H fp,QE (C6 X scope C N s H fp) elt te) (hN:X.N.Nodup) (hy:X.N[i]?=some y) (hx:Fi X.env.scope y) (hsw:swapsWith (.ListComp elt [⟨target,iter,ifs,0⟩] scope pos) (some (.Name y py)) spos.line X.env=pure true:=by rfl) (hf:X.fn y=true\/X.env.scope.names.lookup y=some .local:=by first | exact .inl rfl | exact .inr rfl | assumption) (hs:∀ x,foldedSetIterable iter X.env x=pure x:=by intro _; rfl):QS X (.Assign [.Name y py] (.ListComp elt [⟨target,iter,ifs,0⟩] scope pos) spos) (Gc (J9 wi σ0 g tt te) (Fz i)):=⟨Zlr hc S hi.run T (fun C s H fp=>(hg C s H fp).run) (fun C s H fp=>(ht C s H fp).run) (fun C s H fp=>(he C s H fp).run) hN hy hx hsw hf hs⟩
theorem Ig {X:Cx}:QTs X [] Nu:=⟨Zpv⟩
theorem Zdf {j pos'} (ha:QE X a ta):QC X .Is a (.Constant .none j pos') (Zbc ta):=⟨Zrc ha.run⟩
end L2
namespace L2
open PySem PySem.Spec PyProof.Rows
theorem Zg5 {X:Cx} {es:List Expr} {xs:List V} (h:Me es=some xs):QA X es (Zax xs):=⟨Zf6 h⟩
theorem qv {X:Cx} (i:Nat) {x:Str} {pos:Pos} (hN:X.N[i]?=some x:=by rfl) (hv:Vis X.env.scope x:=by first | exact Or.inl rfl | exact Or.inr (Or.inl rfl) | exact Or.inr (Or.inr rfl)) (hd:(x == ("__debug__" : Str))=false:=by decide)
  (hcd:(x == ("__classdict__" : Str))=false:=by decide):QE X (.Name x pos) (Nh i):=⟨Zsv hN hv hd hcd⟩
theorem QW.qt {X:Cx} {e:Expr} {t:TT} (h:QW X e t):QT X e t:=⟨h.run.pt⟩
section
variable {P:Program} {w:World} {K:O7} {mg:Str->Option Value} {base:Heap}
theorem Fun.okq {x qual:Str} {st:Stmt} {f:Addr} {fd:FuncData} {N ps:List Str} {k:Nat} {sp:Sp} (F:Fun K x qual st f fd) (S:A2 N ps (Az st)) (len:∀ vs H Q E,sp vs H Q E->vs.length=ps.length)
  (hbody:∀ (cdv:Value) (A:Around) (outer:List Env) (s:Shared) (H:Hp) (vs:List V) (Q:VK) (E:XK),Room k (A.deeper (envOfC qual (Az st) s.heap.objs.size f cdv))->sp vs H Q E ->
   ∃ t,Dz (Dx An P w K mg base N qual (Az st) f cdv A outer s H E).nox (E3 st) t/\t { nx:=fun _ H'=>Q .non H',rt:=Q } (Ex N vs) H):FnOk P w K mg base An (k + 1) f fd ps sp :=
 F.ok S len fun cdv A outer s H vs Q E hr h=>by
  obtain ⟨t,q,r⟩:=hbody cdv A outer s H vs Q E hr h
  exact ⟨t,q.run,r⟩
end
end L2
namespace L2
open PySem PySem.Spec PyProof.Rows
section
variable {X:Cx}
noncomputable def Zly:R2:=fun x y H Q=>∃ i j,x=.str i/\y=.str j/\i.length + j.length<=sizeLine/\Q (.str (i++j)) H
noncomputable def Zhr (K:O7):R2:=fun x y H Q=>∃ a b xs ys,x=.ref a/\y=.ref b/\SqT K H a xs/\SqT K H b ys/\xs.length + ys.length<=sizeLine /\
 ∀ r H',Same H H'->SqT K H' r (xs++ys)->Q (.ref r) H'
theorem Zpf:OpR X (binaryOp .Add) (Zhr X.K):=by
 intro pins s σ H x y v u Q I rx ry h
 obtain ⟨a,b,xs,ys,rfl,rfl,ha,hb,hz,q⟩:=h
 by_cases hx:xs=[]
 ·subst hx
  cases rx
  cases ry
  obtain ⟨its,r1,p1,_⟩:=I.tuple ha
  obtain ⟨its2,r2,p2,_⟩:=I.tuple hb
  cases r1
  obtain ⟨⟨cls,dd,data,sl⟩,ho,hc,n,hd⟩:=id p1
  obtain ⟨⟨cls2,dd2,data2,sl2⟩,ho2,hc2,n2,hd2⟩:=id p2
  simp only at hc hd hc2 hd2
  subst hc hd hc2 hd2
  exact U4 ⟨_,ho,rfl⟩ ⟨_,ho2,rfl⟩ Uo Uy Uc T8 (T3 _ _)
   (tuple_addW0 a b _ _ n n2 dd dd2 sl sl2 (by simp)) ⟨ho,ho2,⟨.ref b,H,I,rfl,q b H (Same.refl H) hb⟩⟩
 ·refine Zdr pins s σ H _ _ v u Q I rx ry ⟨a,b,xs,ys,rfl,rfl,ha,hb,hx,hz,fun e=>?_,fun _ p hp=>q p _ (fun c o e=>by rw [Af (Cg e hp)]; exact e) (.inl (.inl Ae))⟩
  subst e
  exact q a H (Same.refl H) (by rw [P5]; exact ha)
noncomputable def Gw (K:O7):R2:=fun x y H Q=>Eb (fun i j=>.int (i + j)) x y H Q\/Zly x y H Q\/rCat x y H Q\/Zhr K x y H Q
theorem op_addA:OpR X (binaryOp .Add) (Gw X.K):=op_add.or (op_add_str.or (op_cat.or Zpf))
theorem s_add_int {K:O7} {i j:Int} {H:Hp} {Q:VK} (h:Q (.int (i + j)) H):Gw K (.int i) (.int j) H Q:=.inl ⟨i,j,rfl,rfl,h⟩
theorem Nr {K:O7} {i j:Str} {H:Hp} {Q:VK} (hl:i.length + j.length<=sizeLine) (h:Q (.str (i++j)) H):Gw K (.str i) (.str j) H Q:=.inr (.inl ⟨i,j,rfl,rfl,hl,h⟩)
theorem Ld {K:O7} {a b:Addr} {xs ys:List V} {H:Hp} {Q:VK} (ha:H a=some (.lst xs)) (hb:H b=some (.lst ys)) (hz:xs.length + ys.length<=sizeLine) (h:∀ p,H p=none->Q (.ref p) (upd H p (.lst (xs++ys)))):Gw K (.ref a) (.ref b) H Q:=.inr (.inr (.inl ⟨a,b,xs,ys,rfl,rfl,ha,hb,hz,h⟩))
theorem Zhq {K:O7} {a b:Addr} {xs ys:List V} {H:Hp} {Q:VK} (ha:SqT K H a xs) (hb:SqT K H b ys) (hz:xs.length + ys.length<=sizeLine) (h:∀ r H',Same H H'->SqT K H' r (xs++ys)->Q (.ref r) H'):Gw K (.ref a) (.ref b) H Q:=.inr (.inr (.inr ⟨a,b,xs,ys,rfl,rfl,ha,hb,hz,h⟩))
noncomputable def Zbg:R2:=fun x y H Q=>rI CMul (fun i j=>.int (i * j)) x y H Q\/rRep x y H Q
theorem Gf:OpR X (binaryOp .Mult) Zbg:=op_mul.or Zi7
theorem s_mul_l {i j:Int} {H:Hp} {Q:VK} (h1:-(2 ^ 64) < i) (h2:i < 2 ^ 64) (h:Q (.int (i * j)) H):Zbg (.int i) (.int j) H Q:=.inl ⟨i,j,rfl,rfl,.inl ⟨h1,h2⟩,h⟩
theorem s_mul_r {i j:Int} {H:Hp} {Q:VK} (h1:-(2 ^ 64) < j) (h2:j < 2 ^ 64) (h:Q (.int (i * j)) H):Zbg (.int i) (.int j) H Q:=.inl ⟨i,j,rfl,rfl,.inr ⟨h1,h2⟩,h⟩
theorem s_rI {C:Int->Int->Prop} {g:Int->Int->V} {i j:Int} {H:Hp} {Q:VK} (hc:C i j) (h:Q (g i j) H):rI C g (.int i) (.int j) H Q:=⟨i,j,rfl,rfl,hc,h⟩
theorem s_rI0 {g:Int->Int->V} {i j:Int} {H:Hp} {Q:VK} (h:Q (g i j) H):Eb g (.int i) (.int j) H Q:=⟨i,j,rfl,rfl,h⟩
theorem s_rU {g:Int->V} {i:Int} {H:Hp} {Q:VK} (h:Q (g i) H):rU g (.int i) H Q:=⟨i,rfl,h⟩
noncomputable def rLtA:R2:=fun x y H Q=>Eb (fun i j=>.bl (decide (i < j))) x y H Q\/∃ i j,x=.str i/\y=.str j/\Q (.bl (decide (i.cps.toList < j.cps.toList))) H
theorem Jr:OpR X (compareOp .Lt) rLtA:=op_lt.or Zpg
noncomputable def rLeA:R2:=fun x y H Q=>Eb (fun i j=>.bl (decide (i<=j))) x y H Q\/∃ i j,x=.str i/\y=.str j/\Q (.bl (!(decide (j.cps.toList < i.cps.toList)))) H
theorem Zr7:OpR X (compareOp .LtE) rLeA:=op_le.or Zkd
theorem s_lt {i j:Int} {H:Hp} {Q:VK} (h:Q (.bl (decide (i < j))) H):rLtA (.int i) (.int j) H Q:=.inl ⟨i,j,rfl,rfl,h⟩
theorem s_le {i j:Int} {H:Hp} {Q:VK} (h:Q (.bl (decide (i<=j))) H):rLeA (.int i) (.int j) H Q:=.inl ⟨i,j,rfl,rfl,h⟩
noncomputable def rInS (neg:Bool):R2:=fun x y H Q=>∃ (c:Nat) (j:Str),x=.str ⟨#[c]⟩/\y=.str j/\Q (.bl (if neg then !decide (c∈j.cps.toList) else decide (c∈j.cps.toList))) H
theorem Zj2:OpR X (compareOp .In) (rInS false):=Zhu
noncomputable def Nk (K:O7) (neg:Bool):R2:=fun x y H Q=>rIn K neg x y H Q\/rInS neg x y H Q
theorem Zms:OpR X (compareOp .In) (Nk X.K false):=op_in_seq.or Zj2
theorem Gk {K:O7} {neg:Bool} {x:V} {p:Addr} {xs:List V} {H:Hp} {Q:VK} (hq:SqL K H p xs\/SqT K H p xs) (hx:Cu x=true) (hxs:xs.all Cu=true) (h:Q (.bl (if neg then !Eg x xs else Eg x xs)) H):Nk K neg x (.ref p) H Q:=.inl ⟨p,xs,rfl,hq,hx,hxs,h⟩
noncomputable def Zbh (K:O7):V->Option Int->Option Int->Hp->VK->Prop:=fun x lo hi H Q=>Mv K x lo hi H Q\/Zba x lo hi H Q\/rSlT K x lo hi H Q
theorem Zja:SlR X (Zbh X.K):=sl_list.or (sl_str.or Zhb)
theorem Nq {K:O7} {a:Addr} {xs:List V} {lo hi:Option Int} {H:Hp} {Q:VK} (ha:SqL K H a xs) (h:∀ p,H p=none->Q (.ref p) (upd H p (.lst (Cf xs lo hi)))):Zbh K (.ref a) lo hi H Q:=.inl ⟨a,xs,rfl,ha,h⟩
theorem Bp {K:O7} {a:Addr} {xs:List V} {i:Int} {v:V} {H:Hp} {Q:VK} (ha:SqL K H a xs) (hv:Cm xs i=some v) (h:Q v H):Iq K (.ref a) (.int i) H Q:=.inl ⟨a,xs,i,v,rfl,rfl,ha,hv,h⟩
theorem Aw {K:O7} {a:Addr} {xs:List V} {i:Int} {v:V} {H:Hp} {Q:VK} (ha:SqT K H a xs) (hv:Cm xs i=some v) (h:Q v H):Iq K (.ref a) (.int i) H Q:=.inr (.inl ⟨a,xs,i,v,rfl,rfl,ha,hv,h⟩)
theorem Zda {K:O7} {z:Str} {i:Int} {c:Nat} {H:Hp} {Q:VK} (hl:z.length<=sizeLine) (hv:Cm z.cps.toList i=some c) (h:Q (.str ⟨#[c]⟩) H):Iq K (.str z) (.int i) H Q:=.inr (.inr ⟨z,i,c,rfl,rfl,hl,hv,h⟩)
noncomputable def Jt (K:O7):List V->Hp->VK->Prop:=fun xs H Q=>∃ x n,xs=[x]/\LenV K x H n/\Q (.int n) H
theorem Zjj:Ct X (.builtin "len") (Jt X.K):=Zsc
theorem Dg {K:O7} {a:Addr} {xs:List V} {H:Hp} {Q:VK} (ha:SqL K H a xs) (h:Q (.int xs.length) H):Jt K [.ref a] H Q:=⟨_,_,rfl,.inl ⟨xs,ha,rfl⟩,h⟩
theorem Fl {K:O7} {a:Addr} {xs:List V} {H:Hp} {Q:VK} (ha:SqT K H a xs) (h:Q (.int xs.length) H):Jt K [.ref a] H Q:=⟨_,_,rfl,.inr ⟨xs,ha,rfl⟩,h⟩
theorem Zie {K:O7} {z:Str} {H:Hp} {Q:VK} (hl:z.length<=sizeLine) (h:Q (.int z.length) H):Jt K [.str z] H Q:=⟨_,_,rfl,⟨hl,rfl⟩,h⟩
structure Ea (mg:Str->Option Value) (x:Str) (v:V):Prop where
 ex:∃ u,mg x=some u/\RelV v u
theorem Fb {x:Str} {v:V} {pos:Pos} (G:Ea X.mg x v) (hg:Gl X x:=by rfl) (hd:(x == ("__debug__" : Str))=false:=by decide):QE X (.Name x pos) (tC v):=by
 obtain ⟨u,h,r⟩:=G.ex
 exact ⟨Zfn hg h r hd⟩
noncomputable def Zbi (K:O7) (tl:TE):TI:=fun σ H R=>tl σ H fun x H1=>(∃ a,x=.ref a/\(∃ xs,SqL K H1 a xs)/\R (Gg K a) H1)\/(∃ a,x=.ref a/\(∃ xs,SqT K H1 a xs)/\R (Gj K a) H1)\/∃ z,x=.str z/\R (Its z) H1
theorem Zrw {tg l:Expr} {tl:TE} (hl:QE X l tl):QI X tg l (Zbi X.K tl):=by
 refine ⟨fun pins s σ H R I h=>?_⟩
 refine Am (hl.run pins s σ H _ I h) fun v s1 ⟨x,H1,I1,r1,q1⟩=>?_
 have one:∀ (l:Expr) (t:TE),PE X l t->True:=fun _ _ _=>trivial
 rcases q1 with ⟨a,e,⟨xs,hq⟩,q⟩ | ⟨a,e,⟨xs,hq⟩,q⟩ | ⟨z,e,q⟩
 ·subst e
  cases r1
  obtain ⟨its,rv,p,hz⟩:=I1.list hq
  refine Tb p.isList ?_
  refine ⟨s1.heap.objs.size,[s1.heap.objs.size],_,_,H1,rfl,I1.kept (t':=s1.toks) fun b o e=>Pd _ e,Zmj a _,⟨_,Pp _ rfl,rfl,rfl⟩,fun b hb=>?_,q⟩
  have e:b=s1.heap.objs.size:=by simpa using hb
  subst e
  exact I1.fpOk (Pa _) (I1.hok.fresh (Pa _))
 ·subst e
  cases r1
  obtain ⟨its,rv,p,hz⟩:=I1.tuple hq
  refine Ta (show s1.heap.IsTuple a its.toArray from p) ?_
  refine ⟨s1.heap.objs.size,[s1.heap.objs.size],_,_,H1,rfl,I1.kept (t':=s1.toks) fun b o e=>Pd _ e,Zoq a _,⟨_,Pp _ rfl,rfl,rfl⟩,fun b hb=>?_,q⟩
  have e:b=s1.heap.objs.size:=by simpa using hb
  subst e
  exact I1.fpOk (Pa _) (I1.hok.fresh (Pa _))
 ·subst e
  obtain ⟨t,rfl⟩:=r1
  refine wpAny_pyIter_strU ?_
  refine ⟨s1.heap.objs.size,[s1.heap.objs.size],_,_,H1,rfl,I1.kept (t':=s1.toks) fun b o e=>Pd _ e,Zjn _ z t,⟨_,Pp _ rfl,rfl,rfl⟩,fun b hb=>?_,q⟩
  have e:b=s1.heap.objs.size:=by simpa using hb
  subst e
  exact I1.fpOk (Pa _) (I1.hok.fresh (Pa _))
end
end L2
namespace L2
open PySem PySem.Spec PyProof.Rows
noncomputable def Hg (hi:Int) (n:Nat):It:=⟨fun i _=>i < n,fun i H x H'=>H'=H/\x=.int (hi - i),fun i _=>n<=i⟩
theorem Zhe (a b:Int):T7 a b (-1)=if b < a then a - b else 0:=by
 unfold T7
 simp only [show ¬ ((-1:Int) > 0) by decide,if_false,Int.neg_neg,Int.ediv_one]
 split <;> omega
theorem Zkm {a b:Int} (ha:-(2 ^ 62)<=a) (ha':a < 2 ^ 62) (hb:-(2 ^ 62)<=b) (hb':b < 2 ^ 62):Builtin.Range.small a b (-1)=true:=by
 unfold Builtin.Range.small
 rw [Zhe]
 simp only [Builtin.Range.rangeFitsLong,Q5,Bool.or_eq_true,decide_eq_true_eq,beq_iff_eq,show ¬ ((-1:Int) > 0) by decide,if_false]
 split <;> omega
theorem Zoe {P:Program} {w:World} {K:O7} {tg:Expr} (it:Addr) (hi:Int) (n:Nat):Fu P w K tg (Hg hi n) [it] it (fun i h=>IsRangeIter h it (hi + (i:Nat) * (-1)) ((n:Int) - (i:Nat)) (-1)) where
 mem:=by simp
 obj:=fun i h st b hb=>by
  have e:b=it:=by simpa using hb
  subst e
  exact ⟨_,st,fun v z=>by
   have z':Data.fields _=Data.cell v:=z
   cases z'⟩
 keep:=fun i h h' st k=>k it (by simp) _ st
 item:=by
  intro X hP hw hK hc i pins s σ H E I hf st hg
  subst hP hw hK
  obtain ⟨f0,f1,f2,f3,f4,f5⟩:=hf it (by simp)
  have W:=Walks.range (prog:=X.prog) (w:=X.w) (I.ok.hd hc) it hi (-1) n
  refine W.item i s _ _ hg st fun v h' tk hv st' kk=>?_
  obtain ⟨t,rfl⟩:=hv
  have I1:Inv X pins σ H { s with heap:=h',toks:=tk }:=I.turned (fun b o hb e=>kk b o (by simpa using hb) e) f0 f1 f3 f4 f5
  refine ⟨_,rfl,Hq (s:={ s with heap:=h',toks:=tk }) (n := "range_iterator") st' rfl rfl (by decide) ⟨.int (hi - i),H,I1,⟨t,?_⟩,⟨rfl,rfl⟩,st',fun b hb=>(hf b hb).1⟩⟩
  rw [Int.mul_neg_one,Int.sub_eq_add_neg]
 done:=by
  intro X hP hw hK hc i pins s σ H E I hf st hg
  subst hP hw hK
  obtain ⟨f0,f1,f2,f3,f4,f5⟩:=hf it (by simp)
  exact wpAny_pyNext_range_end (I.ok.hd hc) st (by have:n<=i:=hg; omega) fun h' eb=>⟨rfl,I.turned (t':=s.toks) (fun b o hb e=>eb b o hb e) f0 f1 f3 f4 f5⟩
 self:=fun _ _ _ _ _ st h=>wpAny_pyIter_rangeiter st h
section
variable {X:Cx} {tg:Expr}
noncomputable def Zdb (ta:TA):TI:=fun σ H R=>ta σ H fun vs H1=>∃ i j:Int,vs=[.int i,.int j,.int (-1)]/\(-(2 ^ 62)<=i/\i < 2 ^ 62/\-(2 ^ 62)<=j/\j < 2 ^ 62)/\R (Hg i (i - j).toNat) H1
theorem Zo8 {a b c:Expr} {ta:TA} {p pos:Pos} (hg:Gl X "range") (hm:X.mg "range" = none) (ha:QA X [a,b,c] ta) (hs:starEach [a,b,c] X.env=[(false,eval a X.env),(false,eval b X.env),(false,eval c X.env)]:=by rfl) (hs2:starEach [b,c] X.env=[(false,eval b X.env),(false,eval c X.env)]:=by rfl) :
  QI X tg (.Call (.Name "range" p) [a,b,c] [] pos) (Zdb ta):=by
 refine ⟨fun pins s σ H R I h=>?_⟩
 refine Call_ (Ej I hg hm boot_range (Ra (Am (ha.run pos pins s σ H _ I h) fun us s1 ⟨vs,H1,I1,r1,q1⟩=>?_) (by rw [hs,hs2]) (by rw [hs2]; rfl)))
 obtain ⟨i,j,e,⟨q1,q2,q3,q4⟩,q⟩:=q1
 subst e
 cases r1 with
 | cons r rr =>
  cases rr with
  | cons r' rr =>
   cases rr with
   | cons r'' rr =>
    cases rr
    obtain ⟨t,rfl⟩:=r
    obtain ⟨t',rfl⟩:=r'
    obtain ⟨t'',rfl⟩:=r''
    refine call_range_3 (by decide) ?_ (.inl (PyProof.noPylong_small (by omega)))
    refine wpAny_pyIter_range (IsRange.new ..) (Zkm q1 q2 q3 q4) ?_
    have I2:Inv X pins σ H1 { s1 with heap:=s1.heap.push { cls:=.type "range",data:=.fields #[.int i t,.int j t',.int (-1) t''] },toks:=s1.toks }:=I1.kept fun b o e=>Pd _ e
    refine ⟨(s1.heap.push { cls:=.type "range",data:=.fields #[.int i t,.int j t',.int (-1) t''] }).objs.size,[(s1.heap.push { cls:=.type "range",data:=.fields #[.int i t,.int j t',.int (-1) t''] }).objs.size],_,_,H1,rfl,
     I2.kept (t':=s1.toks) fun b o e=>Pd _ e,Zoe _ i (i - j).toNat,?_,fun b hb=>?_,q⟩
    ·have e1:i + ((0:Nat):Int) * (-1)=i:=by simp
     have e2:(((i - j).toNat:Nat):Int) - ((0:Nat):Int)=T7 i j (-1):=by rw [Zhe]; split <;> omega
     show IsRangeIter _ _ (i + ((0:Nat):Int) * (-1)) ((((i - j).toNat:Nat):Int) - ((0:Nat):Int)) (-1)
     rw [e1,e2]
     exact Pp _ rfl
    ·have e:b=(s1.heap.push { cls:=.type "range",data:=.fields #[.int i t,.int j t',.int (-1) t''] }).objs.size:=by simpa using hb
     subst e
     exact I2.fpOk (Pa _) (I2.hok.fresh (Pa _))
theorem Zp2 {hi:Int} {n:Nat} {g:TG} {tb:TS} {D:Ends} {σ:St} {H:Hp} (Pv:Nat->St->Hp->Prop) (h0:Pv 0 σ H)
  (hs:∀ i σ H,i < n->Pv i σ H->g (.int (hi - i)) σ H fun σ2 H2=>tb { D with nx:=Pv (i + 1),ct:=Pv (i + 1),bk:=D.nx } σ2 H2) (hd:∀ σ H,Pv n σ H->D.nx σ H) :
  ∃ W:Nat->Nat->St->Hp->Prop,(∃ m,W 0 m σ H)/\∀ i m σ H,W i m σ H ->
   ((Hg hi n).stop i H/\D.nx σ H)\/((Hg hi n).go i H/\∃ N:St->Hp->Prop,(∀ σ' H',N σ' H'->∃ m',m' < m/\W (i + 1) m' σ' H')/\∀ x H',(Hg hi n).yld i H x H'->g x σ H' fun σ2 H2=>tb { D with nx:=N,ct:=N,bk:=D.nx } σ2 H2):=by
 refine ⟨fun i m σ H=>m=n - i/\i<=n/\Pv i σ H,⟨n,by simp,Pu _,h0⟩,?_⟩
 rintro i m σ H ⟨rfl,hi',p⟩
 by_cases hlt:i < n
 ·refine .inr ⟨hlt,Pv (i + 1),fun σ' H' p'=>⟨n - (i + 1),by omega,rfl,hlt,p'⟩,fun x H' y=>?_⟩
  obtain ⟨e,y⟩:=y
  subst e y
  exact hs i σ _ hlt p
 ·have e:i=n:=by omega
  subst e
  exact .inl ⟨Pa _,hd σ H p⟩
end
noncomputable def Im (K:O7) (a:Addr) (n:Nat):It :=
 ⟨fun i H=>∃ xs,SqL K H a xs/\xs.length=n/\i < n,fun i H x H'=>H'=H/\∀ xs,SqL K H a xs->xs[n - 1 - i]?=some x,fun i _=>i=n⟩
theorem Zsf {P:Program} {w:World} {K:O7} {tg:Expr} (a it:Addr) (n:Nat):Fu P w K tg (Im K a n) [it] it (fun i h=>i<=n/\h.IsRevIter it a ((n:Int) - 1 - (i:Int))) where
 mem:=by simp
 obj:=fun i h st b hb=>by
  have e:b=it:=by simpa using hb
  subst e
  obtain ⟨o,e,c,d⟩:=st.2
  exact ⟨o,e,fun v z=>by rw [d] at z; cases z⟩
 keep:=fun i h h' st k=>⟨st.1,st.2.at fun o e=>k it (by simp) o e⟩
 item:=by
  intro X hP hw hK hc i pins s σ H E I hf st hg
  subst hP hw hK
  obtain ⟨xs,hq,hl,hi⟩:=hg
  obtain ⟨its,rv,p,hz⟩:=I.list hq
  have hx:xs[n - 1 - i]?=some (xs[n - 1 - i]'(by omega)):=Pb (by omega)
  obtain ⟨u,hu,ru⟩:=rv.get hx
  obtain ⟨f0,f1,f2,f3,f4,f5⟩:=hf it (by simp)
  have e:(n:Int) - 1 - (i:Int)=((n - 1 - i:Nat):Int):=by omega
  have hit:=st.2
  rw [e] at hit
  refine wpAny_pyNext_rev_item hit p.isList (x:=u) (by simpa using hu) fun h' st' sb=>?_
  have I1:Inv X pins σ H { s with heap:=h' }:=I.turned (t':=s.toks) (fun b o hb e=>(sb.2 b hb).trans e) f0 f1 f3 f4 f5
  have e2:((n - 1 - i:Nat):Int) - 1=(n:Int) - 1 - ((i + 1:Nat):Int):=by omega
  rw [e2] at st'
  obtain ⟨o,eo,c,d⟩:=id st'
  exact ⟨u,rfl,Hq (s:={ s with heap:=h' }) eo c d (by decide) ⟨_,H,I1,ru,⟨rfl,fun ys hy=>by rw [I.list_inj hy hq]; exact hx⟩,⟨hi,st'⟩,fun b hb=>(hf b hb).1⟩⟩
 done:=by
  intro X hP hw hK hc i pins s σ H E I hf st hg
  subst hP hw hK
  have hg:i=n:=hg
  subst hg
  obtain ⟨f0,f1,f2,f3,f4,f5⟩:=hf it (by simp)
  have e:(i:Int) - 1 - (i:Int)=-1:=by omega
  have hit:=st.2
  rw [e] at hit
  exact wpAny_pyNext_rev_end (I.ok.hd hc) hit fun h' eb=>⟨rfl,I.turned (t':=s.toks) (fun b o hb e=>eb b o hb e) f0 f1 f3 f4 f5⟩
 self:=fun _ _ _ _ _ st h=>wpAny_pyIter_revIter st.2 h
theorem Zsw:bootBuiltins "reversed" = some (.type "reversed"):=by decide +kernel
section
variable {X:Cx} {tg:Expr}
noncomputable def Oe (K:O7) (ta:TA):TI:=fun σ H R=>ta σ H fun vs H1=>∃ a xs,vs=[.ref a]/\SqL K H1 a xs/\R (Im K a xs.length) H1
theorem Zrq {a:Expr} {ta:TA} {p pos:Pos} (hg:Gl X "reversed") (hm:X.mg "reversed" = none) (ha:QA X [a] ta) (hs:starEach [a] X.env=[(false,eval a X.env)]:=by rfl):QI X tg (.Call (.Name "reversed" p) [a] [] pos) (Oe X.K ta):=by
 refine ⟨fun pins s σ H R I h=>?_⟩
 refine Call_ (Ej I hg hm Zsw (Ra (Am (ha.run pos pins s σ H _ I h) fun us s1 ⟨vs,H1,I1,r1,q1⟩=>?_) hs rfl))
 obtain ⟨l,xs,e,hq,q⟩:=q1
 subst e
 cases r1 with
 | cons r rr =>
  cases rr
  cases r
  obtain ⟨its,rv,pl,hz⟩:=I1.list hq
  refine call_reversed_list pl.isList ?_
  have hl:=rv.length
  have st0:(s1.heap.push (PySem.revObj l (((its.toArray).size:Int) - 1))).IsRevIter s1.heap.objs.size l ((xs.length:Int) - 1 - ((0:Nat):Int)):=by
   refine ⟨_,Pp _ rfl,rfl,?_⟩
   have e:((its.toArray).size:Int) - 1=(xs.length:Int) - 1 - ((0:Nat):Int):=by simp [hl]
   rw [<- e]
   rfl
  refine wpAny_pyIter_revIter (it:=s1.heap.objs.size) (l:=l) (i:=(xs.length:Int) - 1 - ((0:Nat):Int)) st0 ?_
  refine ⟨s1.heap.objs.size,[s1.heap.objs.size],_,_,H1,rfl,I1.kept (t':=s1.toks) fun b o e=>Pd _ e,Zsf l _ xs.length,⟨Pu _,st0⟩,fun b hb=>?_,q⟩
  have e:b=s1.heap.objs.size:=by simpa using hb
  subst e
  exact I1.fpOk (Pa _) (I1.hok.fresh (Pa _))
theorem Om {K:O7} {a:Addr} {xs:List V} {g:TG} {tb:TS} {D:Ends} {σ:St} {H:Hp} (Pv:Nat->St->Hp->Prop) (h0:Pv 0 σ H) (hl:∀ i σ H,i<=xs.length->Pv i σ H->SqL K H a xs)
  (hs:∀ i x σ H,i < xs.length->xs[xs.length - 1 - i]?=some x->Pv i σ H->g x σ H fun σ2 H2=>tb { D with nx:=Pv (i + 1),ct:=Pv (i + 1),bk:=D.nx } σ2 H2) (hd:∀ σ H,Pv xs.length σ H->D.nx σ H) :
  ∃ W:Nat->Nat->St->Hp->Prop,(∃ m,W 0 m σ H)/\∀ i m σ H,W i m σ H ->
   ((Im K a xs.length).stop i H/\D.nx σ H)\/((Im K a xs.length).go i H/\∃ N:St->Hp->Prop,(∀ σ' H',N σ' H'->∃ m',m' < m/\W (i + 1) m' σ' H')/\∀ x H',(Im K a xs.length).yld i H x H'->g x σ H' fun σ2 H2=>tb { D with nx:=N,ct:=N,bk:=D.nx } σ2 H2):=by
 refine ⟨fun i m σ H=>m=xs.length - i/\i<=xs.length/\Pv i σ H,⟨xs.length,by simp,Pu _,h0⟩,?_⟩
 rintro i m σ H ⟨rfl,hi,p⟩
 have q:=hl i σ H hi p
 by_cases hlt:i < xs.length
 ·refine .inr ⟨⟨xs,q,rfl,hlt⟩,Pv (i + 1),fun σ' H' p'=>⟨xs.length - (i + 1),by omega,rfl,hlt,p'⟩,fun x H' y=>?_⟩
  obtain ⟨e,y⟩:=y
  subst e
  exact hs i x σ _ hlt (y xs q) p
 ·have e:i=xs.length:=by omega
  subst e
  exact .inl ⟨rfl,hd σ H p⟩
end
end L2
namespace L2
open PySem PySem.Spec PyProof.Rows
section
variable {prog:Program} {w:World} {A:Around} {E:Value->Shared->Prop} {s:Shared}
theorem Zkw {it t:Addr} {i:Nat} {items:Array Value} {x:Value} {Q:Value->Shared->Prop} (hit:s.heap.IsTupleIter it t i) (ht:s.heap.IsTuple t items) (hx:items[i]?=some x)
  (hQ:∀ h',h'.IsTupleIter it t (i + 1)->Pq it s.heap h'->Q x { s with heap:=h' }):wpAny (model prog w) A (Qm (.ref it)) Q E s:=by
 obtain ⟨o,ho,hc,hd⟩:=id hit
 obtain ⟨ol,hol,_,nl,hdl⟩:=ht
 unfold Qm
 refine O8 (Qz (name:=Ql "__next__") hit.typeIs Tt
  (Q4 Tt hit.typeIs Wb ?_ (Wa _)))
 show wpAny _ _ (field (.ref it) 0 >>= _) _ _ s
 refine O8 (Pn ho hd (x:=.ref t) rfl ?_)
 show wpAny _ _ (if (Value.ref t == Value.none)=true then _ else _) _ _ s
 rw [if_neg (show ¬ ((Value.ref t == Value.none)=true) from Pk)]
 show wpAny _ _ (field (.ref it) 1 >>= _) _ _ s
 refine O8 (Pn ho hd (x:=.int i 0) rfl ?_)
 show wpAny _ _ (seqItems? (.ref t) >>= _) _ _ s
 refine O8 (Qw hol hdl ?_)
 simp only [Rf,hx]
 refine O8 (Tj ho hd (by simp) (O9 ⟨x,rfl,O9 (hQ _ ?_ (Pq.update ..))⟩))
 exact ⟨_,Rw _ ho (Vh (Uk hd _)),(Obj.cls_mapFields ..).trans hc,by
  rw [Uk hd]; simp [rawInt]⟩
theorem Zlj {it t:Addr} {i:Nat} {items:Array Value} {Q:Value->Shared->Prop} (hh:A.handled=none) (hit:s.heap.IsTupleIter it t i) (ht:s.heap.IsTuple t items) (hx:items[i]?=none)
  (hE:∀ h' e,So it s.heap h'->(∃ o,h'.get? e=some o/\o.cls=.type "StopIteration")->E (.ref e) { s with heap:=h' }):wpAny (model prog w) A (Qm (.ref it)) Q E s:=by
 obtain ⟨o,ho,hc,hd⟩:=id hit
 obtain ⟨ol,hol,_,nl,hdl⟩:=ht
 unfold Qm
 refine O8 (Qz (name:=Ql "__next__") hit.typeIs Tt
  (Q4 Tt hit.typeIs Wb ?_ (Wa _)))
 show wpAny _ _ (field (.ref it) 0 >>= _) _ _ s
 refine O8 (Pn ho hd (x:=.ref t) rfl ?_)
 show wpAny _ _ (if (Value.ref t == Value.none)=true then _ else _) _ _ s
 rw [if_neg (show ¬ ((Value.ref t == Value.none)=true) from Pk)]
 show wpAny _ _ (field (.ref it) 1 >>= _) _ _ s
 refine O8 (Pn ho hd (x:=.int i 0) rfl ?_)
 show wpAny _ _ (seqItems? (.ref t) >>= _) _ _ s
 refine O8 (Qw hol hdl ?_)
 simp only [Rf,hx]
 refine O8 (Sr (O8 (Tj ho hd (by simp) ?_)))
 show wpAny _ _ (newExc (.type "StopIteration") [] >>= _) _ _ _
 refine O8 ?_
 simp only [newExc,newTuple]
 refine O8 (Rm ?_ (by size_fits))
 refine O8 (m:=firstArgMember _ _) (wpAny_of_eq (a:=Value.none) (by first | rfl | (simp only [firstArgMember]; rfl)) ?_)
 refine Rm ?_ (by size_fits)
 simp only [raiseNew]
 refine O8 (wpAny_handled ?_)
 first | rw [show A.in1.handled=none from hh] | rw [hh]
 refine O8 (O9 (wpAny_throw ?_))
 exact hE _ _ (((Pq.update ..).extBut.push _).push _) ⟨_,Pp _ rfl,rfl⟩
end
theorem Np {prog:Program} {w:World} {A:Around} (hh:A.handled=none) (it l:Addr) (hne:l≠it) (items:Array Value) :
  Draws prog w A it [it,l] items.size (fun i v=>items[i]?=some v) (fun i h=>h.IsTupleIter it l i/\h.IsTuple l items) where
 live:=fun _ _ st=>let ⟨o,ho,_⟩:=st.1; ⟨o,ho⟩
 frame:=fun _ _ _ st hk=>⟨st.1.at fun o e=>hk it (by simp) o e,let ⟨o,e,r⟩:=st.2; ⟨o,hk l (by simp) o e,r⟩⟩
 item:=fun i s Q E hi st hQ=>by
  refine Zkw st.1 st.2 (x:=items[i]) (by simp [hi]) fun h' hit' hs'=>?_
  exact hQ _ h' s.toks (by simp [hi]) ⟨hit',st.2.extBut hs'.extBut hne⟩ hs'
 done:=fun s Q E st hE=>Zlj hh st.1 st.2 (by simp) hE
theorem Zqc (l:Addr) (items:Array Value) (n:Nat) (dct:Option Addr) (sl:Array (Option Value)) :
  Meets (Builtin.«enumerate.__new__» ⟨[.type "enumerate",.ref l],[]⟩) (fun _ R s=>s.heap.get? l=some { cls:=.type "tuple",dict:=dct,data:=.seq items n,slots:=sl } /\
   R (.ok (.ret (.ref (s.heap.push { cls:=.type "tuple_iterator",data:=.fields #[.ref l,.int 0 0] }).objs.size)))
    { s with heap:=(s.heap.push { cls:=.type "tuple_iterator",data:=.fields #[.ref l,.int 0 0] }).push { cls:=.type "enumerate",data:=.fields #[.none,.bool false,.ref s.heap.objs.size,rawInt 0,.none,.none] } }) :=
 .of_wp fun prog w A R s h=>by
  obtain ⟨hp,g,d,tk,os⟩:=s; obtain ⟨hl,h⟩:=h
  have hsub:=sub_enumerate
  have hL:Heap.IsTuple (Shared.heap ⟨hp,g,d,tk,os⟩) l items:=⟨_,hl,rfl,n,rfl⟩
  wp_walk using Tu hl
  refine wpAny_stack_any fun st=>O9 ?_
  split
  ·rename_i c _ _ _ _ _
   cases (c == Value.type "enumerate")
   ·wp_walk using Tu hl,Ta hL
    exact ⟨_,rfl,h⟩
   ·wp_walk using Tu hl,Ta hL
    exact ⟨_,rfl,h⟩
  ·wp_walk using Tu hl,Ta hL
   exact ⟨_,rfl,h⟩
section
variable {prog:Program} {w:World} {A:Around} {E:Value->Shared->Prop} {s:Shared}
theorem Zko {l:Addr} {items:Array Value} {Q:Value->Shared->Prop} (hL:s.heap.IsTuple l items)
  (h:∀ h',IsEnum h' (s.heap.objs.size + 1) s.heap.objs.size 0 .none->h'.IsTupleIter s.heap.objs.size l 0->h'.objs.size=s.heap.objs.size + 2 ->
   (∀ b o,s.heap.get? b=some o->h'.get? b=some o)->Q (.ref (s.heap.objs.size + 1)) { s with heap:=h' }) :
  wpAny (model prog w) A (call (.type "enumerate") [.ref l]) Q E s:=by
 obtain ⟨⟨c,dct,dt,sl⟩,hl,hc,n,hd⟩:=hL
 replace hc:c=.type "tuple" := hc
 replace hd:dt=.seq items n:=hd
 subst hc hd
 refine callType_new PySem.F.called_enumerate (by decide) (PySem.F.typeCall_enumerate_1 _) (PySem.F.newCall_enumerate_1 _) (fun obj=>PySem.F.args_object_init_2 obj _) PySem.F.entry_enumerate_new
  (Zqc l items n dct sl) ⟨hl,?_⟩
 have hz:(s.heap.push { cls:=.type "tuple_iterator",data:=.fields #[.ref l,.int 0 0] }).objs.size=s.heap.objs.size + 1:=Qc ..
 show _/\_
 rw [hz]
 have he:IsEnum ((s.heap.push { cls:=.type "tuple_iterator",data:=.fields #[.ref l,.int 0 0] }).push
   { cls:=.type "enumerate",data:=.fields #[.none,.bool false,.ref s.heap.objs.size,rawInt 0,.none,.none] }) (s.heap.objs.size + 1) s.heap.objs.size 0 .none:=by
  unfold IsEnum
  rw [<- hz]
  exact Pp _ rfl
 refine ⟨⟨_,he,rfl⟩,h _ he ⟨_,Pd _ (Pp _ rfl),rfl,rfl⟩ (by rw [Qc,hz]) fun b o e=>Pd _ (Pd _ e)⟩
noncomputable def Lm (h:Heap) (e it:Addr) (i:Int):Prop:=∃ (a:Addr) (oa:Obj) (f1 old:Value),h.get? e=some { cls:=.type "enumerate",dict:=none,data:=.fields #[rawInt a,f1,.ref it,rawInt i,.none,old],slots:=#[] }/\h.get? a=some oa/\a≠e/\a≠it
theorem Zeh {a:Addr} {Q:Option Obj->Shared->Prop} (h:Q (s.heap.get? a) s):wpAny (model prog w) A (loadIfAlive a) Q E s:=by
 intro Γ p hΓ
 show Sem.wp _ Γ (.loadIfAlive a .pure) _ _ p s
 rw [Sem.wp_loadIfAlive]
 exact h
end
end L2
namespace L2
open PySem PySem.Spec PyProof.Rows
section
variable {prog:Program} {w:World} {A:Around} {E:Value->Shared->Prop} {s:Shared}
theorem Zo9 {e it:Addr} {fp:List Addr} {n i:Nat} {P:Nat->Value->Prop} {St:Nat->Heap->Prop} {Q:Value->Shared->Prop}
  (D:Draws prog w A it fp n P St) (he0:Lm s.heap e it i) (hst:St i s.heap) (hlt:i < n) (hne:e≠it) (hef:e ∉ fp)
  (hQ:∀ x h' tk,P i x->Lm h' e it ((i:Int) + 1)->St (i + 1) h' ->
   h'.get? s.heap.objs.size=some { cls:=.type "tuple",data:=.seq #[.int i tk,x] }->h'.objs.size=s.heap.objs.size + 1 ->
   (∀ b o,b≠e->b≠it->s.heap.get? b=some o->h'.get? b=some o)->Q (.ref s.heap.objs.size) { s with heap:=h',toks:=tk + 1 }) :
  wpAny (model prog w) A (Builtin.«enumerate.__next__» ⟨[.ref e],[]⟩) (fun fin s'=>∃ v,fin=.done (.ret v)/\Q v s') E s:=by
 obtain ⟨a,oa,f1,old,he,hoa,hae,hai⟩:=he0
 obtain ⟨hp,g,d,tk₀,os⟩:=s
 show wpAny _ _ (field (.ref e) 2 >>= _) _ _ _
 refine O8 (Pn he rfl (x:=.ref it) rfl ?_)
 refine O8 (D.item i _ _ _ hlt hst fun x h₁ tk hPx hit₁ hs₁=>?_)
 replace hs₁:Pq it hp h₁:=hs₁
 have he₁:=(hs₁.2 e hne).trans he
 have ha₁:=hs₁.extBut a oa hai hoa
 show wpAny _ _ (field (.ref e) 3 >>= _) _ _ ⟨h₁,g,d,tk,os⟩
 refine O8 (Pn he₁ rfl (x:=rawInt i) rfl ?_)
 show wpAny _ _ (field (.ref e) 4 >>= _) _ _ ⟨h₁,g,d,tk,os⟩
 refine O8 (Pn he₁ rfl (x:=.none) rfl ?_)
 show wpAny _ _ (mkInt i >>= _) _ _ ⟨h₁,g,d,tk,os⟩
 refine O8 (wpAny_mkInt ?_)
 show wpAny _ _ (setField (.ref e) 3 (rawInt ((i:Int) + 1)) >>= _) _ _ ⟨h₁,g,d,tk + 1,os⟩
 refine O8 (Q3 he₁ (by simp) fun h₂ he₂ hs₂=>?_)
 replace hs₂:Pq e h₁ h₂:=hs₂
 have ha₂:=hs₂.extBut a oa hae ha₁
 replace he₂:h₂.get? e=some { cls:=.type "enumerate",dict:=none,data:=.fields #[rawInt a,f1,.ref it,rawInt ((i:Int) + 1),.none,old],slots:=#[] }:=he₂
 show wpAny _ _ (setField (.ref e) 4 .none >>= _) _ _ ⟨h₂,g,d,tk + 1,os⟩
 refine O8 (Q3 he₂ (by simp) fun h₃ he₃ hs₃=>?_)
 replace hs₃:Pq e h₂ h₃:=hs₃
 have ha₃:=hs₃.extBut a oa hae ha₂
 replace he₃:h₃.get? e=some { cls:=.type "enumerate",dict:=none,data:=.fields #[rawInt a,f1,.ref it,rawInt ((i:Int) + 1),.none,old],slots:=#[] }:=he₃
 show wpAny _ _ (newTuple [.int i tk,x] >>= _) _ _ ⟨h₃,g,d,tk + 1,os⟩
 refine O8 (wpAny_newTuple ?_)
 have he₄:(h₃.push { cls:=.type "tuple",data:=.seq #[.int i tk,x] }).get? e=some { cls:=.type "enumerate",dict:=none,data:=.fields #[rawInt a,f1,.ref it,rawInt ((i:Int) + 1),.none,old],slots:=#[] }:=Pd _ he₃
 have ha₄:(h₃.push { cls:=.type "tuple",data:=.seq #[.int i tk,x] }).get? a=some oa:=Pd _ ha₃
 generalize hh₄:h₃.push { cls:=.type "tuple",data:=.seq #[.int i tk,x] }=h₄ at he₄ ha₄
 have hsz:h₃.objs.size=hp.objs.size:=by rw [hs₃.1,hs₂.1,hs₁.1]
 have hel:e < hp.objs.size:=Pe he
 have ht₄:h₄.get? hp.objs.size=some { cls:=.type "tuple",data:=.seq #[.int i tk,x] }:=by rw [<- hh₄,<- hsz]; exact Pp _ rfl
 have hz₄:h₄.objs.size=hp.objs.size + 1:=by rw [<- hh₄,Qc,hsz]
 have hk₄:∀ b o,b≠e->b≠it->hp.get? b=some o->h₄.get? b=some o:=fun b o hbe hbi hb=>by
  rw [<- hh₄]; exact Pd _ (hs₃.extBut b o hbe (hs₂.extBut b o hbe (hs₁.extBut b o hbi hb)))
 have hit₄:St (i + 1) h₄:=D.frame _ _ _ hit₁ fun b hb o y=>by
  have hbe:b≠e:=fun q=>hef (q ▸ hb)
  rw [<- hh₄]; exact Pd _ (hs₃.extBut b o hbe (hs₂.extBut b o hbe y))
 show wpAny _ _ (Qy (.ref e) >>= _) _ _ ⟨h₄,g,d,tk + 1,os⟩
 rw [hsz]
 clear hh₄ ha₃ ha₂ ha₁ he₃ hs₃ he₂ hs₂ he₁ hs₁ hit₁ hsz h₃ h₂ h₁
 refine O8 ?_
 unfold Qy
 refine O8 (Pn he₄ rfl (x:=rawInt a) rfl ?_)
 show wpAny _ _ (loadIfAlive ((a:Int).toNat) >>= _) _ _ ⟨h₄,g,d,tk + 1,os⟩
 refine O8 (Zeh ?_)
 rw [Rf]
 show wpAny _ _ (if (h₄.get? a).isNone=true then _ else _) _ _ ⟨h₄,g,d,tk + 1,os⟩
 rw [ha₄]
 rw [if_neg (by simp)]
 refine O8 (Pn he₄ rfl (x:=f1) rfl ?_)
 have fin:∀ h₅,Lm h₅ e it ((i:Int) + 1)->Pq e h₄ h₅->Q (.ref hp.objs.size) ⟨h₅,g,d,tk + 1,os⟩:=fun h₅ hl hs₅ =>
  hQ x h₅ tk hPx hl (D.frame _ _ _ hit₄ fun b hb o y=>hs₅.extBut b o (fun q=>hef (q ▸ hb)) y) (hs₅.extBut _ _ (Qk hel) ht₄) (by rw [hs₅.1,hz₄]) fun b o hbe hbi hb=>hs₅.extBut b o hbe (hk₄ b o hbe hbi hb)
 by_cases hf:(f1 != Value.bool true)=true
 ·simp only [hf,if_true]
  refine O8 (Q3 he₄ (by simp) fun h₅ he₅ hs₅=>?_)
  replace hs₅:Pq e h₄ h₅:=hs₅
  refine O9 ?_
  simp only [Rz,if_false]
  refine O9 ⟨_,rfl,fin h₅ ⟨a,oa,.bool true,old,he₅,hs₅.extBut a oa hae ha₄,hae,hai⟩ hs₅⟩
 ·simp only [hf]
  refine O9 ?_
  simp only [Rz,if_false]
  exact O9 ⟨_,rfl,fin h₄ ⟨a,oa,f1,old,he₄,ha₄,hae,hai⟩ (Pq.refl ..)⟩
noncomputable def EnSt (h:Heap) (e it:Addr) (i:Nat):Prop:=(i=0/\∃ old,IsEnum h e it 0 old)\/(0 < i/\Lm h e it i)
theorem EnSt.obj {h:Heap} {e it:Addr} {i:Nat} (x:EnSt h e it i):∃ vs,h.get? e=some { cls:=.type "enumerate",dict:=none,data:=.fields vs,slots:=#[] }:=by
 rcases x with ⟨_,old,x⟩ | ⟨_,_,_,_,_,x,_⟩
 ·exact ⟨_,x⟩
 ·exact ⟨_,x⟩
theorem Zki {e it:Addr} {fp:List Addr} {n i:Nat} {P:Nat->Value->Prop} {St:Nat->Heap->Prop} {Q:Option Value->Shared->Prop}
  (D:Draws prog w A.in1 it fp n P St) (he:EnSt s.heap e it i) (hst:St i s.heap) (hlt:i < n) (hne:e≠it) (hef:e ∉ fp)
  (hQ:∀ x h' tk,P i x->EnSt h' e it (i + 1)->St (i + 1) h' ->
   h'.get? s.heap.objs.size=some { cls:=.type "tuple",data:=.seq #[.int i tk,x] }->h'.objs.size=s.heap.objs.size + 1 ->
   (∀ b o,b≠e->b≠it->s.heap.get? b=some o->h'.get? b=some o)->Q (some (.ref s.heap.objs.size)) { s with heap:=h',toks:=tk + 1 }) :
  wpAny (model prog w) A (pyNext (.ref e)) Q E s:=by
 obtain ⟨vs,ho⟩:=he.obj
 have hT:s.TypeIs (.ref e) "enumerate" := ⟨_,ho,rfl⟩
 have hel:e < s.heap.objs.size:=Pe ho
 have hil:it < s.heap.objs.size:=by obtain ⟨_,y⟩:=D.live _ _ hst; exact Pe y
 rcases he with ⟨rfl,old,he⟩ | ⟨_,he⟩
 ·refine wpAny_pyNext_enum_itemD D he hst hlt hne hef fun x h' tk a b c z k q=>?_
  exact hQ x h' tk a (.inr ⟨U6 _,_,_,_,_,b,z,Qk hel,Qk hil⟩) c z k q
 ·unfold pyNext
  exact O8 (Rq (Qz (name:=Ql "__next__") hT Tv
   (Q4 Tv hT Wd
    (Zo9 D he hst hlt hne hef fun x h' tk a b c z k q=>O9 (hQ x h' tk a (.inr ⟨U6 _,b⟩) c z k q)) (Wc _))))
theorem Znr {e it:Addr} {fp:List Addr} {n:Nat} {P:Nat->Value->Prop} {St:Nat->Heap->Prop} {Q:Option Value->Shared->Prop}
  (D:Draws prog w A.in1 it fp n P St) (he:EnSt s.heap e it n) (hst:St n s.heap)
  (hQ:∀ h',So it s.heap h'->Q none { s with heap:=h' }):wpAny (model prog w) A (pyNext (.ref e)) Q E s:=by
 obtain ⟨vs,ho⟩:=he.obj
 have hT:s.TypeIs (.ref e) "enumerate" := ⟨_,ho,rfl⟩
 have h2:vs[2]?=some (.ref it):=by
  rcases he with ⟨rfl,old,he⟩ | ⟨_,a,oa,f1,old,he,_⟩
  ·unfold IsEnum at he
   rw [ho] at he
   injection he with he
   injection he with _ _ he _
   injection he with he
   rw [he]; rfl
  ·rw [ho] at he
   injection he with he
   injection he with _ _ he _
   injection he with he
   rw [he]; rfl
 unfold pyNext
 refine O8 (Rq (Qz (name:=Ql "__next__") hT Tv
  (Q4 Tv hT Wd ?_ (Wc _))))
 show wpAny _ _ (field (.ref e) 2 >>= _) _ _ _
 refine O8 (Pn ho rfl (x:=.ref it) h2 ?_)
 refine O8 (D.done _ _ _ hst fun h' x he' hx'=>?_)
 obtain ⟨o,ho',hc⟩:=hx'
 refine O8 (Vx (T := "StopIteration") (b:=true) ⟨o,ho',hc⟩ isSubtype_stop ?_)
 exact O9 (hQ _ he')
end
end L2
namespace L2
open PySem PySem.Spec PyProof.Rows
structure Src (X:Cx) (pins:List (Addr×Obj)) (σ:St) (it:Addr) (T:String) (n:Nat) (H0:Hp) (J:Nat->List V->Hp->Heap->Prop):Prop where
 ty:∀ i ys H h,J i ys H h->∃ o,h.get? it=some o/\o.cls=.type T
 nl:(Value.type T == Value.type "list")=false/\(Value.type T == Value.type "tuple")=false
 nolen:typeLookup (.type T) "__len__" = pure none
 nohint:typeLookup (.type T) "__length_hint__" = pure none
 self:∀ (A:Around) (s:Shared) (ys:List V) (H:Hp) (Q:Value->Shared->Prop) (E:Value->Shared->Prop),J 0 ys H s.heap->Q (.ref it) s->wpAny (model X.prog X.w) A (pyIter (.ref it)) Q E s
 keep:∀ i ys H h h' S zs zs',H0 S=none->H S=some (.lst zs)->J i ys H h->(∀ b o,b≠S->h.get? b=some o->h'.get? b=some o)->(∃ o,h'.get? S=some o)->J i ys (upd H S (.lst zs')) h'
 fresh:∀ i ys H h,J i ys H h->H it=none
 item:∀ (A:Around) (i:Nat) (s:Shared) (H:Hp) (ys:List V) (E:Value->Shared->Prop),A.handled=none->i < n->Inv X pins σ H s->J i ys H s.heap ->
  wpAny (model X.prog X.w) A (pyNext (.ref it)) (fun r s'=>∃ u x H',r=some u/\RelV x u/\Inv X pins σ H' s'/\J (i + 1) (ys++[x]) H' s'.heap/\∀ S zs,H S=some (.lst zs)->H' S=some (.lst zs)) E s
 done:∀ (A:Around) (s:Shared) (H:Hp) (ys:List V) (E:Value->Shared->Prop),A.handled=none->Inv X pins σ H s->J n ys H s.heap ->
  wpAny (model X.prog X.w) A (pyNext (.ref it)) (fun r s'=>r=none/\Inv X pins σ H s') E s
section
variable {X:Cx} {pins:List (Addr×Obj)} {σ:St} {it:Addr} {T:String} {n:Nat} {H0:Hp} {J:Nat->List V->Hp->Heap->Prop}
theorem Zn7 (C:Src X pins σ it T n H0 J) (hn:n<=sizeLine) {A:Around} (hh:A.handled=none) {R:Result->Shared->Prop} (S:Addr) (hS0:H0 S=none) (res:Value)
  (fin:∀ s' H' ys',Inv X pins σ H' s'->H' S=some (.lst ys')->ys'.length=n->(∃ h,J n ys' H' h)->R (.ok (.ret res)) s') :
  ∀ (k i:Nat) (s:Shared) (H:Hp) (ys:List V),n - i=k->i<=n->Inv X pins σ H s->J i ys H s.heap->H S=some (.lst ys)->ys.length=i ->
  codeAny (model X.prog X.w) A (.builtin "list.extend.loop" ⟨[.ref S,.ref it,res],[]⟩) R s:=by
 intro k
 induction k with
 | zero =>
  intro i s H ys hk hi I j hS hl
  have hin:i=n:=by omega
  subst hin
  refine Sj PySem.F.entry_extend_loop ?_
  rw [Sb T2 _]
  show wpAny _ A.in1 (pyNext (.ref it) >>= _) _ _ s
  refine O8 (Am (C.done A.in1 s H ys _ hh I j) fun r s' ⟨hr,I'⟩=>?_)
  subst hr
  exact O9 (fin s' H ys I' hS hl ⟨_,j⟩)
 | succ k ih =>
  intro i s H ys hk hi I j hS hl
  have hlt:i < n:=by omega
  refine Sj PySem.F.entry_extend_loop ?_
  rw [Sb T2 _]
  show wpAny _ A.in1 (pyNext (.ref it) >>= _) _ _ s
  refine O8 (Am (C.item A.in1 i s H ys _ hh hlt I j) fun r s' ⟨u,x,H',hr,rx,I',j',kS⟩=>?_)
  subst hr
  have hS':=kS S ys hS
  obtain ⟨z,its,m,rv,hl',e⟩:=I'.lstM hS'
  show wpAny _ A.in1 (updateSeq S (·.push u) >>= _) _ _ _
  refine O8 ?_
  have hu:(its.toArray.push u)=(its++[u]).toArray:=by simp
  have I2:=I'.lset (f:=(·.push u)) (its':=its++[u]) (ys:=ys++[x]) (t':=s'.toks) hS' e hu (rv.append (.cons rx .nil)) (by rw [Pc,Ph]; omega)
  refine Us e rfl (O9 ⟨Sk T2 _,ih (i + 1) _ _ (ys++[x]) (by omega) hlt I2 ?_ Ae (by simp [hl])⟩)
   (by rw [Pf]; omega) (by show (its.toArray.push u).size<=sizeLine + 1; rw [Array.size_push,Pf]; omega)
  exact C.keep _ _ _ _ _ S ys (ys++[x]) hS0 hS' j' (fun b o hb eb=>(Q1 _ _ (Pg hb)).trans eb) ⟨_,Rw _ e rfl⟩
theorem Zhk {H:Hp} (C:Src X pins σ it T n H J) (hn:n<=sizeLine) {A:Around} (hh:A.handled=none) {s:Shared} {Q:VK} {E:Value->Shared->Prop} (I:Inv X pins σ H s) (j:J 0 [] H s.heap)
  (jn:∀ S,s.heap.objs.size<=S->H S=none->∀ h',(∀ b o,s.heap.get? b=some o->h'.get? b=some o)->J 0 [] (upd H S (.lst [])) h')
  (q:∀ S H' ys,H S=none->H' S=some (.lst ys)->ys.length=n->(∃ h,J n ys H' h)->Q (.ref S) H') :
  wpAny (model X.prog X.w) A (call (.type "list") [.ref it]) (EP X pins σ Q) E s:=by
 have hf:H s.heap.objs.size=none:=I.hok.fresh (Pa _)
 have hne:s.heap.objs.size≠it:=by
  obtain ⟨o,e,_⟩:=C.ty _ _ _ _ j
  exact Qk (Pe e)
 refine callType_codes (Q₁:=fun obj s₁=>obj=.ref s.heap.objs.size/\s₁={ s with heap:=s.heap.push { cls:=.type "list",data:=.seq #[] } }) PySem.F.called_list (PySem.F.typeCall_list_1 _) PySem.F.entry_list_init
  (code_list_new _ ⟨rfl,rfl⟩) fun obj s₁ h₁=>?_
 obtain ⟨rfl,rfl⟩:=h₁
 have hS:(s.heap.push { cls:=.type "list",data:=.seq #[] }).get? s.heap.objs.size=some { cls:=.type "list",data:=.seq #[] }:=Pp _ rfl
 have I1:Inv X pins σ (upd H s.heap.objs.size (.lst [])) { s with heap:=s.heap.push { cls:=.type "list",data:=.seq ([]:List Value).toArray } }:=I.lnew (ys:=[]) (its:=[]) (t':=s.toks) .nil (by simp)
 have j1:J 0 [] (upd H s.heap.objs.size (.lst [])) (s.heap.push { cls:=.type "list",data:=.seq ([]:List Value).toArray })   := jn _ (Pa _) hf _ fun b o e=>Pd _ e
 refine ⟨⟨_,hS,rfl⟩,PySem.F.args_list_init_2 _ _,?_⟩
 generalize hs1:({ s with heap:=s.heap.push { cls:=.type "list",data:=.seq ([]:List Value).toArray } }:Shared)=s1 at I1
 have hS1:s1.heap.get? s.heap.objs.size=some { cls:=.type "list",data:=.seq ([]:List Value).toArray }:=by rw [<- hs1]; exact hS
 replace j1:J 0 [] (upd H s.heap.objs.size (.lst [])) s1.heap:=by rw [<- hs1]; exact j1
 have hs1':({ s with heap:=s.heap.push { cls:=.type "list",data:=.seq #[] } }:Shared)=s1:=hs1
 first | rw [hs1'] | skip
 show wpAny _ A.in1.in1 (do let old <- Builtin.List.listItems (.ref s.heap.objs.size); Builtin.List.listUpdate (.ref s.heap.objs.size) (fun _=>#[]); letGo old.toList.reverse; Vb (.ref s.heap.objs.size) (.ref it) .none) _ _ s1
 generalize s.heap.objs.size=S at *
 refine O8 ?_
 unfold Builtin.List.listItems
 refine O8 (Qw hS1 rfl (O9 ?_))
 show wpAny _ A.in1.in1 (updateSeq S (fun _=>#[]) >>= fun _=>letGo (#[]:Array Value).toList.reverse >>= fun _=>Vb (.ref S) (.ref it) .none) _ _ s1
 refine O8 (Us hS1 rfl ?_)
 have I2:=I1.lset (f:=fun _=>#[]) (its':=[]) (ys:=[]) (t':=s1.toks) Ae hS1 rfl .nil (by simp)
 have hS2:=Rw (Qs (fun _=>(#[]:Array Value))) hS1 rfl
 have j2:=C.keep _ _ _ _ (s1.heap.update S (Qs fun _=>#[])) S [] [] hf Ae j1 (fun b o hb eb=>(Q1 _ _ (Pg hb)).trans eb) ⟨_,hS2⟩
 rw [Gr] at I2 j2
 generalize hs2:({ s1 with heap:=s1.heap.update S (Qs fun _=>#[]),toks:=s1.toks }:Shared)=s2 at I2
 replace j2:J 0 [] (upd H S (.lst [])) s2.heap:=by rw [<- hs2]; exact j2
 have hs2':({ s1 with heap:=s1.heap.update S (Qs fun _=>#[]) }:Shared)=s2:=hs2
 first | rw [hs2'] | skip
 refine O8 (Va ?_)
 obtain ⟨oi,ei,ci⟩:=C.ty _ _ _ _ j2
 have hT:s2.TypeIs (.ref it) T:=⟨oi,ei,ci⟩
 unfold Vb
 refine O8 (Sn hT ?_)
 have h1:Builtin.List.listSameRef (.ref S) (.ref it)=false:=by simp [Builtin.List.listSameRef,hne]
 have h2:=C.nl.1
 have h3:=C.nl.2
 simp only [h1,h2,h3,Bool.or_false,Rz,if_false]
 refine O8 (C.self _ s2 _ _ _ _ j2 ?_)
 refine O8 (Qr ?_)
 unfold Builtin.List.listLengthHint
 refine O8 (V5 hT C.nolen ?_)
 show wpAny _ A.in1.in1 (specialOf (Value.ref it) (Ql "__length_hint__") >>= _) _ _ _
 refine O8 (V5 hT C.nohint ?_)
 refine O9 ?_
 show wpAny _ A.in1.in1 (rule "list.extend.makes-room" >>= fun _=>Builtin.List.listTouch (.ref S) >>= fun _ =>
  again (.builtin "list.extend.loop" ⟨[.ref S,.ref it,.none],[]⟩)) _ _ _
 refine O8 (Sr ?_)
 refine O8 ?_
 show wpAny _ A.in1.in1 (updateSeq S (·.push .none) >>= fun _=>updateSeq S (·.pop)) _ _ _
 obtain ⟨_,its2,m2,rv2,_,e2⟩:=I2.lstM Ae
 cases rv2
 refine O8 (Us e2 rfl ?_)
 have I3:=I2.lset (f:=(·.push Value.none)) (its':=[.none]) (ys:=[.non]) (t':=s2.toks) Ae e2 (by simp) (.cons rfl .nil) (by show 1<=sizeLine; decide)
 have hS3:=Rw (Qs (·.push Value.none)) e2 rfl
 have j3:=C.keep _ _ _ _ (s2.heap.update S (Qs (·.push Value.none))) S [] [.non] hf Ae j2 (fun b o hb eb=>(Q1 _ _ (Pg hb)).trans eb) ⟨_,hS3⟩
 rw [Gr] at I3 j3
 generalize hs3:({ s2 with heap:=s2.heap.update S (Qs (·.push Value.none)),toks:=s2.toks }:Shared)=s3 at I3
 replace j3:J 0 [] (upd H S (.lst [.non])) s3.heap:=by rw [<- hs3]; exact j3
 have hs3':({ s2 with heap:=s2.heap.update S (Qs (·.push Value.none)) }:Shared)=s3:=hs3
 first | rw [hs3'] | skip
 obtain ⟨_,its3,m3,rv3,hl3,e3⟩:=I3.lstM Ae
 have hl3':its3.length=1:=hl3.symm
 refine Us e3 rfl ?_ (by rw [Pf,hl3']; decide) (by show its3.toArray.pop.size<=sizeLine + 1; rw [Array.size_pop,Pf,hl3']; decide)
 have I4:=I3.lset (f:=(·.pop)) (its':=[]) (ys:=[]) (t':=s3.toks) Ae e3 (by
  cases its3 with
  | nil=>simp at hl3'
  | cons a r=>cases r with
   | nil=>simp
   | cons b r'=>simp at hl3') .nil (by simp)
 have hS4:=Rw (Qs (·.pop)) e3 rfl
 have j4:=C.keep _ _ _ _ (s3.heap.update S (Qs (·.pop))) S [.non] [] hf Ae j3 (fun b o hb eb=>(Q1 _ _ (Pg hb)).trans eb) ⟨_,hS4⟩
 rw [Gr] at I4 j4
 refine O9 ⟨Sk T2 _,Zn7 C hn (A:=A.in1) hh S hf .none ?_ n 0 _ _ [] rfl (Pu _) I4 j4 Ae rfl⟩
 intro s' H' ys' I' hS' hl' hj'
 exact ⟨rfl,.ref S,H',I',rfl,q S H' ys' hf hS' hl' hj'⟩
end
end L2
namespace L2
open PySem PySem.Spec PyProof.Rows
section
variable {X:Cx} {pins:List (Addr×Obj)} {σ:St} {H:Hp} {s:Shared} {h':Heap}
theorem Inv.turned2 {t':Nat} {i1 i2:Addr} (I:Inv X pins σ H s) (k:∀ b o,b≠i1->b≠i2->s.heap.get? b=some o->h'.get? b=some o) (f1:FpOk X pins H i1) (f2:FpOk X pins H i2):Inv X pins σ H { s with heap:=h',toks:=t' }:=by
 obtain ⟨n1,l1,_,e1,c1,p1⟩:=f1
 obtain ⟨n2,l2,_,e2,c2,p2⟩:=f2
 have nit:∀ b u,H b=some u->b≠i1/\b≠i2:=fun b u e=>⟨(fun z=>by rw [z,n1] at e; exact nomatch e),(fun z=>by rw [z,n2] at e; exact nomatch e)⟩
 refine I.step (g':=s.gens) (d':=s.drawn) (ch:=[i1,i2]) (fun b hb=>?_) (fun b o _ _ hc e _=>k b o (fun z=>hc (by simp [z])) (fun z=>hc (by simp [z])) e) (fun b o _ _ hc e _=>⟨o.slots,k b o (fun z=>hc (by simp [z])) (fun z=>hc (by simp [z])) e⟩) (fun _ _ _ _ n=>n)
  (fun b o hc e=>⟨o,k b o (fun z=>hc (by simp [z])) (fun z=>hc (by simp [z])) e⟩) (fun _ _ e=>e) (fun _ _ _ e=>e) (fun b ps e=>⟨#[],by rw [e]; simp⟩) (fun m hm=>?_) (fun b u e=>?_) I.bare
 ·rcases Pm.mp hb with rfl | hb
  ·exact ⟨e1,l1,c1,p1⟩
  ·rw [Qt.mp hb]
   exact ⟨e2,l2,c2,p2⟩
 ·obtain ⟨o,es,ep,ho,r⟩:=hm
  exact ⟨o,es,ep,k _ o (Pg l1) (Pg l2) ho,r⟩
 ·refine (I.hok b u e).stay (fun c v hc q=>k c v ?_ ?_ q) (fun _ q=>q) fun _ _ q=>q
  ·rcases hc with z | z
   ·rw [z]; exact (nit b u e).1
   ·exact (nit c _ z).1
  ·rcases hc with z | z
   ·rw [z]; exact (nit b u e).2
   ·exact (nit c _ z).2
end
theorem FpOk.of {X:Cx} {pins:List (Addr×Obj)} {H H':Hp} {b:Addr} (f:FpOk X pins H b) (h:H' b=none):FpOk X pins H' b:=⟨h,f.2⟩
theorem SqT.kept {K:O7} {H:Hp} {S a:Addr} {zs zs' xs:List V} (hS:H S=some (.lst zs)) (h:SqT K H a xs):SqT K (upd H S (.lst zs')) a xs:=by
 rcases h with (h | ⟨o,h⟩) | h
 ·exact .inl (.inl (by rw [Af (Dj h hS (by intro z; cases z))]; exact h))
 ·exact .inl (.inr ⟨o,by rw [Af (Dj h hS (by intro z; cases z))]; exact h⟩)
 ·exact .inr h
theorem SqT.same {K:O7} {H H':Hp} {a:Addr} {xs:List V} (h:SqT K H a xs) (e:Same H H'):SqT K H' a xs:=e.tup h
noncomputable def Pairs (H:Hp) (xs:List V) (ys:List V):Prop:=∀ (j:Nat) (y:V),ys[j]?=some y->∃ (t:Addr) (x:V),y=V.ref t/\xs[j]?=some x/\H t=some (.tup [.int j,x])
noncomputable def JEn (K:O7) (H0:Hp) (en it a:Addr) (xs:List V):Nat->List V->Hp->Heap->Prop:=fun i ys H h =>
 EnSt h en it i/\h.IsTupleIter it a i/\(H en=none/\H it=none)/\SqT K H a xs/\ys.length=i/\Pairs H xs ys/\Same H0 H
theorem Zqg:typeLookup (.type "enumerate") "__len__" = pure none:=by rw [Th,Sw]; kernel_rfl
theorem Zme:typeLookup (.type "enumerate") "__length_hint__" = pure none:=by rw [Th,Sw]; kernel_rfl
theorem Zh8 {X:Cx} {pins:List (Addr×Obj)} {σ:St} {H0:Hp} {en it a:Addr} {xs:List V} (fe:FpOk X pins H0 en) (fi:FpOk X pins H0 it) (hne:en≠it) (hae:a≠en) (hai:a≠it):Src X pins σ en "enumerate" xs.length H0 (JEn X.K H0 en it a xs) where
 ty:=fun i ys H h j=>by
  obtain ⟨vs,e⟩:=j.1.obj
  exact ⟨_,e,rfl⟩
 nl:=by decide
 nolen:=Zqg
 nohint:=Zme
 self:=fun A s ys H Q E j q=>by
  rcases j.1 with ⟨_,old,e⟩ | ⟨z,_⟩
  ·exact wpAny_pyIter_enum e q
  ·exact absurd z (Qp _)
 keep:=fun i ys H h h' S zs zs' h0 hS j k al=>by
  obtain ⟨j1,j2,⟨j3,j4⟩,j5,j6,j7,j8⟩:=j
  have ne1:en≠S:=fun z=>by rw [z,hS] at j3; cases j3
  have ne2:it≠S:=fun z=>by rw [z,hS] at j4; cases j4
  refine ⟨?_,?_,⟨by rw [Af ne1]; exact j3,by rw [Af ne2]; exact j4⟩,j5.kept hS,j6,fun m y hy=>?_,fun b o e=>?_⟩
  ·rcases j1 with ⟨z,old,e⟩ | ⟨z,a0,oa,f1,old,e,ea,x1,x2⟩
   ·exact .inl ⟨z,old,k _ _ ne1 e⟩
   ·by_cases hs:a0=S
    ·subst hs
     obtain ⟨o,eo⟩:=al
     exact .inr ⟨z,a0,o,f1,old,k _ _ ne1 e,eo,x1,x2⟩
    ·exact .inr ⟨z,a0,oa,f1,old,k _ _ ne1 e,k _ _ hs ea,x1,x2⟩
  ·exact j2.at fun o e=>k _ _ ne2 e
  ·obtain ⟨t,x,e1,e2,e3⟩:=j7 m y hy
   exact ⟨t,x,e1,e2,by rw [Af (Dj e3 hS (by intro z; cases z))]; exact e3⟩
  ·have:b≠S:=fun z=>by rw [z,h0] at e; cases e
   rw [Af this]
   exact j8 b o e
 fresh:=fun i ys H h j=>j.2.2.1.1
 item:=fun A i s H ys E hh hi I j=>by
  obtain ⟨j1,j2,⟨j3,j4⟩,j5,j6,j7,j8⟩:=j
  obtain ⟨its,rv,p,hz⟩:=I.tuple j5
  have hl:=rv.length
  have D:=Np (prog:=X.prog) (w:=X.w) (A:=A.in1) hh it a hai its.toArray
  refine Zki D j1 ⟨j2,p⟩ (by rw [Pf]; omega) hne (by simp [hne,Pg hae]) fun x h' tk hx st' it' ht hsz kk=>?_
  have I1:Inv X pins σ H { s with heap:=h',toks:=tk + 1 }:=I.turned2 (fun b o h1 h2 e=>kk b o h1 h2 e) (fe.of j3) (fi.of j4)
  have hx':its[i]?=some x:=by simpa using hx
  have hxs:i < xs.length:=hi
  obtain ⟨u,hu,ru⟩:=rv.get (Pb hxs)
  rw [hx'] at hu
  cases hu
  have hf:H s.heap.objs.size=none:=I.hok.fresh (Pa _)
  have I2:Inv X pins σ (upd H s.heap.objs.size (.tup [.int i,xs[i]])) { s with heap:=h',toks:=tk + 1 }:=by
   have hokN:HOk X.prog X.w (upd H s.heap.objs.size (.tup [.int i,xs[i]])) h':=fun b o e=>by
    by_cases hb:b=s.heap.objs.size
    ·subst hb
     rw [Ae] at e
     cases e
     exact ⟨by show 2<=sizeLine; decide,[.int i tk,x],.cons ⟨tk,rfl⟩ (.cons ru .nil),⟨_,ht,rfl,_,rfl⟩⟩
    ·rw [Af hb] at e
     refine (I1.hok b o e).stay (fun c v _ q=>q) (fun c q=>?_) fun c zs q=>?_
     ·rw [Af (Cg q hf)]; exact q
     ·rw [Af (Cg q hf)]; exact q
   have u:Un (Bg X.stack) [en,it] H (upd H s.heap.objs.size (.tup [.int i,xs[i]])) s.heap h':={
    keep:=fun b o e n _ hx=>kk b o (fun z=>hx (by simp [z])) (fun z=>hx (by simp [z])) e
    slot:=fun b o e n _ hx=>⟨o.slots,kk b o (fun z=>hx (by simp [z])) (fun z=>hx (by simp [z])) e⟩
    free:=fun b o e n _=>by rw [Af (Pl (Pe e))]; exact n
    there:=fun b o e hx=>⟨o,kk b o (fun z=>hx (by simp [z])) (fun z=>hx (by simp [z])) e⟩
    tups:=fun b zs e=>by rw [Af (Cg e hf)]; exact e
    frzs:=fun b o u e=>by rw [Af (Cg e hf)]; exact e
    tbls:=fun b ps e=>⟨#[],by rw [Af (Cg e hf),e]; simp⟩ }
   refine I.call (g':=s.gens) (d':=s.drawn) (t':=tk + 1) u hokN I.bare fun b hb=>?_
   rcases Pm.mp hb with rfl | hb
   ·exact ⟨fe.2.2.2.1,fe.2.1,fe.2.2.2.2.1,fe.2.2.2.2.2⟩
   ·rw [Qt.mp hb]
    exact ⟨fi.2.2.2.1,fi.2.1,fi.2.2.2.2.1,fi.2.2.2.2.2⟩
  have sm:Same H (upd H s.heap.objs.size (.tup [.int i,xs[i]])):=Same.upd hf
  have ne1:en≠s.heap.objs.size:=by obtain ⟨_,e⟩:=j1.obj; exact Pl (Pe e)
  have ne2:it≠s.heap.objs.size:=by obtain ⟨_,e,_⟩:=j2; exact Pl (Pe e)
  refine ⟨_,.ref s.heap.objs.size,_,rfl,rfl,I2,⟨st',it'.1,⟨by rw [Af ne1]; exact j3,by rw [Af ne2]; exact j4⟩,j5.same sm,by simp [j6],fun m y hy=>?_,j8.trans sm⟩,fun S zs e=>sm S _ e⟩
  by_cases hm:m < i
  ·rw [P0 (by omega)] at hy
   obtain ⟨t,z,e1,e2,e3⟩:=j7 m y hy
   exact ⟨t,z,e1,e2,sm _ _ e3⟩
  ·have hlen:=(Pj.mp hy).1
   rw [Pc,Ph] at hlen
   have:m=i:=by omega
   subst this
   rw [Rb (by omega),j6,Rs] at hy
   have hy:V.ref s.heap.objs.size=y:=by simpa using hy
   exact ⟨_,xs[m],hy.symm,Pb hxs,Ae⟩
 done:=fun A s H ys E hh I j=>by
  obtain ⟨j1,j2,⟨j3,j4⟩,j5,j6,j7,j8⟩:=j
  obtain ⟨its,rv,p,hz⟩:=I.tuple j5
  have hl:=rv.length
  have D:=Np (prog:=X.prog) (w:=X.w) (A:=A.in1) hh it a hai its.toArray
  have e:xs.length=its.toArray.size:=by rw [Pf]; omega
  rw [e] at j1 j2
  refine Znr D j1 ⟨j2,p⟩ fun h' eb=>⟨rfl,?_⟩
  obtain ⟨g0,g1,g2,g3,g4,g5⟩:=fi.of j4
  exact I.turned (t':=s.toks) (fun b o hb e=>eb b o hb e) g0 g1 g3 g4 g5
section
variable {X:Cx}
theorem Zcg:bootBuiltins "list" = some (.type "list"):=by decide +kernel
noncomputable def Za3 (K:O7) (ta:TA):TE:=fun σ H Q=>ta σ H fun vs H1=>∃ a xs,vs=[.ref a]/\SqT K H1 a xs /\
 ∀ (S:Addr) (ys:List V) (H2:Hp),H1 S=none->Same H1 H2->ys.length=xs.length->Pairs H2 xs ys->H2 S=some (.lst ys)->Q (.ref S) H2
theorem Zr1 {e:Expr} {ta:TA} {p p2 pos pos2:Pos} (hg:Gl X "list") (hm:X.mg "list" = none) (hg2:Gl X "enumerate") (hm2:X.mg "enumerate" = none) (ha:QA X [e] ta) (hc:X.calm=true:=by rfl)
  (hs:starEach [.Call (.Name "enumerate" p2) [e] [] pos2] X.env=[(false,eval (.Call (.Name "enumerate" p2) [e] [] pos2) X.env)]:=by rfl) (hs2:starEach [e] X.env=[(false,eval e X.env)]:=by rfl) :
  QE X (.Call (.Name "list" p) [.Call (.Name "enumerate" p2) [e] [] pos2] [] pos) (Za3 X.K ta):=by
 refine ⟨fun pins s σ H Q I h=>?_⟩
 refine Call_ (Ej I hg hm Zcg (Ra ?_ hs rfl))
 rw [hs]
 show wpAny _ _ (spliced ((false,eval (.Call (.Name "enumerate" p2) [e] [] pos2) X.env) :: [])) _ _ s
 refine Vn ?_
 refine Call_ (Ej I hg2 hm2 PyProof.Rows.boot_enumerate (Ra (Am (ha.run pos2 pins s σ H _ I h) fun us s1 ⟨vs,H1,I1,r1,q1⟩=>?_) hs2 rfl))
 obtain ⟨a,xs,e1,hq,q⟩:=q1
 subst e1
 cases r1 with
 | cons r rr =>
  cases rr
  cases r
  obtain ⟨its,rv,pt,hz⟩:=I1.tuple hq
  have hlt:a < s1.heap.objs.size:=by obtain ⟨o,e,_⟩:=id pt; exact Pe e
  refine Zko (show s1.heap.IsTuple a its.toArray from pt) fun h' hen hit hsz hk=>?_
  refine Vt ?_
  have I2:Inv X pins σ H1 { s1 with heap:=h' }:=I1.kept (t':=s1.toks) hk
  have fe:=I1.fpOk (b:=s1.heap.objs.size + 1) (U8 _) (I1.hok.fresh (U8 _))
  have fi:=I1.fpOk (b:=s1.heap.objs.size) (Pa _) (I1.hok.fresh (Pa _))
  have C:=Zh8 (X:=X) (pins:=pins) (σ:=σ) (H0:=H1) (en:=s1.heap.objs.size + 1) (it:=s1.heap.objs.size) (a:=a) (xs:=xs) fe fi (Nat.succ_ne_self _) (Pl (Nat.lt_succ_of_lt hlt)) (Pl hlt)
  refine Zhk C (by omega) (I1.ok.hd hc) I2 ⟨.inl ⟨rfl,_,hen⟩,hit,⟨fe.1,fi.1⟩,hq,rfl,fun j y hy=>by simp at hy,Same.refl _⟩ (fun S hge hS h2 k2=>?_) fun S H' ys hS hS' hl' hj=>?_
  ·have sm:Same H1 (upd H1 S (.lst [])):=Same.upd hS
   refine ⟨.inl ⟨rfl,_,k2 _ _ hen⟩,hit.at fun o e=>k2 _ _ e,⟨?_,?_⟩,hq.same sm,rfl,fun j y hy=>by simp at hy,sm⟩
   ·rw [Af (show s1.heap.objs.size + 1≠S from fun z=>?_)]
    ·exact fe.1
    ·have hge:h'.objs.size<=S:=hge
     omega
   ·rw [Af (show s1.heap.objs.size≠S from fun z=>?_)]
    ·exact fi.1
    ·have hge:h'.objs.size<=S:=hge
     omega
  ·obtain ⟨h,j⟩:=hj
   exact q S ys H' hS j.2.2.2.2.2.2 hl' j.2.2.2.2.2.1 hS'
end
end L2
namespace L2
open PySem PySem.Spec PyProof.Rows
section
variable {X:Cx}
end
end L2
namespace L2
open PySem PySem.SeqAt
open PySem.AutoSeq1 (wpAny_loadPart')
open PySem.MeetsSeq PySem.MeetsSeq2 PySem.MeetsSeq3 PySem.SeqRoads2
theorem Znw (l b:Addr) (items items2:Array Value) (n n2:Nat) (dd dd2:Option Addr) (sl sl2:Array (Option Value)) (hsz:items.size=items2.size) (e:Nat->Bool) (k:Nat) :
  ∀ i:Nat,items.size - i=k->Meets (Builtin.«list.__eq__.loop» ⟨[.ref l,.ref b,rawInt i,rawInt 3],[]⟩)
   (fun A R s=>s.heap.get? l=some { cls:=.type "list",dict:=dd,data:=.seq items n,slots:=sl }/\s.heap.get? b=some { cls:=.type "list",dict:=dd2,data:=.seq items2 n2,slots:=sl2 } /\
    (∀ j (h1:j < items.size) (h2:j < items2.size),EqAt A.in1 s items[j] items2[j] (e j)) /\
    R (.ok (.ret (.bool (!((Pw items.size).drop i).all e)))) s):=by
 induction k with
 | zero =>
  intro i hk prog w A R s h
  obtain ⟨hp,g,d,tk,os⟩:=s; obtain ⟨hl,hb,he,h⟩:=h
  wp_walk using wpAny_loadPart' hl,wpAny_loadPart' hb
  have hi1:items[((i:Nat):Int).toNat]?=none:=by simp; omega
  have hi2:items2[((i:Nat):Int).toNat]?=none:=by simp; omega
  have hd:(Pw items.size).drop i=[]:=by simp; omega
  rw [hd] at h
  rw [hi1,hi2]
  wp_walk using wpAny_loadPart' hl,wpAny_loadPart' hb
  show R (.ok (.ret (.bool (items.size != items2.size)))) _
  rw [hsz]
  simpa using h
 | succ k ih =>
  intro i hk prog w A R s h
  obtain ⟨hp,g,d,tk,os⟩:=s; obtain ⟨hl,hb,he,h⟩:=h
  wp_walk using wpAny_loadPart' hl,wpAny_loadPart' hb
  have hlt:i < items.size:=by omega
  have hlt2:i < items2.size:=by omega
  have hi1:items[((i:Nat):Int).toNat]?=some items[i]:=by simp [hlt]
  have hi2:items2[((i:Nat):Int).toNat]?=some items2[i]:=by simp [hlt2]
  have hd:(Pw items.size).drop i=i :: (Pw items.size).drop (i + 1):=by simp [Rt,hlt]
  have hc:((i:Int) + 1)=((i + 1:Nat):Int):=by push_cast; rfl
  rw [hd,Q7] at h
  rw [hi1,hi2]
  refine O8 (he i hlt hlt2 prog w _ _ ?_)
  cases hb':e i with
  | true =>
   rw [hb'] at h
   wp_walk
   rw [hc]
   exact ⟨Sk plain_eq_loop _,Sj entry_eq_loop (by
    rw [Sb plain_eq_loop _]
    exact ih (i + 1) (by omega) prog w A R _ ⟨hl,hb,he,by simpa using h⟩)⟩
  | false =>
   rw [hb'] at h
   wp_walk using wpAny_loadPart' hl,wpAny_loadPart' hb
   rw [hi1,hi2]
   wp_walk
   simpa using h
theorem Zrl (l b:Addr) (items items2:Array Value) (n n2:Nat) (dd dd2:Option Addr) (sl sl2:Array (Option Value)) (hsz:items.size=items2.size) (e:Nat->Bool) :
  Meets (Builtin.«list.__ne__» ⟨[.ref l,.ref b],[]⟩)
   (fun A R s=>s.heap.get? l=some { cls:=.type "list",dict:=dd,data:=.seq items n,slots:=sl }/\s.heap.get? b=some { cls:=.type "list",dict:=dd2,data:=.seq items2 n2,slots:=sl2 } /\
    (∀ j (h1:j < items.size) (h2:j < items2.size),EqAt A.in1 s items[j] items2[j] (e j)) /\
    R (.ok (.ret (.bool (!(Pw items.size).all e)))) s):=by
 intro prog w A R s h
 obtain ⟨hp,g,d,tk,os⟩:=s; obtain ⟨hl,hb,he,h⟩:=h
 have f3:=PySem.AutoSeq1.sub_list_list
 have hne:¬ (items.size != items2.size)=true:=by simp [hsz]
 wp_walk using wpAny_loadPart' hl,wpAny_loadPart' hb
 exact ⟨Sk plain_eq_loop _,Sj entry_eq_loop (by
  rw [Sb plain_eq_loop _]
  exact Znw l b items items2 n n2 dd dd2 sl sl2 hsz e _ 0 rfl prog w A R _ ⟨hl,hb,he,by simpa using h⟩)⟩
theorem Zh5 (l b:Addr) (items items2:Array Value) (n n2:Nat) (dd dd2:Option Addr) (sl sl2:Array (Option Value)) (e:Nat->Bool) :
  Meets (Builtin.«tuple.__ne__» ⟨[.ref l,.ref b],[]⟩)
   (fun A R s=>s.heap.get? l=some { cls:=.type "tuple",dict:=dd,data:=.seq items n,slots:=sl }/\s.heap.get? b=some { cls:=.type "tuple",dict:=dd2,data:=.seq items2 n2,slots:=sl2 } /\
    (∀ j (h1:j < items.size) (h2:j < items2.size),EqAt A.in1 s items[j] items2[j] (e j)) /\
    R (.ok (.ret (.bool (!((Pw (min items.size items2.size)).all e && items.size == items2.size))))) s) :=
 .of_wp fun prog w A R s h=>by
  obtain ⟨hp,g,d,tk,os⟩:=s; obtain ⟨hl,hb,he,h⟩:=h
  have f2:=PySem.AutoSeq1.sub_tuple_tuple
  have hZ:(items.toList.zip items2.toList).length=min items.size items2.size:=by simp
  wp_walk using wpAny_loadPart' hl,wpAny_loadPart' hb,wpAny_forIn_list _ (fun rest b s'=>b.1=none/\s'=⟨hp,g,d,tk,os⟩/\∃ i,rest=(items.toList.zip items2.toList).drop i /\
   R (.ok (.ret (.bool (!(((Pw (min items.size items2.size)).drop i).all e && items.size == items2.size))))) ⟨hp,g,d,tk,os⟩) _
  case turn =>
   rintro ⟨y,x⟩ rest b s' ⟨hb',rfl,i,hz,hR⟩
   have hlt:i < (items.toList.zip items2.toList).length:=by
    rcases Nat.lt_or_ge i (items.toList.zip items2.toList).length with h' | h'
    ·exact h'
    ·rw [Ru h'] at hz; cases hz
   have hm:i < min items.size items2.size:=hZ ▸ hlt
   have h1:i < items.size:=Pr hm (Nat.min_le_left _ _)
   have h2:i < items2.size:=Pr hm (Nat.min_le_right _ _)
   rw [Rt hlt] at hz
   injection hz with hyx hrest
   have hy:y=items[i]:=by have:=congrArg Prod.fst hyx; simpa using this
   have hx:x=items2[i]:=by have:=congrArg Prod.snd hyx; simpa using this
   subst hy hx
   have hd:(Pw (min items.size items2.size)).drop i=i :: (Pw (min items.size items2.size)).drop (i + 1):=by simp [Rt,hm]
   rw [hd,Q7] at hR
   refine O8 (he i h1 h2 prog w _ _ ?_)
   cases hy:e i with
   | true =>
    rw [hy] at hR
    wp_walk
    exact ⟨rfl,rfl,i + 1,hrest,by simpa using hR⟩
   | false =>
    rw [hy] at hR
    wp_walk
    exact ⟨_,rfl,by simpa using hR⟩
  case fin =>
   rintro ⟨b1,b2⟩ s' ⟨hb',rfl,i,hz,hR⟩
   simp only at hb'
   subst hb'
   have hge:min items.size items2.size<=i:=by
    rcases Nat.lt_or_ge i (items.toList.zip items2.toList).length with h' | h'
    ·rw [Rt h'] at hz; cases hz
    ·exact hZ ▸ h'
   rw [Ru (by simpa using hge)] at hR
   wp_walk
   exact ⟨_,rfl,by simpa [Builtin.Tuple.tupleCompareSizes,bne] using hR⟩
  case h =>
   exact ⟨rfl,rfl,0,rfl,by simpa using h⟩
section
variable {prog:Program} {w:World} {A:Around} {E:Value->Shared->Prop} {s:Shared}
theorem Zph {l b:Addr} {items items2:Array Value} {e:Nat->Bool} {Q:Value->Shared->Prop} (hl:s.heap.IsList l items) (hb:s.heap.IsList b items2) (hsz:items.size=items2.size) (hu:A.units < cLine)
  (he:∀ j (h1:j < items.size) (h2:j < items2.size),EqAt A.in1 s items[j] items2[j] (e j)) (h:Q (.bool (!(Pw items.size).all e)) s):wpAny (model prog w) A (compareOp .NotEq (.ref l) (.ref b)) Q E s:=by
 obtain ⟨⟨cls,dd,data,sl⟩,ho,hc,n,hd⟩:=id hl
 obtain ⟨⟨cls2,dd2,data2,sl2⟩,ho2,hc2,n2,hd2⟩:=id hb
 simp only at hc hd hc2 hd2
 subst hc hd hc2 hd2
 exact richCompare_meets_room (op:=.NotEq) ⟨_,ho,rfl⟩ ⟨_,ho2,rfl⟩ F.slot_list_ne F.entry_list_ne (F.args_list_ne_2 _ _) (Zrl l b items items2 n n2 dd dd2 sl sl2 hsz e)
  ⟨ho,ho2,he,show Value.bool (!(Pw items.size).all e)≠Value.notImplemented/\Q (.bool (!(Pw items.size).all e)) s from ⟨(fun x=>nomatch x),h⟩⟩ hu
theorem Zic {l b:Addr} {items items2:Array Value} {e:Nat->Bool} {Q:Value->Shared->Prop} (hl:s.heap.IsTuple l items) (hb:s.heap.IsTuple b items2) (hu:A.units < cLine)
  (he:∀ j (h1:j < items.size) (h2:j < items2.size),EqAt A.in1 s items[j] items2[j] (e j)) (h:Q (.bool (!((Pw (min items.size items2.size)).all e && items.size == items2.size))) s):wpAny (model prog w) A (compareOp .NotEq (.ref l) (.ref b)) Q E s:=by
 obtain ⟨⟨cls,dd,data,sl⟩,ho,hc,n,hd⟩:=id hl
 obtain ⟨⟨cls2,dd2,data2,sl2⟩,ho2,hc2,n2,hd2⟩:=id hb
 simp only at hc hd hc2 hd2
 subst hc hd hc2 hd2
 exact richCompare_meets_room (op:=.NotEq) ⟨_,ho,rfl⟩ ⟨_,ho2,rfl⟩ F.slot_tuple_ne F.entry_tuple_ne (F.args_tuple_ne_2 _ _) (Zh5 l b items items2 n n2 dd dd2 sl sl2 e)
  ⟨ho,ho2,he,show Value.bool (!((Pw (min items.size items2.size)).all e && items.size == items2.size))≠Value.notImplemented/\Q (.bool (!((Pw (min items.size items2.size)).all e && items.size == items2.size))) s from ⟨(fun x=>nomatch x),h⟩⟩ hu
end
end L2
namespace L2
open PySem PySem.Spec PyProof.Rows
inductive Dt where
 | flat (v:V)
 | tup (ds:List Dt)
 | lst (ds:List Dt)
inductive IsD (K:O7) (H:Hp):Nat->V->Dt->Prop where
 | flat {n:Nat} {v:V} (h:Cu v=true):IsD K H n v (.flat v)
 | tup {n:Nat} {a:Addr} {vs:List V} {ds:List Dt} (q:SqT K H a vs) (l:vs.length=ds.length) (h:∀ (j:Nat) (v:V) (d:Dt),vs[j]?=some v->ds[j]?=some d->IsD K H n v d):IsD K H (n + 1) (.ref a) (.tup ds)
 | lst {n:Nat} {a:Addr} {vs:List V} {ds:List Dt} (q:SqL K H a vs) (l:vs.length=ds.length) (h:∀ (j:Nat) (v:V) (d:Dt),vs[j]?=some v->ds[j]?=some d->IsD K H n v d):IsD K H (n + 1) (.ref a) (.lst ds)
theorem IsD.same {K:O7} {H H':Hp} {n:Nat} {v:V} {d:Dt} (h:IsD K H n v d) (e:Same H H'):IsD K H' n v d:=by
 induction h with
 | flat h=>exact .flat h
 | tup q l _ ih=>exact .tup (e.tup q) l ih
 | lst q l _ ih=>exact .lst (e.seq q) l ih
theorem IsD.up {K:O7} {H:Hp} {n m:Nat} {v:V} {d:Dt} (h:IsD K H n v d) (hm:n<=m):IsD K H m v d:=by
 induction h generalizing m with
 | flat h=>exact .flat h
 | tup q l _ ih =>
  obtain ⟨k,rfl⟩:∃ k,m=k + 1:=⟨m - 1,by omega⟩
  exact .tup q l fun j v d e1 e2=>ih j v d e1 e2 (by omega)
 | lst q l _ ih =>
  obtain ⟨k,rfl⟩:∃ k,m=k + 1:=⟨m - 1,by omega⟩
  exact .lst q l fun j v d e1 e2=>ih j v d e1 e2 (by omega)
theorem Zhn {v:V} (h:Cu v=true):Dv v v=true:=by
 cases v with
 | non=>rfl
 | bl b=>simp [Dv]
 | int i=>simp [Dv]
 | str x=>simp [Dv]
 | byt _=>cases h
 | flt _=>cases h
 | ref _=>cases h
 | ty _=>cases h
section
variable {X:Cx} {pins:List (Addr×Obj)} {σ:St} {H:Hp} {s:Shared}
theorem Zjc (I:Inv X pins σ H s):∀ {n:Nat} {x y:V} {d:Dt},IsD X.K H n x d->IsD X.K H n y d->∀ {A:Around} {u v:Value},RelV x u->RelV y v->A.units + n < cLine->Pt A s u v true:=by
 intro n
 induction n with
 | zero =>
  intro x y d hx hy A u v rx ry hu
  cases hx with
  | flat fx =>
   cases hy with
   | flat fy =>
    have:=Nd (A:=A) (s:=s) rx ry fx fy
    rw [Zhn fx] at this
    exact this
 | succ n ih =>
  intro x y d hx hy A u v rx ry hu
  cases hx with
  | flat fx =>
   cases hy with
   | flat fy =>
    have:=Nd (A:=A) (s:=s) rx ry fx fy
    rw [Zhn fx] at this
    exact this
  | @tup _ a vs ds q l h =>
   cases hy with
   | @tup _ b ws _ q' l' h' =>
    cases rx
    cases ry
    by_cases hab:a=b
    ·subst hab
     exact V3 _
    obtain ⟨its,r1,p1,_⟩:=I.tuple q
    obtain ⟨its2,r2,p2,_⟩:=I.tuple q'
    have l1:=r1.length
    have l2:=r2.length
    have:=SeqAt.RcAt.tuples (A:=A) (e:=fun _=>true) (show s.heap.IsTuple a its.toArray from p1) (show s.heap.IsTuple b its2.toArray from p2) (by omega) fun j h1 h2=>by
     have h1':j < vs.length:=by simp only [Pf] at h1; omega
     have h2':j < ws.length:=by simp only [Pf] at h2; omega
     obtain ⟨u1,g1,k1⟩:=r1.get (Pb h1')
     obtain ⟨u2,g2,k2⟩:=r2.get (Pb h2')
     have e1:its.toArray[j]=u1:=by
      have:its[j]?=some its[j]:=by simp
      rw [this] at g1
      simpa using g1
     have e2:its2.toArray[j]=u2:=by
      have:its2[j]?=some its2[j]:=by simp
      rw [this] at g2
      simpa using g2
     rw [e1,e2]
     have hd:j < ds.length:=by omega
     exact ih (h j _ _ (Pb h1') (Pb hd)) (h' j _ _ (Pb h2') (Pb hd)) k1 k2 (by show A.units + 1 + n < cLine; omega)
    have e:((Pw (min its.toArray.size its2.toArray.size)).all (fun _=>true) && its.toArray.size == its2.toArray.size)=true:=by
     have:its.toArray.size=its2.toArray.size:=by simp only [Pf]; omega
     rw [this]
     simp
    rw [e] at this
    exact Pt.of_refs hab this
  | @lst _ a vs ds q l h =>
   cases hy with
   | @lst _ b ws _ q' l' h' =>
    cases rx
    cases ry
    by_cases hab:a=b
    ·subst hab
     exact V3 _
    obtain ⟨its,r1,p1,_⟩:=I.list q
    obtain ⟨its2,r2,p2,_⟩:=I.list q'
    have l1:=r1.length
    have l2:=r2.length
    have:=SeqAt.RcAt.lists (A:=A) (e:=fun _=>true) p1.isList p2.isList (by simp only [Pf]; omega) (by omega) fun j h1 h2=>by
     have h1':j < vs.length:=by simp only [Pf] at h1; omega
     have h2':j < ws.length:=by simp only [Pf] at h2; omega
     obtain ⟨u1,g1,k1⟩:=r1.get (Pb h1')
     obtain ⟨u2,g2,k2⟩:=r2.get (Pb h2')
     have e1:its.toArray[j]=u1:=by
      have:its[j]?=some its[j]:=by simp
      rw [this] at g1
      simpa using g1
     have e2:its2.toArray[j]=u2:=by
      have:its2[j]?=some its2[j]:=by simp
      rw [this] at g2
      simpa using g2
     rw [e1,e2]
     have hd:j < ds.length:=by omega
     exact ih (h j _ _ (Pb h1') (Pb hd)) (h' j _ _ (Pb h2') (Pb hd)) k1 k2 (by show A.units + 1 + n < cLine; omega)
    have e:(Pw its.toArray.size).all (fun _=>true)=true:=by simp
    rw [e] at this
    exact Pt.of_refs hab this
theorem Mt (I:Inv X pins σ H s) {n:Nat} {A:Around} {vs ws:List V} {its its2:List Value} {ds:List Dt} (r1:Vals vs its) (r2:Vals ws its2) (l:vs.length=ds.length) (l':ws.length=ds.length)
  (h:∀ (j:Nat) (v:V) (d:Dt),vs[j]?=some v->ds[j]?=some d->IsD X.K H n v d) (h':∀ (j:Nat) (v:V) (d:Dt),ws[j]?=some v->ds[j]?=some d->IsD X.K H n v d) (hu:A.units + n < cLine) :
  ∀ j (h1:j < its.toArray.size) (h2:j < its2.toArray.size),Pt A s its.toArray[j] its2.toArray[j] ((fun _=>true) j):=fun j h1 h2=>by
 have l1:=r1.length
 have l2:=r2.length
 have h1':j < vs.length:=by simp only [Pf] at h1; omega
 have h2':j < ws.length:=by simp only [Pf] at h2; omega
 obtain ⟨u1,g1,k1⟩:=r1.get (Pb h1')
 obtain ⟨u2,g2,k2⟩:=r2.get (Pb h2')
 have e1:its.toArray[j]=u1:=by
  have:its[j]?=some its[j]:=by simp
  rw [this] at g1
  simpa using g1
 have e2:its2.toArray[j]=u2:=by
  have:its2[j]?=some its2[j]:=by simp
  rw [this] at g2
  simpa using g2
 rw [e1,e2]
 have hd:j < ds.length:=by omega
 exact Zjc I (h j _ _ (Pb h1') (Pb hd)) (h' j _ _ (Pb h2') (Pb hd)) k1 k2 hu
end
section
variable {X:Cx}
noncomputable def Lc (K:O7) (b:Bool):R2:=fun x y H Q=>∃ (a c:Addr) (n:Nat) (d:Dt),x=.ref a/\y=.ref c/\n<=190/\IsD K H n x d/\IsD K H n y d/\Q (.bl b) H
theorem Zhw (hu:X.A.units + 200 < cLine):OpR X (compareOp .Eq) (Lc X.K true):=by
 intro pins s σ H x y v u Q I rx ry h
 obtain ⟨a,c,n,d,rfl,rfl,hn,hx,hy,q⟩:=h
 cases rx
 cases ry
 cases hx with
 | flat fx=>cases fx
 | @tup n _ vs ds qx l hd =>
  cases hy with
  | @tup _ _ ws _ qy l' hd' =>
   obtain ⟨its,r1,p1,_⟩:=I.tuple qx
   obtain ⟨its2,r2,p2,_⟩:=I.tuple qy
   have l1:=r1.length
   have l2:=r2.length
   refine SeqAt.eq_tupleAt (e:=fun _=>true) (show s.heap.IsTuple a its.toArray from p1) (show s.heap.IsTuple c its2.toArray from p2) (by omega) (Mt I r1 r2 l l' hd hd' (by show X.A.units + 1 + n < cLine; omega)) ?_
   have e:((Pw (min its.toArray.size its2.toArray.size)).all (fun _=>true) && its.toArray.size == its2.toArray.size)=true:=by
    have:its.toArray.size=its2.toArray.size:=by simp only [Pf]; omega
    rw [this]
    simp
   rw [e]
   exact ⟨.bl true,H,I,rfl,q⟩
 | @lst n _ vs ds qx l hd =>
  cases hy with
  | @lst _ _ ws _ qy l' hd' =>
   obtain ⟨its,r1,p1,_⟩:=I.list qx
   obtain ⟨its2,r2,p2,_⟩:=I.list qy
   have l1:=r1.length
   have l2:=r2.length
   refine SeqAt.eq_listAt (e:=fun _=>true) p1.isList p2.isList (by simp only [Pf]; omega) (by omega) (Mt I r1 r2 l l' hd hd' (by show X.A.units + 1 + n < cLine; omega)) ?_
   have e:(Pw its.toArray.size).all (fun _=>true)=true:=by simp
   rw [e]
   exact ⟨.bl true,H,I,rfl,q⟩
theorem Zjl (hu:X.A.units + 200 < cLine):OpR X (compareOp .NotEq) (Lc X.K false):=by
 intro pins s σ H x y v u Q I rx ry h
 obtain ⟨a,c,n,d,rfl,rfl,hn,hx,hy,q⟩:=h
 cases rx
 cases ry
 cases hx with
 | flat fx=>cases fx
 | @tup n _ vs ds qx l hd =>
  cases hy with
  | @tup _ _ ws _ qy l' hd' =>
   obtain ⟨its,r1,p1,_⟩:=I.tuple qx
   obtain ⟨its2,r2,p2,_⟩:=I.tuple qy
   have l1:=r1.length
   have l2:=r2.length
   refine Zic (e:=fun _=>true) (show s.heap.IsTuple a its.toArray from p1) (show s.heap.IsTuple c its2.toArray from p2) (by omega) (Mt I r1 r2 l l' hd hd' (by show X.A.units + 1 + n < cLine; omega)) ?_
   have e:(!((Pw (min its.toArray.size its2.toArray.size)).all (fun _=>true) && its.toArray.size == its2.toArray.size))=false:=by
    have:its.toArray.size=its2.toArray.size:=by simp only [Pf]; omega
    rw [this]
    simp
   rw [e]
   exact ⟨.bl false,H,I,rfl,q⟩
 | @lst n _ vs ds qx l hd =>
  cases hy with
  | @lst _ _ ws _ qy l' hd' =>
   obtain ⟨its,r1,p1,_⟩:=I.list qx
   obtain ⟨its2,r2,p2,_⟩:=I.list qy
   have l1:=r1.length
   have l2:=r2.length
   refine Zph (e:=fun _=>true) p1.isList p2.isList (by simp only [Pf]; omega) (by omega) (Mt I r1 r2 l l' hd hd' (by show X.A.units + 1 + n < cLine; omega)) ?_
   have e:(!(Pw its.toArray.size).all (fun _=>true))=false:=by simp
   rw [e]
   exact ⟨.bl false,H,I,rfl,q⟩
noncomputable def Lg (K:O7):R2:=fun x y H Q=>rEq x y H Q\/Lc K true x y H Q
noncomputable def Mr (K:O7):R2:=fun x y H Q=>rNe x y H Q\/Lc K false x y H Q
theorem Zfl (hu:X.A.units + 200 < cLine):OpR X (compareOp .Eq) (Lg X.K):=op_eq.or (Zhw hu)
theorem Zj8 (hu:X.A.units + 200 < cLine):OpR X (compareOp .NotEq) (Mr X.K):=op_ne.or (Zjl hu)
theorem s_eq {K:O7} {x y:V} {H:Hp} {Q:VK} (hs:Ma x y=true) (h:Q (.bl (decide (x=y))) H):Lg K x y H Q:=.inl ⟨hs,h⟩
theorem s_ne {K:O7} {x y:V} {H:Hp} {Q:VK} (hs:Ma x y=true) (h:Q (.bl (!decide (x=y))) H):Mr K x y H Q:=.inl ⟨hs,h⟩
theorem Zc0 {K:O7} {a c:Addr} {H:Hp} {Q:VK} {n:Nat} {d:Dt} (hn:n<=190) (hx:IsD K H n (.ref a) d) (hy:IsD K H n (.ref c) d) (h:Q (.bl false) H):Mr K (.ref a) (.ref c) H Q:=.inr ⟨a,c,n,d,rfl,rfl,hn,hx,hy,h⟩
theorem Room.u200 {k:Nat} {A:Around} (r:Room k A):A.units + 200 < cLine:=by have:=r.un; omega
end
end L2
namespace L2
open PySem PySem.Spec PyProof.Rows
section
variable {t u:TS} {c d:TT} {te ta tb tc:TE} {g:TG} {gs:Dy} {ts:TA} {D:Ends} {σ:St} {H:Hp} {Q:VK} {QB:Bool->Hp->Prop} {QA':List V->Hp->Prop}
theorem s_seq (h:t { D with nx:=u D } σ H):L8 t u D σ H:=h
theorem s_asg (h:te σ H fun x H1=>g x σ H1 D.nx):Gc te g D σ H:=h
theorem s_ret (h:te σ H D.rt):O0 te D σ H:=h
theorem s_drop (h:te σ H fun _ H1=>D.nx σ H1):Za9 te D σ H:=h
theorem s_next (h:D.nx σ H):O1 D σ H:=h
theorem s_ifS (h:c σ H fun b H1=>if b=true then t D σ H1 else u D σ H1):Jg c t u D σ H:=h
theorem s_var {i:Nat} {v:V} (e:σ[i]?=some (some v)) (h:Q v H):Nh i σ H Q:=⟨v,e,h⟩
theorem s_c {v:V} (h:Q v H):tC v σ H Q:=h
theorem s_op {r:R2} (h:ta σ H fun x H1=>tb σ H1 fun y H2=>r x y H2 Q):Ez r ta tb σ H Q:=h
theorem s_un {r:V->Hp->VK->Prop} (h:ta σ H fun x H1=>r x H1 Q):tUn r ta σ H Q:=h
theorem s_test (h:te σ H fun x H'=>∃ k,x=.bl k/\QB k H'):Zad te σ H QB:=h
theorem s_tB (h:te σ H fun x H'=>∃ k,x=.bl k/\QB k H'):tB te σ H QB:=h
theorem s_ex {b:Bool} {P:Bool->Prop} (h:P b):∃ k,V.bl b=V.bl k/\P k:=⟨b,rfl,h⟩
theorem s_exi {i:Int} {P:Int->Prop} (h:P i):∃ k,V.int i=V.int k/\P k:=⟨i,rfl,h⟩
theorem s_not (h:c σ H fun b H1=>QB (!b) H1):O2 c σ H QB:=h
theorem s_and (h:c σ H fun b H1=>if b=true then d σ H1 QB else QB false H1):Za7 c d σ H QB:=h
theorem s_or (h:c σ H fun b H1=>if b=true then QB true H1 else d σ H1 QB):tOr c d σ H QB:=h
theorem s_andV (h:ta σ H fun x H1=>∃ k,x=.bl k/\if k=true then tb σ H1 Q else Q (.bl false) H1):Zbn ta tb σ H Q:=h
theorem s_orV (h:ta σ H fun x H1=>∃ k,x=.bl k/\if k=true then Q (.bl true) H1 else tb σ H1 Q):Zbl ta tb σ H Q:=h
theorem s_notV (h:ta σ H fun x H1=>∃ k,x=.bl k/\Q (.bl (!k)) H1):Zau ta σ H Q:=h
theorem s_nil (h:QA' [] H):La σ H QA':=h
theorem s_cons (h:te σ H fun x H1=>ts σ H1 fun xs H2=>QA' (x :: xs) H2):Zat te ts σ H QA':=h
theorem s_vals {xs:List V} (h:QA' xs H):Zax xs σ H QA':=h
theorem s_tup (h:ts σ H fun xs H1=>xs.length<=sizeLine/\∀ p,H1 p=none->Q (.ref p) (upd H1 p (.tup xs))):On ts σ H Q:=h
theorem s_lst (h:ts σ H fun xs H1=>xs.length<=sizeLine/\∀ p,H1 p=none->Q (.ref p) (upd H1 p (.lst xs))):Nw ts σ H Q:=h
theorem s_call {sp:Sp} {dvs:List V} {E:XK} (h:ts σ H fun vs H1=>sp (vs++dvs) H1 Q E):Jf sp dvs E ts σ H Q:=h
theorem s_cb {r:List V->Hp->VK->Prop} (h:ts σ H fun vs H1=>r vs H1 Q):tCB r ts σ H Q:=h
theorem s_bm {K:O7} {T:String} {r:V->List V->Hp->VK->Prop} (h:te σ H fun x H1=>Ie K T x H1/\ts σ H1 fun xs H2=>r x xs H2 Q):tBM K T r te ts σ H Q:=h
theorem s_bm0 {K:O7} {T:String} {r:V->List V->Hp->VK->Prop} (h:te σ H fun x H1=>Ie K T x H1/\r x [] H1 Q):Lb K T r te σ H Q:=h
theorem s_sl {r:V->Option Int->Option Int->Hp->VK->Prop} {tl th:TO} (h:te σ H fun x H1=>tl σ H1 fun l H2=>th σ H2 fun u H3=>r x l u H3 Q):tSl r te tl th σ H Q:=h
theorem s_po {QO':Option Int->Hp->Prop} (h:te σ H fun x H1=>∃ i,x=.int i/\QO' (some i) H1):Zbv te σ H QO':=h
theorem s_po0 {QO':Option Int->Hp->Prop} (h:QO' none H):Za1 σ H QO':=h
theorem s_gname {i:Nat} {v:V} {QS':St->Hp->Prop} (h:QS' (σ.set i (some v)) H):Fz i v σ H QS':=h
theorem Ec {K:O7} {n:Nat} {a:Addr} {xs:List V} {QS':St->Hp->Prop} (q:SqT K H a xs) (l:xs.length=n) (h:gs xs σ H QS'):Ls K n gs (.ref a) σ H QS':=⟨a,xs,rfl,q,l,h⟩
theorem s_gcons {v:V} {r:List V} {QS':St->Hp->Prop} (h:g v σ H fun σ' H'=>gs r σ' H' QS'):Oy g gs (v :: r) σ H QS':=⟨v,r,rfl,h⟩
theorem s_gnil {QS':St->Hp->Prop} (h:QS' σ H):Zag [] σ H QS':=⟨rfl,h⟩
theorem s_isN (h:ta σ H fun x H1=>Q (.bl (decide (x=.non))) H1):Zbc ta σ H Q:=h
end
section
variable {wi:TI} {σ0:St->St} {g:TG} {tt:TT} {te:TE} {ta:TA} {tb:TS} {D:Ends} {σ:St} {H:Hp} {Q:VK} {R:It->Hp->Prop} {K:O7}
theorem s_comp (h:wi σ H fun J H1=>∀ L,H1 L=none->Lz J g tt te (σ0 σ) H1 L Q):J9 wi σ0 g tt te σ H Q:=h
theorem s_for (h:wi σ H fun J H1=>∃ W:Nat->Nat->St->Hp->Prop,(∃ m,W 0 m σ H1)/\∀ i m σ H,W i m σ H ->
 (J.stop i H/\D.nx σ H)\/(J.go i H/\∃ N:St->Hp->Prop,(∀ σ' H',N σ' H'->∃ m',m' < m/\W (i + 1) m' σ' H')/\∀ x H',J.yld i H x H'->g x σ H' fun σ2 H2=>tb { D with nx:=N,ct:=N,bk:=D.nx } σ2 H2)):Zam wi g tb D σ H:=h
theorem s_rng1 (h:ta σ H fun vs H1=>∃ j:Int,vs=[.int j]/\-(2 ^ 62)<=j/\j < 2 ^ 62/\R (Fm 0 j.toNat) H1):Nn ta σ H R:=h
theorem s_rng3 (h:ta σ H fun vs H1=>∃ i j:Int,vs=[.int i,.int j,.int (-1)]/\(-(2 ^ 62)<=i/\i < 2 ^ 62/\-(2 ^ 62)<=j/\j < 2 ^ 62)/\R (Hg i (i - j).toNat) H1):Zdb ta σ H R:=h
theorem s_exr {i:Int} {P:Int->Prop} (h:P i):∃ j,([V.int i]:List V)=[.int j]/\P j:=⟨i,rfl,h⟩
theorem s_exr3 {i j k:Int} {P:Int->Int->Prop} (hk:k=-1) (h:P i j):∃ a b,([V.int i,V.int j,V.int k]:List V)=[.int a,.int b,.int (-1)]/\P a b:=⟨i,j,by rw [hk],h⟩
theorem s_iany (h:te σ H fun x H1=>(∃ a,x=.ref a/\(∃ xs,SqL K H1 a xs)/\R (Gg K a) H1)\/(∃ a,x=.ref a/\(∃ xs,SqT K H1 a xs)/\R (Gj K a) H1)\/∃ z,x=.str z/\R (Its z) H1):Zbi K te σ H R:=h
theorem s_irev (h:ta σ H fun vs H1=>∃ a xs,vs=[.ref a]/\SqL K H1 a xs/\R (Im K a xs.length) H1):Oe K ta σ H R:=h
theorem s_listen (h:ta σ H fun vs H1=>∃ a xs,vs=[.ref a]/\SqT K H1 a xs/\∀ (S:Addr) (ys:List V) (H2:Hp),H1 S=none->Same H1 H2->ys.length=xs.length->Pairs H2 xs ys->H2 S=some (.lst ys)->Q (.ref S) H2):Za3 K ta σ H Q:=h
theorem s_yes {QB:Bool->Hp->Prop} (h:QB true H):Nu σ H QB:=h
theorem s_turn {L:Addr} {Nx:List V->St->Hp->Prop} {x:V} (h:g x σ H fun σ2 H3=>tt σ2 H3 fun b H4=>if b=true then te σ2 H4 fun y H5=>∃ ys,H5 L=some (.lst ys)/\ys.length < sizeLine/\(∃ zs,upd H5 L (.lst (ys++[y])) L=some (.lst zs)/\Nx zs σ2 (upd H5 L (.lst (ys++[y])))) else ∃ zs,H4 L=some (.lst zs)/\Nx zs σ2 H4):Zap g tt te L Nx x σ H:=h
theorem B4 {l:Addr} {xs:List V} {y:V} (e:H l=some (.lst xs)) (z:xs.length < sizeLine) (h:Q .non (upd H l (.lst (xs++[y])))):Zef (.ref l) [y] H Q:=⟨l,xs,y,rfl,rfl,e,z,h⟩
theorem Lj {l:Addr} {xs:List V} {y:V} (e:H l=some (.lst (xs++[y]))) (h:Q y (upd H l (.lst xs))):rPop (.ref l) [] H Q:=⟨l,xs++[y],y,rfl,rfl,e,by simp,by simpa using h⟩
end
end L2
namespace L2
open PySem PySem.Spec PyProof.Rows
section
variable {X:Cx} (K:O7)
theorem B8 (hK:X.K=K:=by rfl):OpR X (binaryOp .Add) (Gw K):=by subst hK; exact op_addA
theorem Bu (hu:X.A.units + 200 < cLine) (hK:X.K=K:=by rfl):OpR X (compareOp .Eq) (Lg K):=by subst hK; exact Zfl hu
theorem E2 (hu:X.A.units + 200 < cLine) (hK:X.K=K:=by rfl):OpR X (compareOp .NotEq) (Mr K):=by subst hK; exact Zj8 hu
theorem Hf (hK:X.K=K:=by rfl):OpR X (compareOp .In) (Nk K false):=by subst hK; exact Zms
theorem k_ix (hK:X.K=K:=by rfl):IxR X (Iq K):=by subst hK; exact Zjt
theorem Iy (hK:X.K=K:=by rfl):SlR X (Zbh K):=by subst hK; exact Zja
theorem Df (hK:X.K=K:=by rfl):Ct X (.builtin "len") (Jt K):=by subst hK; exact Zjj
inductive TyQ (K:O7) (H:Hp):V->Value->Prop where
 | ty {x:V} {t:Value} (h:Dk K H x t):TyQ K H x t
 | tup {a:Addr} {xs:List V} (q:SqT K H a xs):TyQ K H (.ref a) (.type "tuple")
 | lst {a:Addr} {xs:List V} (q:SqL K H a xs):TyQ K H (.ref a) (.type "list")
noncomputable def Kr (K:O7) (T:String):List V->Hp->VK->Prop:=fun xs H Q=>∃ x t b,xs=[x,.ty T]/\TyQ K H x t/\P4 K t (.type T)=some b/\Q (.bl b) H
theorem Zpb {T:String}:Ct X (.builtin "isinstance") (Kr X.K T):=by
 intro pins s σ H xs us Q I r h
 obtain ⟨x,t,b,rfl,ty,e,q⟩:=h
 obtain ⟨u,v,rfl,ru,rv⟩:=r.two
 obtain rfl:v=Value.type T:=rv
 cases ty with
 | ty ty=>exact Zjw I ru ty e fun tk=>⟨.bl b,H,I.tok tk,rfl,q⟩
 | tup hq =>
  cases ru
  obtain ⟨its,_,p,_⟩:=I.tuple hq
  obtain ⟨o,h1,h2,_⟩:=p
  exact Qb PySem.W.kitx_tuple I.kIn ⟨o,h1,h2⟩ e (fun z=>nomatch z) fun tk=>⟨.bl b,H,I.tok tk,rfl,q⟩
 | lst hq =>
  cases ru
  obtain ⟨its,_,p,_⟩:=I.list hq
  obtain ⟨o,n,h1,h2,_⟩:=p
  exact Qb Vs I.kIn ⟨o,h1,h2⟩ e (fun z=>nomatch z) fun tk=>⟨.bl b,H,I.tok tk,rfl,q⟩
theorem Dc (T:String) (hK:X.K=K:=by rfl):Ct X (.builtin "isinstance") (Kr K T):=by subst hK; exact Zpb
noncomputable def rAll (K:O7):List V->Hp->VK->Prop:=fun xs H Q=>∃ (p:Addr) (bs:List Bool),xs=[.ref p]/\SqL K H p (bs.map V.bl)/\Q (.bl (bs.all id)) H
theorem Zny (hc:X.calm=true) (hK:X.K=K:=by rfl):Ct X (.builtin "all") (rAll K):=by subst hK; exact Zqd hc
noncomputable def Zrz (K:O7):List V->Hp->VK->Prop:=fun xs H Q=>∃ p ys,xs=[.ref p]/\(SqL K H p ys\/SqT K H p ys)/\∀ l,H l=none->Q (.ref l) (upd H l (.lst ys))
theorem Hz (hK:X.K=K:=by rfl):Ct X (.type "list") (Zrz K):=by subst hK; exact Zro
noncomputable def rInt:List V->Hp->VK->Prop:=fun xs H Q=>(∃ i,xs=[.int i]/\Q (.int i) H)\/∃ k,xs=[.bl k]/\Q (.int (if k then 1 else 0)) H
theorem Zpt:Ct X (.type "int") rInt:=Zh0
theorem s_intb {k:Bool} {H:Hp} {Q:VK} (h:Q (.int (if k=true then 1 else 0)) H):rInt [.bl k] H Q:=.inr ⟨k,rfl,h⟩
theorem Fj {tg l:Expr} {tl:TE} (hl:QE X l tl) (hK:X.K=K:=by rfl):QI X tg l (Zbi K tl):=by subst hK; exact Zrw hl
theorem N6 {tg a:Expr} {ta:TA} {p pos:Pos} (hg:Gl X "reversed") (hm:X.mg "reversed" = none) (ha:QA X [a] ta) (hK:X.K=K:=by rfl) (hs:starEach [a] X.env=[(false,eval a X.env)]:=by rfl):QI X tg (.Call (.Name "reversed" p) [a] [] pos) (Oe K ta):=by subst hK; exact Zrq hg hm ha hs
theorem Zqe {e:Expr} {ta:TA} {p p2 pos pos2:Pos} (hg:Gl X "list") (hm:X.mg "list" = none) (hg2:Gl X "enumerate") (hm2:X.mg "enumerate" = none) (ha:QA X [e] ta) (hK:X.K=K:=by rfl) (hc:X.calm=true:=by rfl)
  (hs:starEach [.Call (.Name "enumerate" p2) [e] [] pos2] X.env=[(false,eval (.Call (.Name "enumerate" p2) [e] [] pos2) X.env)]:=by rfl) (hs2:starEach [e] X.env=[(false,eval e X.env)]:=by rfl) :
  QE X (.Call (.Name "list" p) [.Call (.Name "enumerate" p2) [e] [] pos2] [] pos) (Za3 K ta):=by subst hK; exact Zr1 hg hm hg2 hm2 ha hc hs hs2
theorem Ep {es:List Expr} {k:Nat} {pos:Pos} {t:Dy} {n:Nat} (hc:X.calm=true) (h:QGs X es t) (hK:X.K=K:=by rfl) (hn:(assignEach es X.env).length=n:=by rfl) (hst:(assignEach es X.env).findIdx? (·.1)=none:=by rfl):QG X (.Tuple es k pos) (Ls K n t):=by subst hK; exact Zle hc h hn hst
noncomputable def Zcs (K:O7) (ta:TE):TT:=fun σ H Q=>ta σ H fun x H'=>∃ k,Kn K x H' k/\Q k H'
theorem Zar {a:Expr} {ta:TE} (ha:QE X a ta) (he:∀ whole,isTrue a X.env whole=(do let v <- whole; standAt a.pos; holding [v] (truthy v))) (hK:X.K=K:=by rfl):QT X a (Zcs K ta):=by subst hK; exact ⟨Zqb ha.run he⟩
theorem B2 {o e:Expr} {es:List Expr} {to:TE} {t:TA} {name:Str} {apos cpos:Pos} {T id:String} {r:V->List V->Hp->VK->Prop} (pa:PlainAttrs T) (slot:Slot T name id) (hty:typeOf (.builtin id)=pure (.type "method_descriptor")) (hm:G8 X id r) (ho:QE X o to) (ha:QA X (e :: es) t) (hK:X.K=K:=by rfl)
  (hbase:attributeBase o name X.env (eval o X.env)=eval o X.env:=by rfl) (hfew:((backTo cpos (starEach (e :: es) X.env)).all (fun x=>!x.1) && (backToKw cpos (keywordEach [] X.env)).all (fun x=>x.1.isSome)
   && decide ((e :: es).length + ([]:List Keyword).length + (if ([]:List Keyword).isEmpty then 0 else 1) < 30))=true:=by rfl) (hline:(apos.endLine == cpos.line)=true:=by rfl) (hs:starEach (e :: es) X.env=(false,eval e X.env) :: starEach es X.env:=by rfl) (hplain:(backTo cpos (starEach es X.env)).any (·.1)=false:=by rfl):QE X (.Call (.Attribute o name apos) (e :: es) [] cpos) (tBM K T r to t):=by subst hK; exact Zmn pa slot hty hm ho ha hbase hfew hline hs hplain
theorem Oz {o:Expr} {to:TE} {name:Str} {apos cpos:Pos} {T id:String} {r:V->List V->Hp->VK->Prop} (pa:PlainAttrs T) (slot:Slot T name id) (hty:typeOf (.builtin id)=pure (.type "method_descriptor")) (hm:G8 X id r) (ho:QE X o to) (hK:X.K=K:=by rfl) (hbase:attributeBase o name X.env (eval o X.env)=eval o X.env:=by rfl) (hline:(apos.endLine == cpos.line)=true:=by rfl):QE X (.Call (.Attribute o name apos) [] [] cpos) (Lb K T r to):=by subst hK; exact Zn2 pa slot hty hm ho hbase hline
end
section
variable {K:O7} {σ:St} {H:Hp} {Q:VK} {QB:Bool->Hp->Prop} {ta:TE}
theorem s_truth (h:ta σ H fun x H'=>∃ k,Kn K x H' k/\QB k H'):Zcs K ta σ H QB:=h
theorem Zeu {a:Addr} {xs:List V} {P:Bool->Prop} (q:SqL K H a xs) (h:P (!xs.isEmpty)):∃ k,Kn K (.ref a) H k/\P k:=⟨_,.inl ⟨xs,q,rfl⟩,h⟩
theorem B5 {T:String} {x:V} {t:Value} {b:Bool} (ty:Dk K H x t) (e:P4 K t (.type T)=some b) (h:Q (.bl b) H):Kr K T [x,.ty T] H Q:=⟨x,t,b,rfl,.ty ty,e,h⟩
theorem Ge {T:String} {a:Addr} {xs:List V} {b:Bool} (q:SqT K H a xs) (e:P4 K (.type "tuple") (.type T)=some b) (h:Q (.bl b) H):Kr K T [.ref a,.ty T] H Q:=⟨_,_,b,rfl,.tup q,e,h⟩
theorem Hj {T:String} {a:Addr} {xs:List V} {b:Bool} (q:SqL K H a xs) (e:P4 K (.type "list") (.type T)=some b) (h:Q (.bl b) H):Kr K T [.ref a,.ty T] H Q:=⟨_,_,b,rfl,.lst q,e,h⟩
theorem Zmf {K:O7}:P4 K (.type "int") (.type "bool")=some false:=Zp7 (l:=(fastBuiltinMro "int").get (by decide +kernel)) (by decide +kernel) (by decide) (by simp) (by decide +kernel)
theorem Br {a:Addr} {xs:List V} {P:Prop} (q:SqL K H a xs) (h:P):Ie K "list" (.ref a) H/\P:=⟨.inl ⟨rfl,_,q⟩,h⟩
end
theorem s_nt {A B:Prop} (h:B):if (!true)=true then A else B:=by simpa using h
theorem s_nf {A B:Prop} (h:A):if (!false)=true then A else B:=by simpa using h
end L2
namespace L2
open PySem
inductive Tr where
 | mk (wd:Str) (note:Dt) (ps:List Tr)
noncomputable def Tr.wd:Tr->Str
 | .mk w _ _=>w
noncomputable def Tr.ps:Tr->List Tr
 | .mk _ _ ps=>ps
mutual
noncomputable def Tr.size:Tr->Nat
 | .mk _ _ ps=>1 + B0 ps
noncomputable def B0:List Tr->Nat
 | []=>0
 | t :: r=>t.size + B0 r
end
theorem Tr.size_eq (t:Tr):t.size=1 + B0 t.ps:=by
 cases t with
 | mk w n ps=>rw [Tr.size]; rfl
theorem Zor {ts:List Tr} {j:Nat} {t:Tr} (h:ts[j]?=some t):t.size<=B0 ts:=by
 induction ts generalizing j with
 | nil=>simp at h
 | cons x r ih =>
  rw [B0]
  cases j with
  | zero=>simp at h; subst h; omega
  | succ j=>have:=ih (j:=j) (by simpa using h); omega
theorem Zmg (ts:List Tr):ts.length<=B0 ts:=by
 induction ts with
 | nil=>simp [B0]
 | cons t r ih =>
  have:=t.size_eq
  rw [B0,P8]
  omega
noncomputable def SameT (H H':Hp):Prop:=∀ b,(∀ xs,H b=some (.tup xs)->H' b=some (.tup xs))/\∀ o u,H b=some (.frz o u)->H' b=some (.frz o u)
theorem Same.t {H H':Hp} (e:Same H H'):SameT H H':=fun b=>⟨fun xs h=>e b _ h,fun o u h=>e b _ h⟩
theorem SameT.refl (H:Hp):SameT H H:=fun _=>⟨fun _ h=>h,fun _ _ h=>h⟩
theorem SameT.trans {H H1 H2:Hp} (a:SameT H H1) (b:SameT H1 H2):SameT H H2:=fun c=>⟨fun xs h=>(b c).1 xs ((a c).1 xs h),fun o u h=>(b c).2 o u ((a c).2 o u h)⟩
theorem SameT.set {H:Hp} {S:Addr} {zs:List V} {o:HO} (h:H S=some (.lst zs)):SameT H (upd H S o):=fun b =>
 ⟨fun xs e=>by rw [Af (Dj e h (by intro z; cases z))]; exact e,fun o' u e=>by rw [Af (Dj e h (by intro z; cases z))]; exact e⟩
theorem SameT.new {H:Hp} {S:Addr} {o:HO} (h:H S=none):SameT H (upd H S o):=(Same.upd h).t
theorem SameT.tup {K:O7} {H H':Hp} {a:Addr} {xs:List V} (e:SameT H H') (h:SqT K H a xs):SqT K H' a xs:=by
 rcases h with (h | ⟨o,h⟩) | h
 ·exact .inl (.inl ((e a).1 _ h))
 ·exact .inl (.inr ⟨o,(e a).2 _ _ h⟩)
 ·exact .inr h
noncomputable def IsN (K:O7) (H:Hp) (v:V) (n:Dt):Prop:=(Cu v=true/\n=.flat v)\/∃ (a:Addr) (vs:List V),v=.ref a/\SqT K H a vs/\vs.all Cu=true/\n=.tup (vs.map .flat)
theorem IsN.same {K:O7} {H H':Hp} {v:V} {n:Dt} (h:IsN K H v n) (e:SameT H H'):IsN K H' v n:=by
 rcases h with h | ⟨a,vs,h1,h2,h3⟩
 ·exact .inl h
 ·exact .inr ⟨a,vs,h1,e.tup h2,h3⟩
inductive TrAt (K:O7) (H:Hp):V->Tr->Prop where
 | mk {a p:Addr} {wd:Str} {nv:V} {n:Dt} {vs:List V} {ts:List Tr} (q:SqT K H a [.str wd,nv,.ref p]) (hn:IsN K H nv n) (qp:SqT K H p vs) (l:vs.length=ts.length)
   (h:∀ (j:Nat) (v:V) (t:Tr),vs[j]?=some v->ts[j]?=some t->TrAt K H v t):TrAt K H (.ref a) (.mk wd n ts)
theorem TrAt.sameT {K:O7} {H H':Hp} {v:V} {t:Tr} (h:TrAt K H v t) (e:SameT H H'):TrAt K H' v t:=by
 induction h with
 | mk q hn qp l _ ih=>exact .mk (e.tup q) (hn.same e) (e.tup qp) l ih
theorem TrAt.same {K:O7} {H H':Hp} {v:V} {t:Tr} (h:TrAt K H v t) (e:Same H H'):TrAt K H' v t:=h.sameT e.t
noncomputable def Al {α:Type} (R:V->α->Prop) (vs:List V) (xs:List α):Prop:=vs.length=xs.length/\∀ (j:Nat) (v:V) (x:α),vs[j]?=some v->xs[j]?=some x->R v x
section
variable {α:Type} {R R':V->α->Prop} {vs:List V} {xs:List α} {v:V} {x:α}
theorem Al.mono (h:Al R vs xs) (f:∀ v x,R v x->R' v x):Al R' vs xs:=⟨h.1,fun j v x a b=>f v x (h.2 j v x a b)⟩
theorem Al.nil:Al R [] []:=⟨rfl,fun j v x a _=>by simp at a⟩
theorem Al.snoc (h:Al R vs xs) (a:R v x):Al R (vs++[v]) (xs++[x]):=by
 refine ⟨by simp [h.1],fun j y z e1 e2=>?_⟩
 by_cases hj:j < vs.length
 ·rw [P0 hj] at e1
  rw [P0 (by have:=h.1; omega)] at e2
  exact h.2 j y z e1 e2
 ·have hl:=(Pj.mp e1).1
  rw [Pc,Ph] at hl
  have hj':j=vs.length:=by omega
  subst hj'
  rw [Rb (Pa _),Rs] at e1
  rw [h.1,Rb (Pa _),Rs] at e2
  have e1:v=y:=by simpa using e1
  have e2:x=z:=by simpa using e2
  rw [<- e1,<- e2]
  exact a
theorem Al.split (h:Al R (vs++[v]) xs):∃ ys x,xs=ys++[x]/\Al R vs ys/\R v x:=by
 have hl:xs.length=vs.length + 1:=by have:=h.1; simp at this; omega
 have hne:xs≠[]:=fun z=>by rw [z] at hl; simp at hl
 refine ⟨xs.dropLast,xs.getLast hne,(We hne).symm,⟨by simp [hl],fun j y z e1 e2=>?_⟩,?_⟩
 ·have hj:=(Pj.mp e1).1
  refine h.2 j y z (by rw [P0 hj]; exact e1) ?_
  rw [List.getElem?_dropLast] at e2
  split at e2
  ·exact e2
  ·cases e2
 ·refine h.2 vs.length v _ (by simp) ?_
  rw [List.getLast_eq_getElem,Pb (by omega)]
  congr 1
  simp [hl]
theorem Al.last (h:Al R vs xs) (hn:vs≠[]):∃ vs' v xs' x,vs=vs'++[v]/\xs=xs'++[x]/\Al R vs' xs'/\R v x:=by
 have e:=(We hn).symm
 rw [e] at h
 obtain ⟨ys,x,e2,a,r⟩:=h.split
 exact ⟨_,_,ys,x,e,e2,a,r⟩
theorem Al.get {j:Nat} (h:Al R vs xs) (e:vs[j]?=some v):∃ x,xs[j]?=some x/\R v x:=by
 have hj:=(Pj.mp e).1
 have hx:j < xs.length:=by have:=h.1; omega
 exact ⟨xs[j],Pb hx,h.2 j v _ e (Pb hx)⟩
theorem Al.get' {j:Nat} (h:Al R vs xs) (e:xs[j]?=some x):∃ v,vs[j]?=some v/\R v x:=by
 have hj:=(Pj.mp e).1
 have hv:j < vs.length:=by have:=h.1; omega
 exact ⟨vs[j],Pb hv,h.2 j _ x (Pb hv) e⟩
end
mutual
noncomputable def walk:List Nat->Tr->List (List Nat×Tr)
 | pl,.mk w n ps=>(pl,.mk w n ps) :: Cn pl 0 ps
noncomputable def Cn:List Nat->Nat->List Tr->List (List Nat×Tr)
 | _,_,[]=>[]
 | pl,i,t :: r=>walk (pl++[i]) t++Cn pl (i + 1) r
end
theorem Zpx (pl:List Nat) (t:Tr):walk pl t=(pl,t) :: Cn pl 0 t.ps:=by
 cases t with
 | mk w n ps=>rw [walk]; rfl
mutual
theorem Za0:∀ (pl:List Nat) (t:Tr),(walk pl t).length=t.size
 | pl,.mk w n ps=>by rw [walk,Tr.size,P8,Zee pl 0 ps]; omega
theorem Zee:∀ (pl:List Nat) (i:Nat) (ts:List Tr),(Cn pl i ts).length=B0 ts
 | _,_,[]=>by rw [Cn,B0]; rfl
 | pl,i,t :: r=>by rw [Cn,B0,Pc,Za0,Zee]
end
mutual
theorem Zbk:∀ (pl:List Nat) (t:Tr) (x:List Nat×Tr),x∈walk pl t->x.1.length + 1<=pl.length + t.size
 | pl,.mk w n ps,x,h=>by
  rw [walk] at h
  rw [Tr.size]
  rcases Pm.mp h with h | h
  ·subst h; show pl.length + 1<=_; omega
  ·have:=Zc1 pl 0 ps x h; omega
theorem Zc1:∀ (pl:List Nat) (i:Nat) (ts:List Tr) (x:List Nat×Tr),x∈Cn pl i ts->x.1.length<=pl.length + B0 ts
 | _,_,[],x,h=>by rw [Cn] at h; cases h
 | pl,i,t :: r,x,h=>by
  rw [Cn] at h
  rw [B0]
  rcases Qu.mp h with h | h
  ·have:=Zbk (pl++[i]) t x h
   rw [Pc,Ph] at this
   omega
  ·have:=Zc1 pl (i + 1) r x h; omega
end
noncomputable def A0 (pl:List Nat):List V:=pl.map fun i=>V.int ((i:Nat):Int)
noncomputable def Ce:List Nat->Nat->List Tr->List (List Nat×Tr)
 | _,_,[]=>[]
 | pl,i,t :: r=>(pl++[i],t) :: Ce pl (i + 1) r
theorem Zge (pl:List Nat):∀ (i:Nat) (ts:List Tr),(Ce pl i ts).length=ts.length
 | _,[]=>rfl
 | i,t :: r=>by rw [Ce,P8,P8,Zge pl (i + 1) r]
theorem Zds (pl:List Nat):∀ (i j:Nat) (ts:List Tr),(Ce pl i ts)[j]?=(ts[j]?).map fun t=>(pl++[i + j],t)
 | _,_,[]=>by simp [Ce]
 | i,0,t :: r=>by simp [Ce]
 | i,j + 1,t :: r=>by
  rw [Ce,R9,R9,Zds pl (i + 1) j r]
  congr 1
  funext t
  rw [show i + 1 + j=i + (j + 1) by omega]
theorem Ze2 (pl:List Nat):∀ (i:Nat) (ts:List Tr),(Ce pl i ts).flatMap (fun x=>walk x.1 x.2)=Cn pl i ts
 | _,[]=>by simp [Ce,Cn]
 | i,t :: r=>by rw [Ce,List.flatMap_cons,Cn,Ze2 pl (i + 1) r]
noncomputable def F3 (st:List (List Nat×Tr)):List (List Nat×Tr):=st.reverse.flatMap fun x=>walk x.1 x.2
theorem Zsm:F3 []=[]:=rfl
theorem Og (st:List (List Nat×Tr)) (x:List Nat×Tr):F3 (st++[x])=x :: F3 (st++(Ce x.1 0 x.2.ps).reverse):=by
 unfold F3
 rw [Sc,Sc,List.reverse_reverse,List.flatMap_append,List.flatMap_append,Ze2]
 rw [Ud,List.flatMap_singleton,Zpx]
 rfl
noncomputable def Ei (st:List (List Nat×Tr)):Nat:=(F3 st).length
theorem Zn9 (st:List (List Nat×Tr)) (x:List Nat×Tr):Ei (st++(Ce x.1 0 x.2.ps).reverse) < Ei (st++[x]):=by
 unfold Ei
 rw [Og]
 exact Td _
theorem Zs6 (st:List (List Nat×Tr)):st.length<=Ei st:=by
 unfold Ei F3
 have:∀ l:List (List Nat×Tr),l.length<=(l.flatMap fun x=>walk x.1 x.2).length:=fun l=>by
  induction l with
  | nil=>simp
  | cons x r ih =>
   rw [List.flatMap_cons,Pc,Za0,P8]
   have:=x.2.size_eq
   omega
 have:=this st.reverse
 rw [List.length_reverse] at this
 exact this
theorem Zmx {α:Type} {l:List α} {n i:Nat} {x:α} (hl:l.length=n) (hi:i < n) (hx:l[n - 1 - i]?=some x):(l.drop (n - (i + 1))).reverse=(l.drop (n - i)).reverse++[x]:=by
 have hk:n - 1 - i < l.length:=by omega
 have e:l.drop (n - (i + 1))=x :: l.drop (n - i):=by
  have h1:n - (i + 1)=n - 1 - i:=by omega
  rw [h1,Rt hk,show n - 1 - i + 1=n - i by omega]
  rw [Pb hk] at hx
  rw [Qf hx]
 rw [e,Vu]
theorem Al.append {α:Type} {R:V->α->Prop} {vs ws:List V} {xs ys:List α} (h:Al R vs xs) (h':Al R ws ys):Al R (vs++ws) (xs++ys):=by
 refine ⟨by simp [h.1,h'.1],fun j v x e1 e2=>?_⟩
 by_cases hj:j < vs.length
 ·rw [P0 hj] at e1
  rw [P0 (by have:=h.1; omega)] at e2
  exact h.2 j v x e1 e2
 ·rw [Rb (by omega)] at e1
  rw [Rb (by have:=h.1; omega),<- h.1] at e2
  exact h'.2 _ v x e1 e2
end L2
namespace L2
open PySem PySem.Spec PyProof.Rows
section
open PySem.AutoSeq1
end
section
variable {X:Cx}
noncomputable def C9 (kvs:List (Str×V)) (k:Str):Option V:=(kvs.find? fun kv=>kv.1=k).map (·.2)
inductive VPs:List (Str×V)->List (Str×Value)->Prop
 | nil:VPs [] []
 | cons {k:Str} {x:V} {v:Value} {r:List (Str×V)} {q:List (Str×Value)}:RelV x v->VPs r q->VPs ((k,x) :: r) ((k,v) :: q)
theorem VPs.look {kvs:List (Str×V)} {vs:List (Str×Value)} (h:VPs kvs vs) (k:Str):(valueAt vs k).isSome=(C9 kvs k).isSome/\∀ x,C9 kvs k=some x->∃ v,valueAt vs k=some v/\RelV x v:=by
 induction h with
 | nil=>exact ⟨rfl,fun x e=>nomatch e⟩
 | @cons k' x v r q rx _ ih =>
  unfold valueAt C9 at ih ⊢
  by_cases z:k'=k
  ·simp only [Qv,z,decide_true,Ti,Option.isSome_some]
   exact ⟨trivial,fun y e=>⟨v,rfl,by cases e; exact rx⟩⟩
  ·simp only [Qv,z,decide_false]
   exact ih
noncomputable def Fs (P:Program) (w:World) (K:O7) (a:Addr) (kvs:List (Str×V)):Prop :=
 ∃ (o:Obj) (vs:List (Str×Value)),K.lookup a=some o/\o.IsDictOf (strKind P w) vs/\(a == sysModules)=false/\VPs kvs vs
noncomputable def rInD (P:Program) (w:World) (K:O7):R2:=fun x y H Q=>∃ s a kvs,x=.str s/\y=.ref a/\Fs P w K a kvs/\Q (.bl (C9 kvs s).isSome) H
theorem Zjb:OpR X (compareOp .In) (rInD X.prog X.w X.K):=by
 intro pins s σ H x y v u Q I rx ry h
 obtain ⟨z,a,kvs,rfl,rfl,⟨o,vs,hk,hd,lo,vp⟩,q⟩:=h
 obtain ⟨t,rfl⟩:=rx
 cases ry
 have D:s.heap.DictOf (strKind X.prog X.w) a vs:=V6.mpr ⟨o,I.kIn a o hk,hd⟩
 exact wpAny_in_of (knd:=strKind X.prog X.w) (k:=z) (strKind_is _ _ _ _) lo D.mapOf (Bk (I.tok _) q (vp.look z).1.symm)
noncomputable def rIxD (P:Program) (w:World) (K:O7):R2:=fun x y H Q=>∃ a kvs s v,x=.ref a/\y=.str s/\Fs P w K a kvs/\C9 kvs s=some v/\Q v H
theorem ix_D:IxR X (rIxD X.prog X.w X.K):=by
 intro value slice pins s σ H x y v u Q I rx ry h hs
 obtain ⟨a,kvs,z,v',rfl,rfl,⟨o,vs,hk,hd,lo,vp⟩,hv,q⟩:=h
 cases rx
 obtain ⟨t,rfl⟩:=ry
 have D:s.heap.DictOf (strKind X.prog X.w) a vs:=V6.mpr ⟨o,I.kIn a o hk,hd⟩
 obtain ⟨u',e,r⟩:=(vp.look z).2 _ hv
 exact tail_any D.typeIs slot_dict_getitem.lookup (wpAny_getItem_of (knd:=strKind X.prog X.w) (k:=z) (strKind_is _ _ _ _) D.mapOf e ⟨v',H,I.tok _,r,q⟩) hs
end
section
variable {X:Cx} (P:Program) (w:World) (K:O7)
theorem Zbt (hP:X.prog=P:=by rfl) (hw:X.w=w:=by rfl) (hK:X.K=K:=by rfl):OpR X (compareOp .In) (rInD P w K):=by subst hP hw hK; exact Zjb
theorem Zb0 (hP:X.prog=P:=by rfl) (hw:X.w=w:=by rfl) (hK:X.K=K:=by rfl):IxR X (rIxD P w K):=by subst hP hw hK; exact ix_D
end
theorem s_chain {r r':R2} {ta tb tc:TE} {σ:St} {H:Hp} {Q:VK} (h:ta σ H fun x H1=>tb σ H1 fun y H2=>r x y H2 fun z H3=>∃ k,z=.bl k/\(if k=true then tc σ H3 fun w' H4=>r' y w' H4 Q else Q (.bl false) H3)):Zah r r' ta tb tc σ H Q:=h
inductive Ents (p:Params):List DictEntry->List (Str×V)->Prop
 | nil:Ents p [] []
 | cons {k:Str} {t:Tok} {x:V} {v:Value} {r:List DictEntry} {q:List (Str×V)}:RelV x v->Ents p r q->Ents p (⟨PyData.keyHash p k,.str k t,v⟩ :: r) ((k,x) :: q)
theorem Ents.pairs {P:Program} {w:World} {es:List DictEntry} {kvs:List (Str×V)} (h:Ents w.params es kvs):∃ vs,VPs kvs vs/\PySem.Pairs (PySem.strKind P w) es vs/\vs.map (·.1)=kvs.map (·.1)/\∀ e∈es,∃ k,(PySem.strKind P w).is k e.key=true/\e.hash=(PySem.strKind P w).hash k:=by
 induction h with
 | nil=>exact ⟨[],.nil,.nil,rfl,fun e he=>nomatch he⟩
 | @cons k t x v r q rx _ ih =>
  obtain ⟨vs,a,b,c,d⟩:=ih
  refine ⟨(k,v) :: vs,.cons rx a,.cons (strKind_is _ _ _ _) rfl b,by simp [c],fun e he=>?_⟩
  rcases Pm.mp he with rfl | he
  ·exact ⟨k,strKind_is _ _ _ _,rfl⟩
  ·exact d e he
theorem Zs3 {P:Program} {w:World} {K:O7} {a:Addr} {es:Array DictEntry} {n:Nat} {kvs:List (Str×V)} (l:K.lookup a=some ⟨.type "dict",none,.dict es n,#[]⟩) (hs:(a == sysModules)=false)
  (e:Ents w.params es.toList kvs) (nd:(kvs.map (·.1)).Nodup):Fs P w K a kvs:=by
 obtain ⟨vs,a1,a2,a3,a4⟩:=e.pairs (P:=P)
 exact ⟨_,vs,l,⟨es,n,⟨rfl,rfl,rfl⟩,rfl,fun e he=>a4 e (by simpa using he),a2,by rw [a3]; exact nd⟩,hs,a1⟩
end L2
namespace L2
open PySem PySem.Spec PyProof.Rows
noncomputable def Zlq:R2:=fun x y H Q=>∃ z n,x=.str z/\y=.int n/\MulOk z n/\Q (.str (PySem.Txt.mul z n)) H
theorem Zi5 {X:Cx}:OpR X (binaryOp .Mult) Zlq:=by
 intro pins s σ H x y v u Q I rx ry h
 obtain ⟨z,n,rfl,rfl,hok,q⟩:=h
 obtain ⟨t,rfl⟩:=rx
 obtain ⟨t',rfl⟩:=ry
 exact SB.mul hok fun t' k=>⟨.str _,H,I.tok k,⟨_,rfl⟩,q⟩
end L2
namespace L2
open PySem PySem.Spec PyProof.Rows
section
variable {X:Cx} {pins:List (Addr×Obj)} {σ:St} {it:Addr} {n:Nat} {H0:Hp} {J:Nat->List V->Hp->Heap->Prop}
end
section
variable {X:Cx}
theorem N8:∀ {ns:List Int} {us:List Value},Vals (ns.map V.int) us->∃ xs:List (Int×Tok),us=xs.map (fun p=>Value.int p.1 p.2)/\xs.map (·.1)=ns
 | [],_,.nil=>⟨[],rfl,rfl⟩
 | n :: ns,_,.cons r t=>by
  obtain ⟨u,rfl⟩:=r
  obtain ⟨xs,e1,e2⟩:=N8 t
  exact ⟨(n,u) :: xs,by rw [e1]; rfl,by simp [e2]⟩
end
end L2
namespace L2
open PySem PySem.Spec PyProof.Rows
structure ZA (z TI TO i1 i2:Addr) (fp1 fp2:List Addr):Prop where
 TIz:TI≠z
 TOz:TO≠z
 TITO:TI≠TO
 z1:z ∉ fp1
 z2:z ∉ fp2
 TI1:TI≠i1
 TI2:TI≠i2
 TO1:TO ∉ fp1
 TO2:TO ∉ fp2
 m1:i1∈fp1
 m2:i2∈fp2
 n1:i1 ∉ fp2
 n2:i2 ∉ fp1
theorem ZA.i1z {z TI TO i1 i2:Addr} {fp1 fp2:List Addr} (D:ZA z TI TO i1 i2 fp1 fp2):i1≠z:=fun e=>D.z1 (e ▸ D.m1)
theorem ZA.i2z {z TI TO i1 i2:Addr} {fp1 fp2:List Addr} (D:ZA z TI TO i1 i2 fp1 fp2):i2≠z:=fun e=>D.z2 (e ▸ D.m2)
theorem ZA.TOi1 {z TI TO i1 i2:Addr} {fp1 fp2:List Addr} (D:ZA z TI TO i1 i2 fp1 fp2):TO≠i1:=fun e=>D.TO1 (e ▸ D.m1)
theorem ZA.TOi2 {z TI TO i1 i2:Addr} {fp1 fp2:List Addr} (D:ZA z TI TO i1 i2 fp1 fp2):TO≠i2:=fun e=>D.TO2 (e ▸ D.m2)
theorem Co {prog:Program} {w:World} {A:Around} {it c:Addr} {fp:List Addr} {n i:Nat} {P:Nat->Value->Prop} {St:Nat->Heap->Prop} (D:Draws prog w A it fp n P St) {h h':Heap} (st:St i h) (e:Pq c h h') (hc:c ∉ fp):St i h' :=
 D.frame i h h' st fun b hb o eo=>e.extBut b o (fun z=>hc (z ▸ hb)) eo
section
variable {prog:Program} {w:World} {A:Around} {E:Value->Shared->Prop} {s:Shared} {z TI TO i1 i2:Addr} {fp1 fp2:List Addr} {n1 n2 i:Nat} {P1 P2:Nat->Value->Prop} {St1 St2:Nat->Heap->Prop} {a b:Value}
theorem Zse {Q:Value->Shared->Prop} (D1:Draws prog w A i1 fp1 n1 P1 St1) (D2:Draws prog w A i2 fp2 n2 P2 St2) (D:ZA z TI TO i1 i2 fp1 fp2) (hz:IsZip s.heap z TI TO .none) (hTI:IsPair s.heap TI (.ref i1) (.ref i2)) (hTO:IsPair s.heap TO a b)
  (st1:St1 i s.heap) (st2:St2 i s.heap) (l1:i < n1) (l2:i < n2)
  (hQ:∀ x y h' tk,P1 i x->P2 i y->IsZip h' z TI TO (rawInt s.heap.objs.size)->IsPair h' TO x y->St1 (i + 1) h'->St2 (i + 1) h'->IsPair h' s.heap.objs.size x y->h'.objs.size=s.heap.objs.size + 1 ->
   (∀ c o,c≠z->c≠TO->c≠i1->c≠i2->s.heap.get? c=some o->h'.get? c=some o)->Q (.ref s.heap.objs.size) { s with heap:=h',toks:=tk }) :
  wpAny (model prog w) A (Builtin.«zip.__next__» ⟨[.ref z],[]⟩) (fun fin s'=>∃ v,fin=.done (.ret v)/\Q v s') E s:=by
 show wpAny _ _ (field (.ref z) 2 >>= _) _ _ s
 refine O8 (Pn hz rfl (x:=Value.bool false) rfl ?_)
 show wpAny _ _ (field (.ref z) 3 >>= _) _ _ s
 refine O8 (Pn hz rfl (x:=Value.ref TI) rfl (O8 (Qw hTI rfl ?_)))
 show wpAny _ _ (Qy (.ref z) >>= _) _ _ s
 refine O8 ?_
 unfold Qy
 refine O8 (Pn hz rfl (x:=Value.none) rfl (O9 ?_))
 simp only [if_true]
 refine O8 (Sr (O8 (Pn hz rfl (x:=Value.ref TO) rfl ?_)))
 refine O8 (Q3 hz (by simp) fun h₁ hz₁ e1=>?_)
 replace hz₁:IsZip h₁ z TI TO Value.ellipsis:=hz₁
 refine O8 ?_
 simp only [List.zipIdx_cons,List.zipIdx_nil,Tg,Uw]
 refine O8 (O8 (Uz ?_))
 show wpAny _ _ (Qm (.ref i1) >>= _) _ _ _
 refine O8 (D1.item i _ _ _ l1 (Co D1 st1 e1 D.z1) fun x h₂ tk₂ px s12 e2=>O9 ?_)
 replace e2:Pq i1 h₁ h₂:=e2
 have p2:IsPair h₂ TO a b:=e2.extBut _ _ D.TOi1 (e1.extBut _ _ D.TOz hTO)
 refine O8 (Qw p2 rfl (O8 (Vl p2 fun h₃ p3 e3=>?_)))
 replace p3:IsPair h₃ TO x b:=p3
 replace e3:Pq TO h₂ h₃:=e3
 refine O8 (Va (O9 (O8 (O8 (Uz ?_)))))
 show wpAny _ _ (Qm (.ref i2) >>= _) _ _ _
 have s22:St2 i h₃:=Co D2 (Co D2 (Co D2 st2 e1 D.z2) e2 D.n1) e3 D.TO2
 refine O8 (D2.item i _ _ _ l2 s22 fun y h₄ tk₄ py s24 e4=>O9 ?_)
 replace e4:Pq i2 h₃ h₄:=e4
 have p4:IsPair h₄ TO x b:=e4.extBut _ _ D.TOi2 p3
 refine O8 (Qw p4 rfl (O8 (Vl p4 fun h₅ p5 e5=>?_)))
 replace p5:IsPair h₅ TO x y:=p5
 replace e5:Pq TO h₄ h₅:=e5
 refine O8 (Va (O9 (O9 (O8 (Qw p5 rfl (O8 (wpAny_newTuple ?_)))))))
 have sz:h₅.objs.size=s.heap.objs.size:=by rw [e5.1,e4.1,e3.1,e2.1,e1.1]
 have z5:IsZip h₅ z TI TO Value.ellipsis:=e5.extBut _ _ D.TOz.symm (e4.extBut _ _ D.i2z.symm (e3.extBut _ _ D.TOz.symm (e2.extBut _ _ D.i1z.symm hz₁)))
 have k5:∀ c o,c≠z->c≠TO->c≠i1->c≠i2->s.heap.get? c=some o->h₅.get? c=some o:=fun c o c1 c2 c3 c4 e=>e5.extBut _ _ c2 (e4.extBut _ _ c4 (e3.extBut _ _ c2 (e2.extBut _ _ c3 (e1.extBut _ _ c1 e))))
 have t1:St1 (i + 1) h₅:=Co D1 (Co D1 (Co D1 s12 e3 D.TO1) e4 D.n2) e5 D.TO1
 have t2:St2 (i + 1) h₅:=Co D2 s24 e5 D.TO2
 have zlt:z < h₅.objs.size:=Pe z5
 show wpAny _ _ (V9 (.ref z) (.ref h₅.objs.size) >>= _) _ _ _
 refine O8 ?_
 unfold V9
 have z6:IsZip (h₅.push { cls:=.type "tuple",data:=.seq #[x,y] }) z TI TO Value.ellipsis:=Pd _ z5
 refine O8 (Q3 z6 (by simp) fun h₇ z7 e7=>?_)
 replace z7:IsZip h₇ z TI TO (rawInt h₅.objs.size):=z7
 refine Q3 z7 (by simp) fun h₈ z8 e8=>?_
 replace z8:IsZip h₈ z TI TO (rawInt h₅.objs.size):=z8
 have up:∀ c o,c≠z->h₅.get? c=some o->h₈.get? c=some o:=fun c o c1 e=>e8.extBut _ _ c1 (e7.extBut _ _ c1 (Pd _ e))
 have t8:IsPair h₈ h₅.objs.size x y:=e8.extBut _ _ (Qk zlt) (e7.extBut _ _ (Qk zlt) (Pp _ rfl))
 have sz8:h₈.objs.size=h₅.objs.size + 1:=by rw [e8.1,e7.1,Qc]
 rw [sz] at z8 t8 sz8
 refine O9 ⟨_,rfl,?_⟩
 show Q (.ref h₅.objs.size) _
 rw [sz]
 exact hQ x y h₈ tk₄ px py z8 (up _ _ D.TOz p5) (D1.frame _ _ _ t1 fun c hc o e=>up c o (fun q=>D.z1 (q ▸ hc)) e) (D2.frame _ _ _ t2 fun c hc o e=>up c o (fun q=>D.z2 (q ▸ hc)) e) t8 sz8 fun c o c1 c2 c3 c4 e=>up c o c1 (k5 c o c1 c2 c3 c4 e)
theorem Zs1 {Q:Fin->Shared->Prop} (D1:Draws prog w A i1 fp1 n1 P1 St1) (D2:Draws prog w A i2 fp2 n2 P2 St2) (D:ZA z TI TO i1 i2 fp1 fp2) (hz:IsZip s.heap z TI TO .none) (hTI:IsPair s.heap TI (.ref i1) (.ref i2)) (hTO:IsPair s.heap TO a b)
  (st1:St1 i s.heap) (st2:St2 i s.heap) (hend:i=n1\/(i < n1/\i=n2))
  (hE:∀ h' e tk,(∀ c o,c≠z->c≠TO->c≠i1->c≠i2->s.heap.get? c=some o->h'.get? c=some o)->(∃ o,h'.get? e=some o/\o.cls=.type "StopIteration")->E (.ref e) { s with heap:=h',toks:=tk }) :
  wpAny (model prog w) A (Builtin.«zip.__next__» ⟨[.ref z],[]⟩) Q E s:=by
 show wpAny _ _ (field (.ref z) 2 >>= _) _ _ s
 refine O8 (Pn hz rfl (x:=Value.bool false) rfl ?_)
 show wpAny _ _ (field (.ref z) 3 >>= _) _ _ s
 refine O8 (Pn hz rfl (x:=Value.ref TI) rfl (O8 (Qw hTI rfl ?_)))
 show wpAny _ _ (Qy (.ref z) >>= _) _ _ s
 refine O8 ?_
 unfold Qy
 refine O8 (Pn hz rfl (x:=Value.none) rfl (O9 ?_))
 simp only [if_true]
 refine O8 (Sr (O8 (Pn hz rfl (x:=Value.ref TO) rfl ?_)))
 refine O8 (Q3 hz (by simp) fun h₁ hz₁ e1=>?_)
 replace hz₁:IsZip h₁ z TI TO Value.ellipsis:=hz₁
 refine O8 ?_
 simp only [List.zipIdx_cons,List.zipIdx_nil,Tg,Uw]
 refine O8 (O8 (Uz ?_))
 show wpAny _ _ (Qm (.ref i1) >>= _) _ _ _
 rcases hend with rfl | ⟨l1,rfl⟩
 ·refine O8 (D1.done _ _ _ (Co D1 st1 e1 D.z1) fun h₂ e e2 he=>?_)
  obtain ⟨oe,hoe,hce⟩:=he
  replace e2:So i1 h₁ h₂:=e2
  have z2:IsZip h₂ z TI TO Value.ellipsis:=e2 _ _ D.i1z.symm hz₁
  have hez:e≠z:=fun x=>by subst x; rw [z2] at hoe; cases hoe; simp at hce
  refine Q3 z2 (by simp) fun h₃ _ e3=>hE h₃ e s.toks (fun c o c1 _ c3 _ x=>e3.extBut _ _ c1 (e2 _ _ c3 (e1.extBut _ _ c1 x))) ⟨oe,e3.extBut _ _ hez hoe,hce⟩
 ·refine O8 (D1.item i _ _ _ l1 (Co D1 st1 e1 D.z1) fun x h₂ tk₂ px s12 e2=>O9 ?_)
  replace e2:Pq i1 h₁ h₂:=e2
  have p2:IsPair h₂ TO a b:=e2.extBut _ _ D.TOi1 (e1.extBut _ _ D.TOz hTO)
  refine O8 (Qw p2 rfl (O8 (Vl p2 fun h₃ p3 e3=>?_)))
  replace e3:Pq TO h₂ h₃:=e3
  refine O8 (Va (O9 (O8 (O8 (Uz ?_)))))
  show wpAny _ _ (Qm (.ref i2) >>= _) _ _ _
  have s22:St2 i h₃:=Co D2 (Co D2 (Co D2 st2 e1 D.z2) e2 D.n1) e3 D.TO2
  refine O8 (D2.done _ _ _ s22 fun h₄ e e4 he=>?_)
  obtain ⟨oe,hoe,hce⟩:=he
  replace e4:So i2 h₃ h₄:=e4
  have z4:IsZip h₄ z TI TO Value.ellipsis:=e4 _ _ D.i2z.symm (e3.extBut _ _ D.TOz.symm (e2.extBut _ _ D.i1z.symm hz₁))
  have hez:e≠z:=fun x=>by subst x; rw [z4] at hoe; cases hoe; simp at hce
  refine Q3 z4 (by simp) fun h₅ _ e5=>hE h₅ e tk₂ (fun c o c1 c2 c3 c4 x=>e5.extBut _ _ c1 (e4 _ _ c4 (e3.extBut _ _ c2 (e2.extBut _ _ c3 (e1.extBut _ _ c1 x))))) ⟨oe,e5.extBut _ _ hez hoe,hce⟩
theorem Zmr {Q:Option Value->Shared->Prop} (D1:Draws prog w A.in1 i1 fp1 n1 P1 St1) (D2:Draws prog w A.in1 i2 fp2 n2 P2 St2) (D:ZA z TI TO i1 i2 fp1 fp2) (hz:IsZip s.heap z TI TO .none) (hTI:IsPair s.heap TI (.ref i1) (.ref i2)) (hTO:IsPair s.heap TO a b)
  (st1:St1 i s.heap) (st2:St2 i s.heap) (l1:i < n1) (l2:i < n2)
  (hQ:∀ x y h' tk,P1 i x->P2 i y->IsZip h' z TI TO (rawInt s.heap.objs.size)->IsPair h' TO x y->St1 (i + 1) h'->St2 (i + 1) h'->IsPair h' s.heap.objs.size x y->h'.objs.size=s.heap.objs.size + 1 ->
   (∀ c o,c≠z->c≠TO->c≠i1->c≠i2->s.heap.get? c=some o->h'.get? c=some o)->Q (some (.ref s.heap.objs.size)) { s with heap:=h',toks:=tk }) :
  wpAny (model prog w) A (pyNext (.ref z)) Q E s:=by
 have hT:s.TypeIs (.ref z) "zip" := ⟨_,hz,rfl⟩
 unfold pyNext
 exact O8 (Rq (Qz (name:=Ql "__next__") hT Rj
  (Q4 Rj hT Ue (Zse D1 D2 D hz hTI hTO st1 st2 l1 l2 fun x y h' tk a1 a2 a3 a4 a5 a6 a7 a8 a9=>O9 (hQ x y h' tk a1 a2 a3 a4 a5 a6 a7 a8 a9)) (Ua _))))
theorem Zi6 {Q:Option Value->Shared->Prop} (D1:Draws prog w A.in1 i1 fp1 n1 P1 St1) (D2:Draws prog w A.in1 i2 fp2 n2 P2 St2) (D:ZA z TI TO i1 i2 fp1 fp2) (hz:IsZip s.heap z TI TO .none) (hTI:IsPair s.heap TI (.ref i1) (.ref i2)) (hTO:IsPair s.heap TO a b)
  (st1:St1 i s.heap) (st2:St2 i s.heap) (hend:i=n1\/(i < n1/\i=n2))
  (hQ:∀ h' tk,(∀ c o,c≠z->c≠TO->c≠i1->c≠i2->s.heap.get? c=some o->h'.get? c=some o)->Q none { s with heap:=h',toks:=tk }):wpAny (model prog w) A (pyNext (.ref z)) Q E s:=by
 have hT:s.TypeIs (.ref z) "zip" := ⟨_,hz,rfl⟩
 unfold pyNext
 refine O8 (Rq (Qz (name:=Ql "__next__") hT Rj
  (Q4 Rj hT Ue (Zs1 D1 D2 D hz hTI hTO st1 st2 hend fun h' e tk hk he=>?_) (Ua _))))
 obtain ⟨o,ho,hc⟩:=he
 exact O8 (Vx (T := "StopIteration") (b:=true) ⟨o,ho,hc⟩ isSubtype_stop (O9 (hQ _ _ hk)))
end
section
variable {prog:Program} {w:World} {A:Around} {E:Value->Shared->Prop} {s:Shared}
end
section
variable {X:Cx} {pins:List (Addr×Obj)} {σ:St} {H:Hp} {s:Shared} {h':Heap}
theorem Inv.turnedL {t':Nat} {fp:List Addr} (I:Inv X pins σ H s) (k:∀ b o,b ∉ fp->s.heap.get? b=some o->h'.get? b=some o) (f:∀ b∈fp,FpOk X pins H b):Inv X pins σ H { s with heap:=h',toks:=t' }:=by
 have nit:∀ b u,H b=some u->b ∉ fp:=fun b u e hb=>by rw [(f b hb).1] at e; exact nomatch e
 refine I.step (g':=s.gens) (d':=s.drawn) (ch:=fp) (fun b hb=>?_) (fun b o _ _ hc e _=>k b o hc e) (fun b o _ _ hc e _=>⟨o.slots,k b o hc e⟩) (fun _ _ _ _ n=>n)
  (fun b o hc e=>⟨o,k b o hc e⟩) (fun _ _ e=>e) (fun _ _ _ e=>e) (fun b ps e=>⟨#[],by rw [e]; simp⟩) (fun m hm=>?_) (fun b u e=>?_) I.bare
 ·obtain ⟨n1,l1,_,e1,c1,p1⟩:=f b hb
  exact ⟨e1,l1,c1,p1⟩
 ·obtain ⟨o,es,ep,ho,r⟩:=hm
  exact ⟨o,es,ep,k _ o (fun hb=>(f _ hb).2.1 rfl) ho,r⟩
 ·refine (I.hok b u e).stay (fun c v hc q=>k c v ?_ q) (fun _ q=>q) fun _ _ q=>q
  rcases hc with z | z
  ·rw [z]; exact nit b u e
  ·exact nit c _ z
theorem Inv.pairL {tk:Nat} {fp:List Addr} {T:Addr} {xs:List V} {its:List Value} (I:Inv X pins σ H s) (f:∀ b∈fp,FpOk X pins H b)
  (kk:∀ b o,b ∉ fp->s.heap.get? b=some o->h'.get? b=some o) (hT:s.heap.objs.size<=T) (rv:Vals xs its) (hz:xs.length<=sizeLine) (ht:h'.IsTuple T its.toArray):Inv X pins σ (upd H T (.tup xs)) { s with heap:=h',toks:=tk }:=by
 have hf:H T=none:=I.hok.fresh hT
 have I1:Inv X pins σ H { s with heap:=h',toks:=tk }:=I.turnedL kk f
 have hokN:HOk X.prog X.w (upd H T (.tup xs)) h':=fun b o e=>by
  by_cases hb:b=T
  ·subst hb
   rw [Ae] at e
   cases e
   exact ⟨hz,its,rv,ht⟩
  ·rw [Af hb] at e
   refine (I1.hok b o e).stay (fun c v _ q=>q) (fun c q=>?_) fun c zs q=>?_
   ·rw [Af (Cg q hf)]; exact q
   ·rw [Af (Cg q hf)]; exact q
 have u:Un (Bg X.stack) fp H (upd H T (.tup xs)) s.heap h':={
  keep:=fun b o e n _ hx=>kk b o hx e
  slot:=fun b o e n _ hx=>⟨o.slots,kk b o hx e⟩
  free:=fun b o e n _=>by rw [Af (Pl (Pr (Pe e) hT))]; exact n
  there:=fun b o e hx=>⟨o,kk b o hx e⟩
  tups:=fun b zs e=>by rw [Af (Cg e hf)]; exact e
  frzs:=fun b o u e=>by rw [Af (Cg e hf)]; exact e
  tbls:=fun b ps e=>⟨#[],by rw [Af (Cg e hf),e]; simp⟩ }
 refine I.call (g':=s.gens) (d':=s.drawn) (t':=tk) u hokN I.bare fun b hb=>?_
 obtain ⟨n1,l1,_,e1,c1,p1⟩:=f b hb
 exact ⟨e1,l1,c1,p1⟩
end
structure ZB (z TI TO i1 i2 a b:Addr):Prop where
 TIz:TI≠z
 TOz:TO≠z
 TITO:TI≠TO
 i1z:i1≠z
 i2z:i2≠z
 TI1:TI≠i1
 TI2:TI≠i2
 TO1:TO≠i1
 TO2:TO≠i2
 i12:i1≠i2
 az:a≠z
 aTO:a≠TO
 a1:a≠i1
 a2:a≠i2
 bz:b≠z
 bTO:b≠TO
 b1:b≠i1
 b2:b≠i2
theorem ZB.za {z TI TO i1 i2 a b:Addr} (D:ZB z TI TO i1 i2 a b):ZA z TI TO i1 i2 [i1,a] [i2,b] where
 TIz:=D.TIz
 TOz:=D.TOz
 TITO:=D.TITO
 z1:=by simp [D.i1z.symm,D.az.symm]
 z2:=by simp [D.i2z.symm,D.bz.symm]
 TI1:=D.TI1
 TI2:=D.TI2
 TO1:=by simp [D.TO1,D.aTO.symm]
 TO2:=by simp [D.TO2,D.bTO.symm]
 m1:=by simp
 m2:=by simp
 n1:=by simp [D.i12,D.b1.symm]
 n2:=by simp [D.i12.symm,D.a2.symm]
theorem Zh6 {n a b:Nat} (h1:a < n) (h2:b < n):ZB (n + 4) (n + 2) (n + 3) n (n + 1) a b:=by
 have f:∀ i j:Nat,i≠j->n + i≠n + j:=fun i j h e=>h (Nat.add_left_cancel e)
 have g:∀ i:Nat,a≠n + i:=fun i e=>absurd h1 (by rw [e]; exact Nat.not_lt.mpr (Up _ _))
 have g':∀ i:Nat,b≠n + i:=fun i e=>absurd h2 (by rw [e]; exact Nat.not_lt.mpr (Up _ _))
 exact ⟨f 2 4 (by decide),f 3 4 (by decide),f 2 3 (by decide),f 0 4 (by decide),f 1 4 (by decide),f 2 0 (by decide),f 2 1 (by decide),f 3 0 (by decide),f 3 1 (by decide),f 0 1 (by decide),g 4,g 3,g 0,g 1,g' 4,g' 3,g' 0,g' 1⟩
section
variable {X:Cx}
end
end L2
namespace L2
open PySem PySem.Spec PyProof.Rows
theorem Zpl {prog:Program} {w:World} {A:Around} {E:Value->Shared->Prop} {s:Shared} {t sl:Addr} {items:Array Value} {vl vu:Value} {lo hi:Option Int} {Q:Value->Shared->Prop} (ht:IsTup s.heap t items) (hs:s.heap.IsSliceOf sl vl vu .none) (pl:IsPart vl lo) (pu:IsPart vu hi)
  (hw:HT.sIx items.size 0 lo=0/\HT.sIx items.size items.size hi=items.size) (h:Q (.ref t) s):wpAny (model prog w) A (getItem (.ref t) (.ref sl)) Q E s:=by
 obtain ⟨os,hos,hcs,hds⟩:=id hs
 have hTs:s.TypeIs (.ref sl) "slice" := ⟨os,hos,hcs⟩
 unfold getItem
 try with_reducible refine Qr ?_
 first | refine O8 (O9 ?_) | skip
 refine O8 (wpAny_sequenceKey ht.typeIs (by decide) ?_)
 refine O8 (Qz (name:=Ql "__getitem__") ht.typeIs R8
  (Q4 R8 ht.typeIs PyProof.Rows.entry_tuple_getitem ?_ (PyProof.Rows.args_tuple_getitem _ _)))
 show wpAny _ _ (Builtin.Tuple.tupleItemsOf (.ref t) >>= _) _ _ s
 refine O8 (PyProof.Rows.tupleItemsOf_ ht ?_)
 refine O8 (Sn hTs ?_)
 rw [if_pos (by decide)]
 refine O8 (HT.sliceApplied_gen hs pl pu ?_)
 have hyes:(((HT.sIx items.size 0 lo:Nat):Int) == 0 && (1:Int) == 1 && (HT.sIx items.size items.size hi - HT.sIx items.size 0 lo) == items.size)=true:=by
  rw [hw.1,hw.2]
  simp
 show wpAny _ _ (if (((HT.sIx items.size 0 lo:Nat):Int) == 0 && (1:Int) == 1 && (HT.sIx items.size items.size hi - HT.sIx items.size 0 lo) == items.size)=true then _ else _) _ _ s
 rw [if_pos hyes]
 refine O8 (m:=Builtin.Tuple.tupleIsExact (.ref t)) ?_
 unfold Builtin.Tuple.tupleIsExact
 refine O8 (Sn ht.typeIs (O9 ?_))
 rw [if_pos (by decide)]
 refine O8 (Sr ?_)
 exact O9 ⟨_,rfl,O9 h⟩
noncomputable def rSlU (K:O7):V->Option Int->Option Int->Hp->VK->Prop:=fun x lo hi H Q=>∃ a xs,x=.ref a/\SqT K H a xs/\∀ r H',Same H H'->SqT K H' r (Cf xs lo hi)->Q (.ref r) H'
theorem Zpc {X:Cx}:SlR X (rSlU X.K):=by
 intro pins s σ H x v vl vu lo hi sl Q I rx hs pl pu h
 obtain ⟨a,xs,rfl,hx,q⟩:=h
 by_cases hw:HT.sIx xs.length 0 lo=0/\HT.sIx xs.length xs.length hi=xs.length
 ·cases rx
  obtain ⟨its,r,ht,hz⟩:=I.tuple hx
  have hlen:its.toArray.size=xs.length:=by rw [Pf]; exact r.length.symm
  refine ⟨"tuple",_,R8.lookup,ht.typeIs,?_⟩
  refine Zpl ht hs pl pu (by rw [hlen]; exact hw) ⟨.ref a,H,I,rfl,q a H (Same.refl H) ?_⟩
  have e:Cf xs lo hi=xs:=by unfold Cf; rw [hw.1,hw.2]; simp
  rw [e]
  exact hx
 ·exact Zhb pins s σ H _ v vl vu lo hi sl Q I rx hs pl pu ⟨a,xs,rfl,hx,hw,fun p hp=>q p _ (Same.upd hp) (.of Ae)⟩
noncomputable def rSlB (K:O7):V->Option Int->Option Int->Hp->VK->Prop:=fun x lo hi H Q=>Mv K x lo hi H Q\/Zba x lo hi H Q\/rSlU K x lo hi H Q
theorem Zfy {X:Cx} (K:O7) (hK:X.K=K:=by rfl):SlR X (rSlB K):=by subst hK; exact sl_list.or (sl_str.or Zpc)
theorem Ze8 {K:O7} {a:Addr} {xs:List V} {lo hi:Option Int} {H:Hp} {Q:VK} (ha:SqT K H a xs) (h:∀ r H',Same H H'->SqT K H' r (Cf xs lo hi)->Q (.ref r) H'):rSlB K (.ref a) lo hi H Q:=.inr (.inr ⟨a,xs,rfl,ha,h⟩)
theorem Zo6 (xs:List V) (k:Nat):Cf xs none (some (k:Int))=xs.take k:=by
 unfold Cf
 rw [HT.sIx_none,HT.sIx_nat,Tp,List.drop_zero]
 by_cases h:k<=xs.length
 ·rw [Nat.min_eq_left h]
 ·rw [Nat.min_eq_right (by omega),Rv (Pa _),Rv (by omega)]
theorem Zcj (xs:List V) (k:Nat):Cf xs (some (k:Int)) none=xs.drop k:=by
 unfold Cf
 rw [HT.sIx_none,HT.sIx_nat]
 by_cases h:k<=xs.length
 ·rw [Nat.min_eq_left h,Rv (by simp)]
 ·rw [Nat.min_eq_right (by omega),Ru (Pa _),Ru (by omega)]
  simp
end L2
namespace L2
open PySem PySem.Spec PyProof.Rows
structure Mvd (fs xs:List Addr) (h h':Heap):Prop where
 keep:∀ b o,b ∉ xs->b ∉ fs->h.get? b=some o->h'.get? b=some o
 slot:∀ b o,b ∉ xs->h.get? b=some o->∃ sl,h'.get? b=some { o with slots:=sl }
theorem Mvd.trans {fs xs:List Addr} {h h1 h2:Heap} (a:Mvd fs xs h h1) (b:Mvd fs xs h1 h2):Mvd fs xs h h2 :=
 ⟨fun c o n1 n2 e=>b.keep c o n1 n2 (a.keep c o n1 n2 e),fun c o n e=>by
  obtain ⟨sl,e1⟩:=a.slot c o n e
  obtain ⟨sl',e2⟩:=b.slot c _ n e1
  exact ⟨sl',e2⟩⟩
theorem Mvd.mono {fs xs ys:List Addr} {h h1:Heap} (a:Mvd fs xs h h1) (s:∀ b∈xs,b∈ys):Mvd fs ys h h1 :=
 ⟨fun c o n1 n2 e=>a.keep c o (fun z=>n1 (s c z)) n2 e,fun c o n e=>a.slot c o (fun z=>n (s c z)) e⟩
theorem Mvd.upd {fs:List Addr} {h:Heap} {a:Addr} (f:Obj->Obj):Mvd fs [a] h (h.update a f) :=
 ⟨fun c o n _ e=>by rw [Q1 _ _ (fun z=>n (by simp [z]))]; exact e,fun c o n e=>⟨o.slots,by rw [Q1 _ _ (fun z=>n (by simp [z]))]; exact e⟩⟩
theorem Mvd.push {fs xs:List Addr} {h:Heap} (o:Obj):Mvd fs xs h (h.push o):=⟨fun _ _ _ _ e=>Pd _ e,fun _ o _ e=>⟨o.slots,Pd _ e⟩⟩
theorem Mvd.fun {fs xs:List Addr} {h h1 base:Heap} {l:List Env} (a:Mvd fs xs h h1) (hl:h.FunFrames base l) (nx:∀ b∈xs,∃ o vs,h.get? b=some o/\o.data=.fields vs):h1.FunFrames base l :=
 hl.of_keeps fun b o e hd=>by
  obtain ⟨sl,e1⟩:=a.slot b o (fun z=>by
   obtain ⟨o',vs,e',d'⟩:=nx b z
   rw [e] at e'
   cases e'
   exact hd vs d') e
  exact ⟨_,e1,rfl⟩
noncomputable def Kv (h:Heap) (e T:Addr) (cls:Value) (od:Option Addr) (fl:Value):Prop :=
 ∃ oe vs oT ts,h.get? e=some oe/\oe.cls=cls/\oe.dict=od/\oe.data=.fields vs/\vs[1]?=some (.ref T)/\T≠e/\h.get? T=some oT/\oT.data=.fields ts/\ts[3]?=some fl
noncomputable abbrev F4 (h:Heap) (e T:Addr) (cls:Value) (od:Option Addr):Prop:=Kv h e T cls od .none
noncomputable def Ly (h:Heap) (e:Addr) (cls:Value) (od:Option Addr):Prop:=∃ oe vs,h.get? e=some oe/\oe.cls=cls/\oe.dict=od/\oe.data=.fields vs/\vs[1]?=some .none
section
variable {M:Model} {A:Around} {E:Value->Shared->Prop} {s:Shared}
theorem Zcx {base:Heap} {env:Env} {outer:List Env} {L e:Addr} {oe:Obj} {vs:Array Value} {head:Value} {hadNext:Bool} {Q:Unit->Shared->Prop}
  (hfr:A.frames=some (env :: outer)) (hl:s.heap.FunFrames base (env :: outer)) (hf:env.frame=some L) (he:s.heap.get? e=some oe) (hd:oe.data=.fields vs) (hsz:1 < vs.size)
  (h:∀ h' T,s.heap.objs.size<=T->Kv h' e T oe.cls oe.dict (rawInt L)->Mvd (Bg (env :: outer)) [e] s.heap h'->Q () { s with heap:=h' }) :
  wpAny M A (do let a <- frameOf env; let pl <- entryPlaceOf L hadNext; let b <- EntryCells.newEntry head a .none (rawInt L) .none pl; setField (.ref e) 1 b) Q E s:=by
 have hene:e ∉ Bg (env :: outer):=fun hm=>by
  obtain ⟨_,o,ho,hnf⟩:=hl.mem hm
  rw [he] at ho
  cases ho
  exact hnf vs hd
 refine O8 (wpAny_frameOf_fun hfr hl hf fun h₁ s1=>?_)
 refine O8 (wpAny_entryPlaceOf fun pl hpl=>?_)
 unfold EntryCells.newEntry newFields
 refine O8 (Rm ?_ (hpl.sizeOk5 _ _ _ _ _))
 have e1:h₁.get? e=some oe:=(s1.2.1 e hene).trans he
 generalize hoT:({ cls:=.type "traceback",dict:=none,data:=.fields ([head,.ref L,.none,rawInt L,.none]++(if pl.isEmpty then P7 6 Value.none else pl)).toArray }:Obj)=oT
 have e2:(h₁.push oT).get? e=some oe:=Pd _ e1
 refine Tj e2 hd hsz (h _ h₁.objs.size (by rw [s1.1]; exact Pa _) ?_ ?_)
 ·have nT:h₁.objs.size≠e:=Qk (Pe e1)
  have d3:=Uk hd (·.setIfInBounds 1 (Value.ref h₁.objs.size))
  have e3:=Rw (Sl (·.setIfInBounds 1 (Value.ref h₁.objs.size))) e2 (Vh d3)
  have fT:oT.isFreed=false:=by rw [<- hoT]; rfl
  have e4:=(Q1 (h₁.push oT) (Sl (·.setIfInBounds 1 (Value.ref h₁.objs.size))) (Pg nT)).trans (Pp h₁ fT)
  refine ⟨_,_,_,_,e3,Obj.cls_mapFields _ _,?_,d3,by simp [hsz],nT,e4,by rw [<- hoT],?_⟩
  ·obtain ⟨c0,d0,t0,s0⟩:=oe
   cases t0 <;> rfl
  ·first | (simp; done) | (rcases hpl with rfl | ⟨_,_,_,_,_,_,_,rfl⟩ <;> simp)
 ·have m1:Mvd (Bg (env :: outer)) [e] s.heap h₁:=⟨fun b o _ n e=>(s1.2.1 b n).trans e,fun b o _ e=>s1.2.2 b o e⟩
  exact (m1.trans (Mvd.push oT)).trans (Mvd.upd _)
theorem Lf {e T:Addr} {cls fl:Value} {od:Option Addr} {fs:List Addr} {Q:Unit->Shared->Prop} (x:Kv s.heap e T cls od fl) (h:∀ h',F4 h' e T cls od->Mvd fs [T] s.heap h'->Q () { s with heap:=h' }):wpAny M A (setFlight (.ref e) none) Q E s:=by
 obtain ⟨oe,vs,oT,ts,a1,a2,a3,a4,a5,a6,a7,a8,a9⟩:=x
 have hz:3 < ts.size:=(Tx.mp a9).1
 unfold setFlight
 refine O8 (Pn a1 a4 a5 ?_)
 rw [if_pos (show (Value.ref T != Value.none)=true from by simp)]
 refine Tj a7 a8 hz (h _ ?_ (Mvd.upd _))
 have d:=Uk a8 (·.setIfInBounds 3 ((none:Option Addr).elim Value.none fun f=>rawInt f))
 exact ⟨oe,vs,_,_,by rw [Q1 _ _ a6]; exact a1,a2,a3,a4,a5,a6,Rw _ a7 (Vh d),d,by simp [hz]⟩
theorem Zjy {base:Heap} {env:Env} {outer:List Env} {L e:Addr} {cls:Value} {od:Option Addr} {Q:Unit->Shared->Prop}
  (hfr:A.frames=some (env :: outer)) (hl:s.heap.FunFrames base (env :: outer)) (hf:env.frame=some L) (x:Ly s.heap e cls od)
  (h:∀ h' T,s.heap.objs.size<=T->Kv h' e T cls od (rawInt L)->Mvd (Bg (env :: outer)) [e] s.heap h'->Q () { s with heap:=h' }):wpAny M A (noteFrame (.ref e) env) Q E s:=by
 obtain ⟨oe,vs,he,rfl,rfl,hd,h1⟩:=x
 unfold noteFrame
 simp only [hf]
 refine O8 (Pn he hd h1 ?_)
 rw [if_neg (by decide)]
 exact Zcx hfr hl hf he hd (Tx.mp h1).1 h
theorem Zg4 {base:Heap} {env:Env} {outer:List Env} {L e T:Addr} {cls:Value} {od:Option Addr} {Q:Unit->Shared->Prop}
  (hfr:A.frames=some (env :: outer)) (hl:s.heap.FunFrames base (env :: outer)) (hf:env.frame=some L) (x:F4 s.heap e T cls od)
  (h:∀ h' T',s.heap.objs.size<=T'->Kv h' e T' cls od (rawInt L)->Mvd (Bg (env :: outer)) [e,T] s.heap h'->Q () { s with heap:=h' }):wpAny M A (noteFrame (.ref e) env) Q E s:=by
 obtain ⟨oe,vs,oT,ts,he,rfl,rfl,hd,h1,nT,hT,dT,h3⟩:=x
 unfold noteFrame
 simp only [hf]
 refine O8 (Pn he hd h1 ?_)
 rw [if_pos (show (Value.ref T != Value.none)=true from by simp)]
 refine O8 (Pn hT dT h3 ?_)
 rw [if_neg (show ¬ ((Value.none == rawInt L)=true) from by simp [rawInt])]
 refine O8 (Tj hT dT (Tx.mp h3).1 ?_)
 have m1:Mvd (Bg (env :: outer)) [T] s.heap (s.heap.update T (Sl (·.setIfInBounds 3 Value.none))):=Mvd.upd _
 have he':(s.heap.update T (Sl (·.setIfInBounds 3 Value.none))).get? e=some oe:=(Q1 _ _ nT).trans he
 refine Zcx hfr (m1.fun hl fun b hb=>by rw [Qt.mp hb]; exact ⟨oT,ts,hT,dT⟩) hf he' hd (Tx.mp h1).1 fun h' T' hz x m=>?_
 refine h h' T' ?_ x ((m1.mono (by simp)).trans (m.mono (by simp)))
 have:(s.heap.update T (Sl (·.setIfInBounds 3 Value.none))).objs.size=s.heap.objs.size:=Heap.size_after_update ..
 have hz:(s.heap.update T (Sl (·.setIfInBounds 3 Value.none))).objs.size<=T':=hz
 omega
theorem Zj6 {base:Heap} {env:Env} {outer:List Env} {L e:Addr} {cls:Value} {od:Option Addr} {Q:Unit->Shared->Prop}
  (hfr:A.frames=some (env :: outer)) (hl:s.heap.FunFrames base (env :: outer)) (hf:env.frame=some L) (x:Ly s.heap e cls od)
  (h:∀ h' T,s.heap.objs.size<=T->F4 h' e T cls od->Mvd (Bg (env :: outer)) [e,T] s.heap h'->Q () { s with heap:=h' }):wpAny M A (leaving env (.ref e)) Q E s:=by
 unfold leaving
 refine O8 (Zjy hfr hl hf x fun h1 T hz y m=>?_)
 refine Lf (fs:=Bg (env :: outer)) y fun h2 y2 m2=>h h2 T hz y2 ((m.mono (by simp)).trans (m2.mono (by simp)))
theorem Zj4 {base:Heap} {env:Env} {outer:List Env} {L e T:Addr} {cls:Value} {od:Option Addr} {Q:Unit->Shared->Prop}
  (hfr:A.frames=some (env :: outer)) (hl:s.heap.FunFrames base (env :: outer)) (hf:env.frame=some L) (x:F4 s.heap e T cls od)
  (h:∀ h' T',s.heap.objs.size<=T'->F4 h' e T' cls od->Mvd (Bg (env :: outer)) [e,T,T'] s.heap h'->Q () { s with heap:=h' }):wpAny M A (leaving env (.ref e)) Q E s:=by
 unfold leaving
 refine O8 (Zg4 hfr hl hf x fun h1 T' hz y m=>?_)
 refine Lf (fs:=Bg (env :: outer)) y fun h2 y2 m2=>h h2 T' hz y2 ((m.mono (by simp)).trans (m2.mono (by simp)))
end
end L2
namespace L2
open PySem PySem.Spec PyProof.Rows
theorem Zby {X:Cx} {st:Stmt}:QS X st (fun _ _ _=>False):=⟨fun _ _ _ _ _ _ h=>h.elim⟩
noncomputable def Iz (h:Heap) (z TI TO i1 i2:Addr):Prop:=∃ (a:Addr) (oa:Obj) (f1:Value),h.get? z=some { cls:=.type "zip",dict:=none,data:=.fields #[rawInt a,f1,.bool false,.ref TI,.ref TO],slots:=#[] }/\h.get? a=some oa/\a≠z/\a≠i1/\a≠i2
section
variable {prog:Program} {w:World} {A:Around} {E:Value->Shared->Prop} {s:Shared} {z TI TO i1 i2:Addr} {fp1 fp2:List Addr} {n1 n2 i:Nat} {P1 P2:Nat->Value->Prop} {St1 St2:Nat->Heap->Prop} {a b:Value}
theorem Ze5 {Q:Bool->Shared->Prop} (hz:Iz s.heap z TI TO i1 i2) (h:∀ h',Iz h' z TI TO i1 i2->Pq z s.heap h'->Q false { s with heap:=h' }):wpAny (model prog w) A (Qy (.ref z)) Q E s:=by
 obtain ⟨a,oa,f1,e,ea,n0,n1,n2⟩:=hz
 unfold Qy
 refine O8 (Pn e rfl (x:=rawInt a) rfl ?_)
 show wpAny _ _ (loadIfAlive ((a:Int).toNat) >>= _) _ _ s
 refine O8 (Zeh ?_)
 rw [Rf,ea]
 rw [if_neg (by simp)]
 refine O8 (Pn e rfl (x:=f1) rfl ?_)
 by_cases hf:(f1 != Value.bool true)=true
 ·simp only [hf,if_true]
  refine O8 (Q3 e (by simp) fun h₅ e5 s5=>?_)
  replace s5:Pq z s.heap h₅:=s5
  exact O9 (h h₅ ⟨a,oa,.bool true,e5,s5.extBut a oa n0 ea,n0,n1,n2⟩ s5)
 ·simp only [hf]
  exact O9 (h s.heap ⟨a,oa,f1,e,ea,n0,n1,n2⟩ (Pq.refl ..))
theorem Zj0 {Q:Value->Shared->Prop} (D1:Draws prog w A i1 fp1 n1 P1 St1) (D2:Draws prog w A i2 fp2 n2 P2 St2) (D:ZA z TI TO i1 i2 fp1 fp2) (hz:Iz s.heap z TI TO i1 i2) (hTI:IsPair s.heap TI (.ref i1) (.ref i2))
  (st1:St1 i s.heap) (st2:St2 i s.heap) (l1:i < n1) (l2:i < n2)
  (hQ:∀ x y h' tk,P1 i x->P2 i y->Iz h' z TI TO i1 i2->St1 (i + 1) h'->St2 (i + 1) h'->IsPair h' s.heap.objs.size x y->h'.objs.size=s.heap.objs.size + 1 ->
   (∀ c o,c≠z->c≠i1->c≠i2->s.heap.get? c=some o->h'.get? c=some o)->Q (.ref s.heap.objs.size) { s with heap:=h',toks:=tk }) :
  wpAny (model prog w) A (Builtin.«zip.__next__» ⟨[.ref z],[]⟩) (fun fin s'=>∃ v,fin=.done (.ret v)/\Q v s') E s:=by
 obtain ⟨a0,oa0,f10,e0,_⟩:=id hz
 show wpAny _ _ (field (.ref z) 2 >>= _) _ _ s
 refine O8 (Pn e0 rfl (x:=Value.bool false) rfl ?_)
 show wpAny _ _ (field (.ref z) 3 >>= _) _ _ s
 refine O8 (Pn e0 rfl (x:=Value.ref TI) rfl (O8 (Qw hTI rfl ?_)))
 show wpAny _ _ (Qy (.ref z) >>= _) _ _ s
 refine O8 (Ze5 hz fun h₁ hz₁ e1=>?_)
 simp only [Rz,if_false]
 refine O8 ?_
 simp only [List.forIn_toArray,Tg,Uw]
 refine O8 (O8 (Qr ?_))
 show wpAny _ _ (Qm (.ref i1) >>= _) _ _ _
 refine O8 (D1.item i _ _ _ l1 (Co D1 st1 e1 D.z1) fun x h₂ tk₂ px s12 e2=>O9 (O9 ?_))
 replace e2:Pq i1 h₁ h₂:=e2
 refine O8 (O8 (Qr ?_))
 show wpAny _ _ (Qm (.ref i2) >>= _) _ _ _
 have s22:St2 i h₂:=Co D2 (Co D2 st2 e1 D.z2) e2 D.n1
 refine O8 (D2.item i _ _ _ l2 s22 fun y h₄ tk₄ py s24 e4=>O9 (O9 (O9 ?_)))
 replace e4:Pq i2 h₂ h₄:=e4
 show wpAny _ _ (newTuple [x,y] >>= _) _ _ _
 refine O8 (wpAny_newTuple (O9 ⟨_,rfl,?_⟩))
 have sz:h₄.objs.size=s.heap.objs.size:=by rw [e4.1,e2.1,e1.1]
 show Q (.ref h₄.objs.size) { s with heap:=h₄.push { cls:=.type "tuple",data:=.seq #[x,y] },toks:=tk₄ }
 have up:∀ c o,h₄.get? c=some o->(h₄.push { cls:=.type "tuple",data:=.seq #[x,y] }).get? c=some o:=fun c o e=>Pd _ e
 have k4:∀ c o,c≠z->c≠i1->c≠i2->s.heap.get? c=some o->h₄.get? c=some o:=fun c o c1 c3 c4 e=>e4.extBut _ _ c4 (e2.extBut _ _ c3 (e1.extBut _ _ c1 e))
 have t8:IsPair (h₄.push { cls:=.type "tuple",data:=.seq #[x,y] }) h₄.objs.size x y:=Pp _ rfl
 rw [sz] at t8
 rw [sz]
 obtain ⟨a1,oa1,f1,g1,g2,g3,g4,g5⟩:=hz₁
 refine hQ x y _ tk₄ px py ⟨a1,oa1,f1,up _ _ (e4.extBut _ _ D.i2z.symm (e2.extBut _ _ D.i1z.symm g1)),up _ _ (e4.extBut _ _ g5 (e2.extBut _ _ g4 g2)),g3,g4,g5⟩ ?_ ?_ t8 (by rw [Qc,sz]) fun c o c1 c3 c4 e=>up c o (k4 c o c1 c3 c4 e)
 ·exact D1.frame _ _ _ (Co D1 s12 e4 D.n2) fun c _ o e=>up c o e
 ·exact D2.frame _ _ _ s24 fun c _ o e=>up c o e
theorem Zow {Q:Fin->Shared->Prop} (D1:Draws prog w A i1 fp1 n1 P1 St1) (D2:Draws prog w A i2 fp2 n2 P2 St2) (D:ZA z TI TO i1 i2 fp1 fp2) (hz:Iz s.heap z TI TO i1 i2) (hTI:IsPair s.heap TI (.ref i1) (.ref i2))
  (st1:St1 i s.heap) (st2:St2 i s.heap) (hend:i=n1\/(i < n1/\i=n2))
  (hE:∀ h' e tk,(∀ c o,c≠z->c≠i1->c≠i2->s.heap.get? c=some o->h'.get? c=some o)->(∃ o,h'.get? e=some o/\o.cls=.type "StopIteration")->E (.ref e) { s with heap:=h',toks:=tk }) :
  wpAny (model prog w) A (Builtin.«zip.__next__» ⟨[.ref z],[]⟩) Q E s:=by
 obtain ⟨a0,oa0,f10,e0,_⟩:=id hz
 show wpAny _ _ (field (.ref z) 2 >>= _) _ _ s
 refine O8 (Pn e0 rfl (x:=Value.bool false) rfl ?_)
 show wpAny _ _ (field (.ref z) 3 >>= _) _ _ s
 refine O8 (Pn e0 rfl (x:=Value.ref TI) rfl (O8 (Qw hTI rfl ?_)))
 show wpAny _ _ (Qy (.ref z) >>= _) _ _ s
 refine O8 (Ze5 hz fun h₁ hz₁ e1=>?_)
 simp only [Rz,if_false]
 refine O8 ?_
 simp only [List.forIn_toArray,Tg,Uw]
 refine O8 (O8 (Qr ?_))
 show wpAny _ _ (Qm (.ref i1) >>= _) _ _ _
 rcases hend with rfl | ⟨l1,rfl⟩
 ·refine O8 (D1.done _ _ _ (Co D1 st1 e1 D.z1) fun h₂ e e2 he=>?_)
  replace e2:So i1 h₁ h₂:=e2
  exact hE h₂ e s.toks (fun c o c1 c3 _ x=>e2 _ _ c3 (e1.extBut _ _ c1 x)) he
 ·refine O8 (D1.item i _ _ _ l1 (Co D1 st1 e1 D.z1) fun x h₂ tk₂ px s12 e2=>O9 (O9 ?_))
  replace e2:Pq i1 h₁ h₂:=e2
  refine O8 (O8 (Qr ?_))
  show wpAny _ _ (Qm (.ref i2) >>= _) _ _ _
  have s22:St2 i h₂:=Co D2 (Co D2 st2 e1 D.z2) e2 D.n1
  refine O8 (D2.done _ _ _ s22 fun h₄ e e4 he=>?_)
  replace e4:So i2 h₂ h₄:=e4
  exact hE h₄ e tk₂ (fun c o c1 c3 c4 x=>e4 _ _ c4 (e2.extBut _ _ c3 (e1.extBut _ _ c1 x))) he
noncomputable def ZpSt (h:Heap) (z TI TO i1 i2:Addr) (i:Nat):Prop:=(i=0/\IsZip h z TI TO .none/\∃ u v,IsPair h TO u v)\/(0 < i/\Iz h z TI TO i1 i2)
theorem ZpSt.obj {h:Heap} {z TI TO i1 i2:Addr} {i:Nat} (x:ZpSt h z TI TO i1 i2 i):∃ vs,h.get? z=some { cls:=.type "zip",dict:=none,data:=.fields vs,slots:=#[] }:=by
 rcases x with ⟨_,x,_⟩ | ⟨_,_,_,_,x,_⟩
 ·exact ⟨_,x⟩
 ·exact ⟨_,x⟩
theorem Zov {Q:Option Value->Shared->Prop} (D1:Draws prog w A.in1 i1 fp1 n1 P1 St1) (D2:Draws prog w A.in1 i2 fp2 n2 P2 St2) (D:ZA z TI TO i1 i2 fp1 fp2) (hz:ZpSt s.heap z TI TO i1 i2 i) (hTI:IsPair s.heap TI (.ref i1) (.ref i2)) (eTO:∃ o,s.heap.get? TO=some o)
  (st1:St1 i s.heap) (st2:St2 i s.heap) (l1:i < n1) (l2:i < n2)
  (hQ:∀ x y h' tk,P1 i x->P2 i y->ZpSt h' z TI TO i1 i2 (i + 1)->(∃ o,h'.get? TO=some o)->St1 (i + 1) h'->St2 (i + 1) h'->IsPair h' s.heap.objs.size x y->h'.objs.size=s.heap.objs.size + 1 ->
   (∀ c o,c≠z->c≠TO->c≠i1->c≠i2->s.heap.get? c=some o->h'.get? c=some o)->Q (some (.ref s.heap.objs.size)) { s with heap:=h',toks:=tk }) :
  wpAny (model prog w) A (pyNext (.ref z)) Q E s:=by
 obtain ⟨vs,ho⟩:=hz.obj
 have hT:s.TypeIs (.ref z) "zip" := ⟨_,ho,rfl⟩
 have zl:z < s.heap.objs.size:=Pe ho
 have l1':i1 < s.heap.objs.size:=by obtain ⟨_,y⟩:=D1.live _ _ st1; exact Pe y
 have l2':i2 < s.heap.objs.size:=by obtain ⟨_,y⟩:=D2.live _ _ st2; exact Pe y
 rcases hz with ⟨rfl,hz,u,v,hTO⟩ | ⟨hi,hz⟩
 ·exact Zmr D1 D2 D hz hTI hTO st1 st2 l1 l2 fun x y h' tk a1 a2 a3 a4 a5 a6 a7 a8 a9=>hQ x y h' tk a1 a2 (.inr ⟨U6 _,_,_,_,a3,a7,Qk zl,Qk l1',Qk l2'⟩) ⟨_,a4⟩ a5 a6 a7 a8 a9
 ·unfold pyNext
  exact O8 (Rq (Qz (name:=Ql "__next__") hT Rj
   (Q4 Rj hT Ue (Zj0 D1 D2 D hz hTI st1 st2 l1 l2 fun x y h' tk a1 a2 a3 a4 a5 a6 a7 a8=>O9 (hQ x y h' tk a1 a2 (.inr ⟨U6 _,a3⟩) (let ⟨o,e⟩:=eTO; ⟨o,a8 _ o D.TOz D.TOi1 D.TOi2 e⟩) a4 a5 a6 a7 fun c o c1 _ c3 c4 e=>a8 c o c1 c3 c4 e)) (Ua _))))
theorem Zix {Q:Option Value->Shared->Prop} (D1:Draws prog w A.in1 i1 fp1 n1 P1 St1) (D2:Draws prog w A.in1 i2 fp2 n2 P2 St2) (D:ZA z TI TO i1 i2 fp1 fp2) (hz:ZpSt s.heap z TI TO i1 i2 i) (hTI:IsPair s.heap TI (.ref i1) (.ref i2))
  (st1:St1 i s.heap) (st2:St2 i s.heap) (hend:i=n1\/(i < n1/\i=n2))
  (hQ:∀ h' tk,(∀ c o,c≠z->c≠TO->c≠i1->c≠i2->s.heap.get? c=some o->h'.get? c=some o)->Q none { s with heap:=h',toks:=tk }):wpAny (model prog w) A (pyNext (.ref z)) Q E s:=by
 obtain ⟨vs,ho⟩:=hz.obj
 have hT:s.TypeIs (.ref z) "zip" := ⟨_,ho,rfl⟩
 rcases hz with ⟨rfl,hz,u,v,hTO⟩ | ⟨hi,hz⟩
 ·exact Zi6 D1 D2 D hz hTI hTO st1 st2 hend hQ
 ·unfold pyNext
  refine O8 (Rq (Qz (name:=Ql "__next__") hT Rj
   (Q4 Rj hT Ue (Zow D1 D2 D hz hTI st1 st2 hend fun h' e tk hk he=>?_) (Ua _))))
  obtain ⟨o,ho,hc⟩:=he
  exact O8 (Vx (T := "StopIteration") (b:=true) ⟨o,ho,hc⟩ isSubtype_stop (O9 (hQ _ _ fun c o c1 _ c3 c4 e=>hk c o c1 c3 c4 e)))
end
noncomputable abbrev lit (l:Addr):Obj:={ cls:=.type "list_iterator",data:=.fields #[.ref l,.int 0 0] }
noncomputable abbrev itZ (b:Bool) (l:Addr):Obj:={ cls:=.type (cond b "tuple_iterator" "list_iterator"),data:=.fields #[.ref l,.int 0 0] }
noncomputable def ZIt (b:Bool) (h:Heap) (a l:Addr) (i:Nat):Prop:=∃ o,h.get? a=some o/\o.cls=.type (cond b "tuple_iterator" "list_iterator")/\o.data=.fields #[.ref l,.int i 0]
theorem ZIt.at {b:Bool} {h h':Heap} {a l:Addr} {i:Nat} (x:ZIt b h a l i) (k:∀ o,h.get? a=some o->h'.get? a=some o):ZIt b h' a l i:=let ⟨o,e,r⟩:=x; ⟨o,k o e,r⟩
noncomputable def ZIn (b:Bool) (h:Heap) (a:Addr) (xs:Array Value):Prop:=cond b (h.IsTuple a xs) (h.IsList a xs)
noncomputable def SqZ (b:Bool) (K:O7) (H:Hp) (a:Addr) (xs:List V):Prop:=cond b (SqT K H a xs) (SqL K H a xs)
theorem ZIn.lt {b:Bool} {h:Heap} {a:Addr} {xs:Array Value} (x:ZIn b h a xs):a < h.objs.size:=by
 cases b <;> exact let ⟨_,e,_⟩:=id x; Pe e
theorem Same.sqZ {b:Bool} {K:O7} {H H':Hp} {a:Addr} {xs:List V} (m:Same H H') (x:SqZ b K H a xs):SqZ b K H' a xs:=by
 cases b
 ·exact m.seq x
 ·exact m.tup x
theorem Inv.zin {X:Cx} {pins:List (Addr×Obj)} {σ:St} {H:Hp} {s:Shared} {b:Bool} {a:Addr} {xs:List V} (I:Inv X pins σ H s) (x:SqZ b X.K H a xs):∃ its,Vals xs its/\ZIn b s.heap a its.toArray:=by
 cases b
 ·obtain ⟨its,rv,pl,hz⟩:=I.list x
  exact ⟨its,rv,pl.isList⟩
 ·obtain ⟨its,rv,pl,hz⟩:=I.tuple x
  exact ⟨its,rv,pl⟩
theorem Zfh {prog:Program} {w:World} {A:Around} (b:Bool) (hh:A.handled=none) (it l:Addr) (hne:l≠it) (items:Array Value) :
  Draws prog w A it [it,l] items.size (fun i v=>items[i]?=some v) (fun i h=>ZIt b h it l i/\ZIn b h l items):=by
 cases b
 ·exact Draws.list hh it l hne items
 ·exact Np hh it l hne items
theorem Znc {prog:Program} {w:World} {A:Around} {E:Value->Shared->Prop} {s:Shared} {b:Bool} {a:Addr} {xs:Array Value} {Q:Value->Shared->Prop} (q:ZIn b s.heap a xs)
  (h:Q (.ref s.heap.objs.size) { s with heap:=s.heap.push (itZ b a) }):wpAny (model prog w) A (pyIter (.ref a)) Q E s:=by
 cases b
 ·exact Tb q h
 ·exact Ta q h
noncomputable abbrev zl1 (b:Bool) (h:Heap) (l1:Addr):Heap:=h.push (itZ b l1)
noncomputable abbrev zl2 (b:Bool) (h:Heap) (l1 l2:Addr):Heap:=(zl1 b h l1).push (lit l2)
noncomputable abbrev zl3 (b:Bool) (h:Heap) (l1 l2:Addr):Heap:=(zl2 b h l1 l2).push { cls:=.type "tuple",data:=.seq #[.ref h.objs.size,.ref (zl1 b h l1).objs.size] }
noncomputable abbrev zl4 (b:Bool) (h:Heap) (l1 l2:Addr):Heap:=(zl3 b h l1 l2).push { cls:=.type "tuple",data:=.seq #[.none,.none] }
noncomputable abbrev Gn (b:Bool) (h:Heap) (l1 l2:Addr):Heap:=(zl4 b h l1 l2).push { cls:=.type "zip",data:=.fields #[.none,.bool false,.bool false,.ref (zl2 b h l1 l2).objs.size,.ref (zl3 b h l1 l2).objs.size] }
theorem Znd (b:Bool) (l1 l2:Addr) (xs ys:Array Value) :
  Meets (Builtin.«zip.__new__» ⟨[.type "zip",.ref l1,.ref l2],[]⟩) (fun _ R s=>ZIn b s.heap l1 xs/\s.heap.IsList l2 ys/\R (.ok (.ret (.ref (zl4 b s.heap l1 l2).objs.size))) { s with heap:=Gn b s.heap l1 l2 }) :=
 .of_wp fun prog w A R s h=>by
  obtain ⟨hp,g,d,tk,os⟩:=s; obtain ⟨hl1,hl2,h⟩:=h
  have hsub:=sub_zip
  have q1:ZIn b (Shared.heap ⟨hp,g,d,tk,os⟩) l1 xs:=hl1
  have q2:Heap.IsList (Shared.heap ⟨hp.push (itZ b l1),g,d,tk,os⟩) l2 ys:=Heap.IsList.push hl2 _
  wp_walk using Znc q1,Tb q2
  exact ⟨_,rfl,h⟩
theorem Zmq {b:Bool} {prog:Program} {w:World} {A:Around} {E:Value->Shared->Prop} {s:Shared} {l1 l2:Addr} {xs ys:Array Value} {Q:Value->Shared->Prop} (hl1:ZIn b s.heap l1 xs) (hl2:s.heap.IsList l2 ys)
  (h:∀ h',IsZip h' (s.heap.objs.size + 4) (s.heap.objs.size + 2) (s.heap.objs.size + 3) .none->IsPair h' (s.heap.objs.size + 2) (.ref s.heap.objs.size) (.ref (s.heap.objs.size + 1)) ->
   IsPair h' (s.heap.objs.size + 3) .none .none->ZIt b h' s.heap.objs.size l1 0->h'.IsListIter (s.heap.objs.size + 1) l2 0->h'.objs.size=s.heap.objs.size + 5 ->
   (∀ c o,s.heap.get? c=some o->h'.get? c=some o)->Q (.ref (s.heap.objs.size + 4)) { s with heap:=h' }) :
  wpAny (model prog w) A (call (.type "zip") [.ref l1,.ref l2]) Q E s:=by
 refine callType_new PySem.F.called_zip (by decide) (PySem.F.typeCall_zip_2 _ _) (PySem.F.newCall_zip_2 _ _) (fun obj=>PySem.F.args_object_init_3 obj _ _) PySem.F.entry_zip_new (Znd b l1 l2 xs ys) ⟨hl1,hl2,?_⟩
 have y1:(zl1 b s.heap l1).objs.size=s.heap.objs.size + 1:=Qc ..
 have y2:(zl2 b s.heap l1 l2).objs.size=s.heap.objs.size + 2:=by rw [Qc,y1]
 have y3:(zl3 b s.heap l1 l2).objs.size=s.heap.objs.size + 3:=by rw [Qc,y2]
 have y4:(zl4 b s.heap l1 l2).objs.size=s.heap.objs.size + 4:=by rw [Qc,y3]
 have y5:(Gn b s.heap l1 l2).objs.size=s.heap.objs.size + 5:=by rw [Qc,y4]
 have u5:(Gn b s.heap l1 l2).get? (zl4 b s.heap l1 l2).objs.size=some _:=Pp _ rfl
 have u4:(Gn b s.heap l1 l2).get? (zl3 b s.heap l1 l2).objs.size=some _:=Pd _ (Pp _ rfl)
 have u3:(Gn b s.heap l1 l2).get? (zl2 b s.heap l1 l2).objs.size=some _:=Pd _ (Pd _ (Pp _ rfl))
 have u2:(Gn b s.heap l1 l2).get? (zl1 b s.heap l1).objs.size=some _:=Pd _ (Pd _ (Pd _ (Pp _ rfl)))
 have u1:(Gn b s.heap l1 l2).get? s.heap.objs.size=some _:=Pd _ (Pd _ (Pd _ (Pd _ (Pp _ rfl))))
 show _/\_
 rw [y2,y3,y4] at u5
 rw [y1,y2] at u3
 rw [y3] at u4
 rw [y1] at u2
 rw [y4]
 exact ⟨⟨_,u5,rfl⟩,h _ u5 u3 u4 ⟨_,u1,rfl,rfl⟩ ⟨_,u2,rfl,rfl⟩ y5 fun c o x=>Pd _ (Pd _ (Pd _ (Pd _ (Pd _ x))))⟩
noncomputable def Mm (H:Hp) (xs ys zs:List V):Prop:=∀ (j:Nat) (z:V),zs[j]?=some z->∃ (t:Addr) (x y:V),z=V.ref t/\xs[j]?=some x/\ys[j]?=some y/\H t=some (.tup [x,y])
noncomputable def JZp (f:Bool) (K:O7) (H0:Hp) (z TI TO i1 i2 a b:Addr) (xs ys:List V):Nat->List V->Hp->Heap->Prop:=fun i zs H h =>
 ZpSt h z TI TO i1 i2 i/\(IsPair h TI (.ref i1) (.ref i2)/\∃ o,h.get? TO=some o)/\ZIt f h i1 a i/\h.IsListIter i2 b i/\(∀ c∈[z,TI,TO,i1,i2],H c=none)/\zs.length=i/\Mm H xs ys zs/\Same H0 H
theorem Zox:typeLookup (.type "zip") "__len__" = pure none:=by rw [Th,Sw]; kernel_rfl
theorem Zsa:typeLookup (.type "zip") "__length_hint__" = pure none:=by rw [Th,Sw]; kernel_rfl
theorem Zmm {f:Bool} {X:Cx} {pins:List (Addr×Obj)} {σ:St} {H0:Hp} {z TI TO i1 i2 a b:Addr} {xs ys:List V} (fp:∀ c∈[z,TI,TO,i1,i2],FpOk X pins H0 c) (D:ZB z TI TO i1 i2 a b) (ha:SqZ f X.K H0 a xs) (hb:SqL X.K H0 b ys) :
  Src X pins σ z "zip" (min xs.length ys.length) H0 (JZp f X.K H0 z TI TO i1 i2 a b xs ys) where
 ty:=fun i zs H h j=>by
  obtain ⟨vs,e⟩:=j.1.obj
  exact ⟨_,e,rfl⟩
 nl:=by decide
 nolen:=Zox
 nohint:=Zsa
 self:=fun A s zs H Q E j q=>by
  rcases j.1 with ⟨_,e,_⟩ | ⟨z,_⟩
  ·exact wpAny_pyIter_zip e q
  ·exact absurd z (Qp _)
 keep:=fun i zs H h h' S us us' h0 hS j k al=>by
  obtain ⟨j1,⟨j2,jT⟩,j3,j4,j5,j6,j7,j8⟩:=j
  have ne:∀ c∈[z,TI,TO,i1,i2],c≠S:=fun c hc e=>by
   have:=j5 c hc
   rw [e,hS] at this
   cases this
  refine ⟨?_,⟨k _ _ (ne TI (by simp)) j2,let ⟨o,e⟩:=jT; ⟨o,k _ _ (ne TO (by simp)) e⟩⟩,j3.at fun o e=>k _ _ (ne i1 (by simp)) e,j4.at fun o e=>k _ _ (ne i2 (by simp)) e,fun c hc=>by rw [Af (ne c hc)]; exact j5 c hc,j6,fun m y hy=>?_,j8.over h0⟩
  ·rcases j1 with ⟨z0,e,u,v,e2⟩ | ⟨z0,a0,oa,f1,e,ea,x1,x2,x3⟩
   ·exact .inl ⟨z0,k _ _ (ne z (by simp)) e,u,v,k _ _ (ne TO (by simp)) e2⟩
   ·by_cases hs:a0=S
    ·subst hs
     obtain ⟨o,eo⟩:=al
     exact .inr ⟨z0,a0,o,f1,k _ _ (ne z (by simp)) e,eo,x1,x2,x3⟩
    ·exact .inr ⟨z0,a0,oa,f1,k _ _ (ne z (by simp)) e,k _ _ hs ea,x1,x2,x3⟩
  ·obtain ⟨t,x,y',e1,e2,e3,e4⟩:=j7 m y hy
   exact ⟨t,x,y',e1,e2,e3,by rw [Af (Dj e4 hS (by intro z; cases z))]; exact e4⟩
 fresh:=fun i zs H h j=>j.2.2.2.2.1 z (by simp)
 item:=fun A i s H zs E hh hi I j=>by
  obtain ⟨j1,⟨j2,jT⟩,j3,j4,j5,j6,j7,j8⟩:=j
  obtain ⟨its,rv,p⟩:=I.zin (j8.sqZ ha)
  obtain ⟨its2,rv2,p2,hz2⟩:=I.list (j8.seq hb)
  have g1:=rv.length
  have g2:=rv2.length
  have l1:i < xs.length:=by omega
  have l2:i < ys.length:=by omega
  have D1:=Zfh (prog:=X.prog) (w:=X.w) (A:=A.in1) f hh i1 a D.a1 its.toArray
  have D2:=Draws.list (prog:=X.prog) (w:=X.w) (A:=A.in1) hh i2 b D.b2 its2.toArray
  refine Zov D1 D2 D.za j1 j2 jT ⟨j3,p⟩ ⟨j4,p2.isList⟩ (by rw [Pf]; omega) (by rw [Pf]; omega) fun x y h' tk px py a1 aT a2 a3 a4 a5 a6=>?_
  have hx':its[i]?=some x:=by simpa using px
  have hy':its2[i]?=some y:=by simpa using py
  obtain ⟨u1,hu1,ru1⟩:=rv.get (Pb l1)
  obtain ⟨u2,hu2,ru2⟩:=rv2.get (Pb l2)
  rw [hx'] at hu1
  cases hu1
  rw [hy'] at hu2
  cases hu2
  have hf:H s.heap.objs.size=none:=I.hok.fresh (Pa _)
  have fpH:∀ c∈[z,TI,TO,i1,i2],FpOk X pins H c:=fun c hc=>(fp c hc).of (j5 c hc)
  have kk:∀ c o,c ∉ [z,TI,TO,i1,i2]->s.heap.get? c=some o->h'.get? c=some o:=fun c o hc e=>by
   simp only [Pm,P9,or_false,not_or] at hc
   exact a6 c o hc.1 hc.2.2.1 hc.2.2.2.1 hc.2.2.2.2 e
  have I2:=I.pairL (tk:=tk) (T:=s.heap.objs.size) (xs:=[xs[i],ys[i]]) (its:=[x,y]) fpH kk (Pa _) (.cons ru1 (.cons ru2 .nil)) (by show 2<=sizeLine; decide) ⟨_,a4,rfl,_,rfl⟩
  have sm:Same H (upd H s.heap.objs.size (.tup [xs[i],ys[i]])):=Same.upd hf
  have lt:∀ {c o},s.heap.get? c=some o->c≠s.heap.objs.size:=fun e=>Pl (Pe e)
  have nw:∀ c∈[z,TI,TO,i1,i2],c≠s.heap.objs.size:=fun c hc=>by
   simp only [Pm,P9,or_false] at hc
   rcases hc with rfl | rfl | rfl | rfl | rfl
   ·obtain ⟨_,e⟩:=j1.obj; exact lt e
   ·exact lt j2
   ·obtain ⟨_,e⟩:=jT; exact lt e
   ·obtain ⟨_,e,_⟩:=j3; exact lt e
   ·obtain ⟨_,e,_⟩:=j4; exact lt e
  refine ⟨_,.ref s.heap.objs.size,_,rfl,rfl,I2,⟨a1,⟨a6 _ _ D.TIz D.TITO D.TI1 D.TI2 j2,aT⟩,a2.1,a3.1,fun c hc=>by rw [Af (nw c hc)]; exact j5 c hc,by simp [j6],fun m y hy=>?_,j8.trans sm⟩,fun S us e=>sm S _ e⟩
  by_cases hm:m < i
  ·rw [P0 (by omega)] at hy
   obtain ⟨t,x,y',e1,e2,e3,e4⟩:=j7 m y hy
   exact ⟨t,x,y',e1,e2,e3,sm _ _ e4⟩
  ·have hlen:=(Pj.mp hy).1
   rw [Pc,Ph] at hlen
   have:m=i:=by omega
   subst this
   rw [Rb (by omega),j6,Rs] at hy
   have hy:V.ref s.heap.objs.size=y:=by simpa using hy
   exact ⟨_,xs[m],ys[m],hy.symm,Pb l1,Pb l2,Ae⟩
 done:=fun A s H zs E hh I j=>by
  obtain ⟨j1,⟨j2,jT⟩,j3,j4,j5,j6,j7,j8⟩:=j
  obtain ⟨its,rv,p⟩:=I.zin (j8.sqZ ha)
  obtain ⟨its2,rv2,p2,hz2⟩:=I.list (j8.seq hb)
  have g1:=rv.length
  have g2:=rv2.length
  have D1:=Zfh (prog:=X.prog) (w:=X.w) (A:=A.in1) f hh i1 a D.a1 its.toArray
  have D2:=Draws.list (prog:=X.prog) (w:=X.w) (A:=A.in1) hh i2 b D.b2 its2.toArray
  have fpH:∀ c∈[z,TI,TO,i1,i2],FpOk X pins H c:=fun c hc=>(fp c hc).of (j5 c hc)
  refine Zix D1 D2 D.za j1 j2 ⟨j3,p⟩ ⟨j4,p2.isList⟩ (by simp only [Pf]; omega) fun h' tk kk=>⟨rfl,I.turnedL (fun c o hc e=>?_) fpH⟩
  simp only [Pm,P9,or_false,not_or] at hc
  exact kk c o hc.1 hc.2.2.1 hc.2.2.2.1 hc.2.2.2.2 e
section
variable {X:Cx}
noncomputable def Op (f:Bool) (K:O7) (ta:TA):TE:=fun σ H Q=>ta σ H fun vs H1=>∃ a b xs ys,vs=[.ref a,.ref b]/\SqZ f K H1 a xs/\SqL K H1 b ys /\
 ∀ (S:Addr) (zs:List V) (H2:Hp),H1 S=none->Same H1 H2->zs.length=min xs.length ys.length->Mm H2 xs ys zs->H2 S=some (.lst zs)->Q (.ref S) H2
theorem Zfg (f:Bool) (K:O7) {e e2:Expr} {ta:TA} {p p2 pos pos2:Pos} (hg:Gl X "list") (hm:X.mg "list" = none) (hg2:Gl X "zip") (hm2:X.mg "zip" = none) (ha:QA X [e,e2] ta) (hK:X.K=K:=by rfl) (hc:X.calm=true:=by rfl)
  (hs:starEach [.Call (.Name "zip" p2) [e,e2] [] pos2] X.env=[(false,eval (.Call (.Name "zip" p2) [e,e2] [] pos2) X.env)]:=by rfl) (hs2:starEach [e,e2] X.env=[(false,eval e X.env),(false,eval e2 X.env)]:=by rfl) (hs3:starEach [e2] X.env=[(false,eval e2 X.env)]:=by rfl) :
  QE X (.Call (.Name "list" p) [.Call (.Name "zip" p2) [e,e2] [] pos2] [] pos) (Op f K ta):=by
 subst hK
 refine ⟨fun pins s σ H Q I h=>?_⟩
 refine Call_ (Ej I hg hm Zcg (Ra ?_ hs rfl))
 rw [hs]
 show wpAny _ _ (spliced ((false,eval (.Call (.Name "zip" p2) [e,e2] [] pos2) X.env) :: [])) _ _ s
 refine Vn ?_
 refine Call_ (Ej I hg2 hm2 PyProof.Rows.boot_zip (Ra (Am (ha.run pos2 pins s σ H _ I h) fun us s1 ⟨vs,H1,I1,r1,q1⟩=>?_) (by rw [hs2,hs3]) (by rw [hs3]; rfl)))
 obtain ⟨a,b,xs,ys,e1,hq,hq2,q⟩:=q1
 subst e1
 obtain ⟨u,v,rfl,ru,rv⟩:=r1.two
 cases ru
 cases rv
 obtain ⟨its,rv,pl⟩:=I1.zin hq
 obtain ⟨its2,rv2,pl2,hz2⟩:=I1.list hq2
 have lt1:a < s1.heap.objs.size:=pl.lt
 have lt2:b < s1.heap.objs.size:=by obtain ⟨o,e,_⟩:=pl2.isList; exact Pe e
 refine Zmq pl pl2.isList fun h' a1 a2 a3 a4 a5 a6 hk=>?_
 refine Vt ?_
 have fr:∀ k,FpOk X pins H1 (s1.heap.objs.size + k):=fun k=>I1.fpOk (Up _ _) (I1.hok.fresh (Up _ _))
 have fp:∀ c∈[s1.heap.objs.size + 4,s1.heap.objs.size + 2,s1.heap.objs.size + 3,s1.heap.objs.size,s1.heap.objs.size + 1],FpOk X pins H1 c:=fun c hc=>by
  simp only [Pm,P9,or_false] at hc
  rcases hc with rfl | rfl | rfl | rfl | rfl
  ·exact fr 4
  ·exact fr 2
  ·exact fr 3
  ·exact fr 0
  ·exact fr 1
 have C:=Zmm (X:=X) (pins:=pins) (σ:=σ) (H0:=H1) fp (Zh6 lt1 lt2) hq hq2
 have I2:Inv X pins σ H1 { s1 with heap:=h' }:=I1.kept (t':=s1.toks) hk
 refine Zhk C (by omega) (I1.ok.hd hc) I2 ⟨.inl ⟨rfl,a1,_,_,a3⟩,⟨a2,_,a3⟩,a4,a5,fun c hc=>(fp c hc).1,rfl,fun j y hy=>by simp at hy,Same.refl _⟩ (fun S hge hS h2 k2=>?_) fun S H' zs hS hS' hl' hj=>?_
 ·have sm:Same H1 (upd H1 S (.lst [])):=Same.upd hS
  refine ⟨.inl ⟨rfl,k2 _ _ a1,_,_,k2 _ _ a3⟩,⟨k2 _ _ a2,_,k2 _ _ a3⟩,a4.at fun o e=>k2 _ _ e,a5.at fun o e=>k2 _ _ e,fun c hc=>?_,rfl,fun j y hy=>by simp at hy,sm⟩
  have hge:h'.objs.size<=S:=hge
  rw [Af (show c≠S from fun z=>?_)]
  ·exact (fp c hc).1
  ·simp only [Pm,P9,or_false] at hc
   rcases hc with rfl | rfl | rfl | rfl | rfl <;> exact absurd z (Pl (Pr (by omega) hge))
 ·obtain ⟨h,j⟩:=hj
  exact q S zs H' hS j.2.2.2.2.2.2.2 hl' j.2.2.2.2.2.2.1 hS'
noncomputable abbrev Zdl:=Op true
theorem Zku (K:O7) {e e2:Expr} {ta:TA} {p p2 pos pos2:Pos} (hg:Gl X "list") (hm:X.mg "list" = none) (hg2:Gl X "zip") (hm2:X.mg "zip" = none) (ha:QA X [e,e2] ta) (hK:X.K=K:=by rfl) (hc:X.calm=true:=by rfl)
  (hs:starEach [.Call (.Name "zip" p2) [e,e2] [] pos2] X.env=[(false,eval (.Call (.Name "zip" p2) [e,e2] [] pos2) X.env)]:=by rfl) (hs2:starEach [e,e2] X.env=[(false,eval e X.env),(false,eval e2 X.env)]:=by rfl) (hs3:starEach [e2] X.env=[(false,eval e2 X.env)]:=by rfl) :
  QE X (.Call (.Name "list" p) [.Call (.Name "zip" p2) [e,e2] [] pos2] [] pos) (Zdl K ta):=Zfg true K hg hm hg2 hm2 ha hK hc hs hs2 hs3
theorem s_listzp {K:O7} {ta:TA} {σ:St} {H:Hp} {Q:VK} (h:ta σ H fun vs H1=>∃ a b xs ys,vs=[.ref a,.ref b]/\SqT K H1 a xs/\SqL K H1 b ys /\
 ∀ (S:Addr) (zs:List V) (H2:Hp),H1 S=none->Same H1 H2->zs.length=min xs.length ys.length->Mm H2 xs ys zs->H2 S=some (.lst zs)->Q (.ref S) H2):Zdl K ta σ H Q:=h
end
end L2
namespace L2
open PySem PySem.Spec PyProof.Rows
theorem Zpi:∀ (xs ys:List Int),((Pw (min xs.length ys.length)).all (fun j=>xs.getD j 0 == ys.getD j 0) && xs.length == ys.length)=decide (xs=ys):=by
 intro xs ys
 rw [Tf,Q5,Sf,beq_iff_eq,decide_eq_true_iff]
 constructor
 ·rintro ⟨h1,h2⟩
  apply List.ext_getElem h2
  intro i g1 g2
  have:=h1 i (List.mem_range.mpr (by omega))
  rw [beq_iff_eq,Tz,Tz,Pb g1,Pb g2] at this
  exact this
 ·rintro rfl
  exact ⟨fun j _=>by simp,rfl⟩
section
variable {X:Cx}
end
end L2
namespace L2
open PySem PySem.Spec PyProof.Rows
section
variable {X:Cx}
end
section
variable {X:Cx}
end
end L2
namespace L2
open PySem PySem.Spec PyProof.Rows
noncomputable def Bl (P:Program) (w:World):B7:=fun outer H s E ev s'=>∃ (e T:Addr) (cls:Value) (od:Option Addr) (H':Hp),ev=.ref e/\s'.os=s.os/\AllBare s'.gens/\Un (Bg outer) [] H H' s.heap s'.heap/\HOk P w H' s'.heap /\
 s.heap.get? e=none/\s.heap.get? T=none/\H' e=none/\H' T=none/\F4 s'.heap e T cls od/\E cls od H'
section
variable {X:Cx} {pins:List (Addr×Obj)} {σ:St} {H:Hp} {s:Shared}
theorem Inv.old (I:Inv X pins σ H s) (hex:X.ex=[]) {b:Addr} (h:s.heap.get? b=none):X.s₀.heap.get? b=none:=by
 cases q:X.s₀.heap.get? b with
 | none=>rfl
 | some o =>
  obtain ⟨o',e⟩:=I.base.there b o q (by rw [hex]; simp)
  rw [h] at e
  cases e
theorem Inv.mvd (I:Inv X pins σ H s) {h':Heap} {xs:List Addr} (m:Mvd (Bg X.stack) xs s.heap h') (hx:∀ b∈xs,X.s₀.heap.get? b=none/\H b=none) (hex:X.ex=[]):Un X.fs [] X.H₀ H X.s₀.heap h'/\HOk X.prog X.w H h':=by
 have low:∀ b o,X.s₀.heap.get? b=some o->b ∉ xs:=fun b o e hb=>by rw [(hx b hb).1] at e; cases e
 have neL:∀ b o,X.s₀.heap.get? b=some o->b≠X.env.locals:=fun b o e=>Pl (Pr (Pe e) I.ok.above)
 have nst:∀ b o,X.s₀.heap.get? b=some o->b ∉ X.fs->b ∉ Bg X.stack:=fun b o e hf hs=>by
  rcases I.ok.stk with z | ⟨z,z2⟩
  ·rw [z] at hs; exact hf hs
  ·rw [z] at hs
   unfold Bg at hs
   rw [Ug,z2] at hs
   rcases Pm.mp hs with q | q
   ·exact neL b o e q
   ·exact hf q
 have B:=I.base
 rw [hex] at B
 refine ⟨⟨fun b o e n hf _=>?_,fun b o e n hf _=>?_,fun b o e n _=>B.free b o e n (by simp),fun b o e _=>?_,B.tups,B.frzs,B.tbls⟩,fun b u e=>?_⟩
 ·exact m.keep b o (low b o e) (nst b o e hf) (B.keep b o e n hf (by simp))
 ·obtain ⟨sl,e1⟩:=B.slot b o e n hf (by simp)
  obtain ⟨sl',e2⟩:=m.slot b _ (low b o e) e1
  exact ⟨sl',e2⟩
 ·obtain ⟨o',e1⟩:=B.there b o e (by simp)
  obtain ⟨sl,e2⟩:=m.slot b o' (low b o e) e1
  exact ⟨_,e2⟩
 ·have tr:∀ c v,H c=some v->c ∉ xs/\c ∉ Bg X.stack:=fun c v q=>⟨(fun z=>by rw [(hx c z).2] at q; cases q),(fun z=>by rw [I.stkFree c z] at q; cases q)⟩
  refine (I.hok b u e).stay (fun c v hc q=>m.keep c v ?_ ?_ q) (fun _ q=>q) fun _ _ q=>q
  ·rcases hc with z | z
   ·rw [z]; exact (tr b u e).1
   ·exact (tr c _ z).1
  ·rcases hc with z | z
   ·rw [z]; exact (tr b u e).2
   ·exact (tr c _ z).2
end
section
variable {P:Program} {w:World} {K:O7} {mg:Str->Option Value} {base:Heap} {N:List Str} {qual:Str} {scope:Scope} {f:Addr} {cd:Value} {A:Around} {outer:List Env} {s0:Shared} {H0:Hp} {E:XK}
theorem J2 {E':XK} (h:∀ cls od H',E' cls od H'->E cls od H'):E9 (Bl P w) (Dx (Bl P w) P w K mg base N qual scope f cd A outer s0 H0 E) E':=by
 intro pins σ H s ev s' I c
 obtain ⟨e,T,cls,od,H',rfl,h1,h2,h3,h4,h5,h6,h7,h8,h9,h10⟩:=c
 have J:Inv (Dx (Bl P w) P w K mg base N qual scope f cd A outer s0 H0 E) pins σ H' s':=I.call' (ch:=[]) h1 h3 h4 h2 (fun b z=>absurd z (by simp))
 refine Zj4 (base:=base) (outer:=outer) (L:=s0.heap.objs.size) J.ok.frames J.stack rfl h9 fun h' T' hT' y m=>?_
 obtain ⟨u,ok⟩:=J.mvd (h':=h') m (fun b hb=>by
  simp only [Pm,P9,or_false] at hb
  rcases hb with rfl | rfl | rfl
  ·exact ⟨I.old rfl h5,h7⟩
  ·exact ⟨I.old rfl h6,h8⟩
  ·exact ⟨J.old rfl (Sx hT'),J.hok.fresh hT'⟩) rfl
 exact ⟨e,T',cls,od,H',rfl,J.os,J.bare,u,ok,I.old rfl h5,J.old rfl (Sx hT'),h7,J.hok.fresh hT',y,h _ _ _ h10⟩
theorem Zog {pins:List (Addr×Obj)} {σ:St} {H:Hp} {s:Shared} {e:Addr} {cls:Value} {od:Option Addr} (I:Inv (Dx (Bl P w) P w K mg base N qual scope f cd A outer s0 H0 E) pins σ H s) (x:Ly s.heap e cls od) (he:s0.heap.get? e=none) (hn:H e=none) (h:E cls od H) :
  (Dx (Bl P w) P w K mg base N qual scope f cd A outer s0 H0 E).xe (.ref e) s:=by
 refine Zj6 (base:=base) (outer:=outer) (L:=s0.heap.objs.size) I.ok.frames I.stack rfl x fun h' T hT y m=>?_
 obtain ⟨u,ok⟩:=I.mvd (h':=h') m (fun b hb=>by
  simp only [Pm,P9,or_false] at hb
  rcases hb with rfl | rfl
  ·exact ⟨he,hn⟩
  ·exact ⟨I.old rfl (Sx hT),I.hok.fresh hT⟩) rfl
 exact ⟨e,T,cls,od,H,rfl,I.os,I.bare,u,ok,he,I.old rfl (Sx hT),hn,I.hok.fresh hT,y,h⟩
end
end L2
namespace L2
open PySem PySem.Spec PyProof.Rows
section
variable {P:Program} {w:World} {K:O7} {mg:Str->Option Value} {base:Heap}
theorem Fun.okx {x qual:Str} {st:Stmt} {f:Addr} {fd:FuncData} {N ps:List Str} {k:Nat} {sp:Sp} (F:Fun K x qual st f fd) (S:A2 N ps (Az st)) (len:∀ vs H Q E,sp vs H Q E->vs.length=ps.length)
  (hbody:∀ (cdv:Value) (A:Around) (outer:List Env) (s:Shared) (H:Hp) (vs:List V) (Q:VK) (E:XK),Room k (A.deeper (envOfC qual (Az st) s.heap.objs.size f cdv))->sp vs H Q E ->
   ∃ t,Dz (Dx (Bl P w) P w K mg base N qual (Az st) f cdv A outer s H E) (E3 st) t/\t { nx:=fun _ H'=>Q .non H',rt:=Q } (Ex N vs) H):FnOk P w K mg base (Bl P w) (k + 1) f fd ps sp:=by
 obtain ⟨oc,od,kV,doc,pm,an,cdv,ct,osl,rfl,lk,hcd⟩:=F.ex
 refine Zgy lk hcd S len fun A outer s H vs Q E hr hsp=>?_
 obtain ⟨t,h,q⟩:=hbody cdv A outer s H vs Q E hr hsp
 exact ⟨t,h.run,q⟩
structure He (P:Program) (w:World) (K:O7) (mg:Str->Option Value) (base:Heap) (k:Nat) (x:Str) (ps:List Str) (sp:Sp):Prop where
 ex:∃ (f:Addr) (fd:FuncData),FnOk P w K mg base (Bl P w) k f fd ps sp/\mg x=some (.ref f)/\Q6 K (.ref f)=true/\Binds K fd ps []
theorem Zon {k:Nat} {x:Str} {ps:List Str} {sp:Sp} {f:Addr} {fd:FuncData} (F:FnOk P w K mg base (Bl P w) k f fd ps sp) (m:mg x=some (.ref f)) (kp:Q6 K (.ref f)=true) (b:Binds K fd ps []):He P w K mg base k x ps sp:=⟨f,fd,F,m,kp,b⟩
end
section
variable {X:Cx} {k:Nat} {x:Str} {ps:List Str} {sp:Sp} {p pos np cpos:Pos} {e:Expr} {es:List Expr} {t:TA} {E:XK}
theorem Zm0 (C:He X.prog X.w X.K X.mg X.base k x ps sp) (hr:Room k X.A) (hx:E9 (Bl X.prog X.w) X E) (ha:QA X (e :: es) t) (hg:Gl X x:=by rfl) (hdb:(x == ("__debug__" : Str))=false:=by decide)
  (he:starEach (e :: es) X.env=(false,eval e X.env) :: starEach es X.env:=by rfl) (hpl:(backTo pos (starEach es X.env)).any (·.1)=false:=by rfl):QE X (.Call (.Name x p) (e :: es) [] pos) (Jf sp [] E t):=by
 obtain ⟨f,fd,F,hm,hk,hb⟩:=C.ex
 exact ⟨Zg7 F hr hg hm hk hb .nil hx ha.run hdb he hpl⟩
noncomputable abbrev VE:List Value:=[.type "ValueError",.type "Exception",.type "BaseException",.type "object"]
noncomputable def Zrn (X:Cx) (E:XK):Prop:=∀ (pins:List (Addr×Obj)) (σ:St) (H:Hp) (s:Shared) (a:Addr) (cls:Value) (od:Option Addr),Inv X pins σ H s->Ly s.heap a cls od->X.s₀.heap.get? a=none->H a=none->E cls od H->X.xe (.ref a) s
theorem Zsq {K:O7} {h0:Heap} {C:Addr} (kin0:K.In h0) (q:Sm K C VE "ValueError.__new__" = true) :
  ∃ bm N nm q bs hdct sn sub ab col dd k0 k1 k2 k3 k5 mN,mN "__init__" = none/\∀ h:Heap,K.In h->h.get? C=some (excClassObj nm q C N bs bm hdct sn sub ab col dd k0 k1 k2 k3 k5 "ValueError.__new__")/\h.Ns N mN/\OwnTail h VE bm:=by
 unfold Sm at q
 split at q
 ·rename_i dd cd sl ho
  split at q
  ·rename_i C' bm k0 k1 k2 k3 n k5 hm hs
   simp only [Q5,beq_iff_eq,Bool.not_eq_true'] at q
   obtain ⟨⟨⟨⟨⟨rfl,rfl⟩,hdel⟩,ht⟩,hok⟩,hni⟩:=q
   obtain ⟨nm,bs,mro,ns,qn,hd,sn,sub,ab,col,del⟩:=cd
   dsimp only at hm hdel hok hni
   subst hm hdel
   have hsl:sl=#[k0,k1,k2,k3,some (.builtin "ValueError.__new__"),k5]:=by
    obtain ⟨l⟩:=sl
    simp only at hs
    rw [hs]
   subst hsl
   have n0:h0.Ns ns (h0.nsMap ns):=.of_isNs (PySem.W.isNs_of_in kin0 hok)
   refine ⟨bm,ns,nm,qn,bs,hd,sn,sub,ab,col,dd,k0,k1,k2,k3,k5,h0.nsMap ns,PySem.W.nsMap_none_of_in kin0 hok hni,fun h kin=>⟨kin _ _ ho,?_,PySem.W.tail_of_in kin ht⟩⟩
   obtain ⟨o,es,ep,e,r⟩:=n0
   refine ⟨o,es,ep,?_,r⟩
   unfold Tk at hok
   split at hok
   ·rename_i hl
    have:=kin0 _ _ hl
    rw [e] at this
    cases this
    exact kin _ _ hl
   ·cases hok
  ·cases q
 ·cases q
theorem ObjOk.there {P:Program} {w:World} {H:Hp} {h:Heap} {a:Addr} {o:HO} (x:ObjOk P w H h a o):∃ u,h.get? a=some u:=by
 induction o with
 | lst xs=>obtain ⟨_,_,_,_,e⟩:=x; exact ⟨_,e⟩
 | tup xs=>obtain ⟨_,_,_,o,e,_⟩:=x; exact ⟨_,e⟩
 | dK kvs=>obtain ⟨_,_,vs,_,d⟩:=x; obtain ⟨o,e,_⟩:=V6.mp d; exact ⟨_,e⟩
 | dT kvs=>obtain ⟨_,_,_,_,o,_,_,e,_⟩:=x; exact ⟨_,e⟩
 | set S n=>obtain ⟨o,_,_,_,e,_⟩:=x; exact ⟨_,e⟩
 | ins C dx fs=>obtain ⟨_,_,_,e,_⟩:=x; exact ⟨_,e⟩
 | own y=>exact x
 | xd fs=>obtain ⟨_,⟨o,_,_,e,_⟩,_⟩:=x; exact ⟨_,e⟩
 | met f y=>exact ⟨_,x⟩
 | rng lo hi=>obtain ⟨_,_,_,e⟩:=x; exact ⟨_,e⟩
 | frz o u _=>exact ⟨_,x.1⟩
 | tbl ps=>exact ⟨_,x⟩
 | ext φ=>exact x.2.1
theorem HOk.no {P:Program} {w:World} {H:Hp} {h:Heap} (x:HOk P w H h) {a:Addr} (e:h.get? a=none):H a=none:=by
 cases q:H a with
 | none=>rfl
 | some u =>
  have z:=(x a u q).there
  rw [e] at z
  obtain ⟨o,z⟩:=z
  cases z
theorem Zlw {C:Addr} {a:Expr} (hc:X.calm=true) (hC:Sm X.K C VE "ValueError.__new__" = true) (G:X.mg x=some (.ref C)) (ha:QA X [a] t) (hx:Zrn X E) (hex:X.ex=[]) (hg:Gl X x:=by rfl) (hdb:(x == ("__debug__" : Str))=false:=by decide)
  (he:starEach [a] X.env=[(false,eval a X.env)]:=by rfl):QS X (.Raise (some (.Call (.Name x np) [a] [] cpos)) none pos) (fun D σ H=>t σ H fun vs H1=>vs.length<=sizeLine/\E (.ref C) none H1):=by
 refine ⟨fun pins s σ H D I h=>?_⟩
 obtain ⟨bm,N,nm,q,bs,hdct,sn,sub,ab,col,dd,k0,k1,k2,k3,k5,mN,cni,cl⟩:=Zsq I.kIn hC
 obtain ⟨cC,cN,cT⟩:=cl _ I.kIn
 refine wpAny_Raise_call_subU (C:=C) (nm:=nm) (q:=q) (N:=N) (bs:=bs) (bm:=bm) (hdct:=hdct) (sn:=sn) (sub:=sub) (ab:=ab) (col:=col) (dd:=dd) (k0:=k0) (k1:=k1) (k2:=k2) (k3:=k3) (k5:=k5)
  Vc (by decide) Vc (mN:=mN) (cT.hasType Vc.hasBase) (I.ok.hd hc) (by rw [he]; rfl) cni (Hw I hg G ⟨rfl,?_⟩ hdb)
 rw [he]
 have ar:=ha.run cpos pins s σ H _ I h
 rw [he] at ar
 refine Calls.evalArgs_plain (Q9 ar (fun us s2 h2=>?_) fun _ _ y=>y)
 obtain ⟨vs,H1,I1,r1,z,q1⟩:=h2
 obtain ⟨cC',cN',cT'⟩:=cl _ I1.kIn
 refine ⟨rfl,by rw [<- r1.length]; exact z,cC',cN',cT',fun h' a' hm=>?_⟩
 obtain ⟨t',e1,_,_⟩:=hm.there
 have I2:Inv X pins σ H1 { s2 with heap:=h' }:=I1.kept (t':=s2.toks) hm.keeps
 exact hx pins σ H1 _ a' (.ref C) none I2 ⟨_,_,e1,rfl,rfl,rfl,rfl⟩ (I1.old hex hm.new) (I1.hok.no hm.new) q1
end
end L2
namespace L2
open PySem PySem.Spec PyProof.Rows
noncomputable def Dn (a:Addr) (cls:Value) (od:Option Addr):HO:=.ext fun h=>∃ o vs,h.get? a=some o/\o.cls=cls/\o.dict=od/\o.data=.fields vs
theorem Znx {P:Program} {w:World} {H:Hp} {h:Heap} {a T:Addr} {cls:Value} {od:Option Addr} (x:F4 h a T cls od):ObjOk P w H h a (Dn a cls od):=by
 obtain ⟨oe,vs,oT,ts,a1,a2,a3,a4,a5,a6,a7,a8,a9⟩:=x
 refine ⟨⟨oe,vs,a1,a2,a3,a4⟩,⟨oe,a1⟩,fun h1 h2 q k=>?_⟩
 obtain ⟨o,vs,q1,q2⟩:=q
 exact ⟨o,vs,k o q1,q2⟩
theorem Un.land {fs xs:List Addr} {H H':Hp} {h h1 h2:Heap} {e:Addr} {o:HO} (u:Un fs [] H H' h h1) (m:Mvd fs xs h1 h2) (hx:∀ b∈xs,h.get? b=none) (he:h.get? e=none) (hn:H' e=none):Un fs [] H (upd H' e o) h h2:=by
 have low:∀ b ob,h.get? b=some ob->b ∉ xs:=fun b ob q z=>by rw [hx b z] at q; cases q
 have ne:∀ b ob,h.get? b=some ob->b≠e:=fun b ob q z=>by rw [z,he] at q; cases q
 have ne':∀ b ob,H' b=some ob->b≠e:=fun b ob q z=>by rw [z,hn] at q; cases q
 refine ⟨fun b ob q n hf _=>m.keep b ob (low b ob q) hf (u.keep b ob q n hf (by simp)),fun b ob q n hf _=>?_,fun b ob q n _=>?_,fun b ob q _=>?_,fun b ys q=>?_,fun b ob v q=>?_,fun b ps q=>?_⟩
 ·obtain ⟨sl,e1⟩:=u.slot b ob q n hf (by simp)
  obtain ⟨sl',e2⟩:=m.slot b _ (low b ob q) e1
  exact ⟨sl',e2⟩
 ·rw [Af (ne b ob q)]; exact u.free b ob q n (by simp)
 ·obtain ⟨o',e1⟩:=u.there b ob q (by simp)
  obtain ⟨sl,e2⟩:=m.slot b o' (low b ob q) e1
  exact ⟨_,e2⟩
 ·have z:=u.tups b ys q
  rw [Af (ne' b _ z)]; exact z
 ·have z:=u.frzs b ob v q
  rw [Af (ne' b _ z)]; exact z
 ·obtain ⟨more,z⟩:=u.tbls b ps q
  exact ⟨more,by rw [Af (ne' b _ z)]; exact z⟩
theorem HOk.land {P:Program} {w:World} {fs xs:List Addr} {H:Hp} {h1 h2:Heap} {e:Addr} {o:HO} (x:HOk P w H h1) (m:Mvd fs xs h1 h2) (hx:∀ b∈xs,H b=none) (hf:∀ b∈fs,H b=none) (hn:H e=none) (new:ObjOk P w (upd H e o) h2 e o):HOk P w (upd H e o) h2:=by
 intro b u q
 by_cases hb:b=e
 ·subst hb
  rw [Ae] at q
  cases q
  exact new
 ·rw [Af hb] at q
  have tr:∀ c v,H c=some v->c ∉ xs/\c ∉ fs:=fun c v q=>⟨(fun z=>by rw [hx c z] at q; cases q),(fun z=>by rw [hf c z] at q; cases q)⟩
  have ne':∀ b ob,H b=some ob->b≠e:=fun b ob q z=>by rw [z,hn] at q; cases q
  refine (x b u q).stay (fun c v hc z=>?_) (fun c z=>by rw [Af (ne' c _ z)]; exact z) fun c ys z=>by rw [Af (ne' c _ z)]; exact z
  rcases hc with r | r
  ·rw [r] at z ⊢
   exact m.keep b v (tr b u q).1 (tr b u q).2 z
  ·exact m.keep c v (tr c _ r).1 (tr c _ r).2 z
noncomputable abbrev TX:=St->Hp->VK->XK->Prop
noncomputable abbrev TXS:=Ends->(St->XK)->St->Hp->Prop
noncomputable def XP (X:Cx) (pins:List (Addr×Obj)) (σ:St) (E:XK) (ev:Value) (s':Shared):Prop:=∃ H0 s0,Inv X pins σ H0 s0/\Bl X.prog X.w X.stack H0 s0 E ev s'
structure QX (X:Cx) (e:Expr) (t:TX):Prop where
 run:∀ (pins:List (Addr×Obj)) (s:Shared) (σ:St) (H:Hp) (Q:VK) (E:XK),Inv X pins σ H s->t σ H Q E->wpAny (model X.prog X.w) X.A (eval e X.env) (EP X pins σ Q) (XP X pins σ E) s
structure QXS (X:Cx) (sts:List Stmt) (t:TXS):Prop where
 run:∀ (pins:List (Addr×Obj)) (s:Shared) (σ:St) (H:Hp) (D:Ends) (E:St->XK),Inv X pins σ H s->t D E σ H->wpAny (model X.prog X.w) X.A (execs sts X.env) (SP X pins D) (fun ev s'=>∃ σ',XP X pins σ' (E σ') ev s') s
noncomputable abbrev Cx.to (X:Cx) (A:Around) (c:Bool) (XE:Value->Shared->Prop):Cx:={ X with A:=A,calm:=c,xe:=XE }
section
variable {X:Cx} {pins:List (Addr×Obj)} {σ:St} {H:Hp} {s:Shared}
theorem Inv.to (I:Inv X pins σ H s) {A:Around} {c:Bool} {XE:Value->Shared->Prop} (hA:A.frames=X.A.frames) (hc:c=true->A.handled=none):Inv (X.to A c XE) pins σ H s :=
 ⟨⟨I.ok.mod,I.ok.kind,I.ok.glob,I.ok.blt,I.ok.above,I.ok.inj,I.ok.has,I.ok.cab,hc,hA.trans I.ok.frames,I.ok.stk,I.ok.exf,I.ok.bs,I.ok.bsz,I.ok.noex,I.ok.exfs,I.ok.funs,I.ok.frf⟩,I.os,I.bare,I.base,I.loc,I.cell,I.free,I.freeC,I.pin,I.hok,I.len⟩
theorem Inv.back {A:Around} {c:Bool} {XE:Value->Shared->Prop} (I:Inv (X.to A c XE) pins σ H s) (ok:X.Ok):Inv X pins σ H s :=
 ⟨ok,I.os,I.bare,I.base,I.loc,I.cell,I.free,I.freeC,I.pin,I.hok,I.len⟩
end
section
variable {X:Cx} {k:Nat} {x:Str} {ps:List Str} {sp:Sp} {p pos np cpos:Pos} {e:Expr} {es:List Expr} {t:TA}
theorem Zk7 (C:He X.prog X.w X.K X.mg X.base k x ps sp) (hr:Room k X.A) (ha:∀ XE,QA (X.to X.A X.calm XE) (e :: es) t) (hg:Gl X x:=by rfl) (hdb:(x == ("__debug__" : Str))=false:=by decide)
  (he:starEach (e :: es) X.env=(false,eval e X.env) :: starEach es X.env:=by rfl) (hpl:(backTo pos (starEach es X.env)).any (·.1)=false:=by rfl):QX X (.Call (.Name x p) (e :: es) [] pos) (fun σ H Q E=>t σ H fun vs H1=>sp vs H1 Q E):=by
 obtain ⟨f,fd,F,hm,hk,hb⟩:=C.ex
 refine ⟨fun pins s σ H Q E I h=>?_⟩
 refine S9 (Hw I hg hm ?_ hdb)
 refine Uj (h₀:=X.base) I.ok.mod.kin hk (Am ((ha (XP X pins σ E)).run pos pins s σ H _ (I.to rfl I.ok.hd) h) fun us s1 ⟨vs,H1,I1,r,q⟩=>⟨(I1.back I.ok).kIn,?_⟩) he hpl
 have I1:=I1.back I.ok
 have hl:us.length=ps.length:=by rw [<- r.length]; exact F.len _ _ _ _ q
 have hb':=hb s1 us I1.kIn (by simpa using hl)
 rw [P5] at hb'
 refine Tq (R6 (F.run X.A X.stack s1 H1 ⟨us,[]⟩ us vs Q E hr I1.env0 hb' r q) fun r s' hq=>?_)
 cases r with
 | error e=>exact ⟨H1,s1,I1,hq⟩
 | ok fl =>
  cases fl with
  | ret u=>exact I1.after hq
  | next=>exact P6 hq
  | brk=>exact P6 hq
  | cont=>exact P6 hq
theorem Zps {t:TX} (he:QX X e t) (hs:swapsWith e none pos.line X.env=pure false:=by rfl):QXS X [.Expr e pos] (fun D E σ H=>t σ H (fun _ H1=>D.nx σ H1) (E σ)):=by
 refine ⟨fun pins s σ H D E I h=>?_⟩
 refine Vv (Q9 (wpAny_Expr_any (Q:=SP X pins D) (Am (he.run pins s σ H _ (E σ) I h) fun v s1 ⟨x,H1,I1,r1,q1⟩=>⟨σ,H1,I1,q1⟩) I.quiet hs) (fun f s1 q=>?_) fun ev s1 q=>⟨σ,q⟩)
 cases f with
 | next=>exact Sh q
 | ret v=>exact q
 | brk=>exact q
 | cont=>exact q
end
end L2
namespace L2
open PySem PySem.Spec PyProof.Rows
structure J4 (K:O7) (C:Addr):Prop where
 ty:Rp K (.ref C)=some (.type "type")
 cl:(Rg K C).isSome=true
 bs:Qh K (.ref C) (.type "BaseException")=some true
theorem Zft {K:O7} {M:Model} {h:Heap} {C:Addr} (X:K.In h) (e:(Rg K C).isSome=true):Tl M h (isType (.ref C)) true:=by
 unfold Rg at e
 split at e
 ·rename_i c' d' cd' sl' ho
  intro A' Q' E' s' k q
  unfold isType loadHead
  exact O8 (wpAny_loadPart (k _ _ (X _ _ ho)) (O9 q))
 ·cases e
theorem Zmw {K:O7} {M:Model} {A:Around} {E:Value->Shared->Prop} {s:Shared} {Q:Bool->Shared->Prop} {e C C':Addr} {oe:Obj} (X:K.In s.heap) (c:J4 K C) (he:s.heap.get? e=some oe) (hcls:oe.cls=.ref C') (hs:Qh K (.ref C') (.ref C)=some true) (h:Q true s) :
  wpAny M A (excMatches (.ref e) (.ref C)) Q E s:=by
 have L1:Tl M s.heap (typeOf (.ref C)) (.type "type"):=PySem.W.looks_typeIn X c.ty
 have L2:Tl M s.heap (isType (.ref C)) true:=Zft X c.cl
 have L3:=PySem.W.looks_subIn (M:=M) X c.bs
 have L4:Tl M s.heap (typeOf (.ref e)) (.ref C'):=by
  intro A' Q' E' s' k q
  unfold typeOf
  exact O8 (wpAny_loadPart (k _ _ he) (O9 (by rw [hcls]; exact q)))
 have L5:=PySem.W.looks_subIn (M:=M) X hs
 have f:=tc_notTuple
 unfold excMatches
 unfold isInstance isExcClass
 repeat (first | with_reducible refine L1.here ?_ | with_reducible refine L2.here ?_ | with_reducible refine L3.here ?_ | with_reducible refine L4.here ?_ | with_reducible refine L5.here ?_ | wp_step)
 exact h
section
variable {X:Cx} {pins:List (Addr×Obj)} {σ:St} {H:Hp} {s:Shared}
theorem Mo {M:Model} {A:Around} {E:Value->Shared->Prop} {i:Nat} {n:Str} {hpos:Pos} {Q:Unit->Shared->Prop} (I:Inv X pins σ H s) (hN:X.N.Nodup) (hi:X.N[i]?=some n) (hk:X.env.scope.names.lookup n=some .local)
  (h:∀ s',Inv X pins (σ.set i none) H s'->Q () s'):wpAny M A (do bindName X.env n .none; unbindBehindTheSuite X.env n hpos) Q E s:=by
 obtain ⟨m,hn,hl⟩:=id I.loc
 have hcls:(X.env.scope.kind == .class || (X.env.scope.kind == .module && X.env.locals != X.env.globals))=false:=by rw [I.ok.kind]; rfl
 have cne:=I.cne
 obtain ⟨oL,_,_,hoL,_⟩:=id hn
 refine wpAny_nameGoes_keeps hk hn hcls fun h' v hn' hs=>?_
 have hok:HOk X.prog X.w H h':=fun b ob e=>by
  refine (I.hok b ob e).stay (fun c w' hc q=>(hs.2 c ?_).trans q) (fun _ q=>q) fun _ _ q=>q
  rintro rfl
  rcases hc with rfl | hc
  ·rw [I.free] at e; cases e
  ·rw [I.free] at hc; cases hc
 refine h _ ⟨I.ok,I.os,I.bare,⟨fun b o e n hb hx=>?_,fun b o e n hb hx=>?_,I.base.free,fun b o e hx=>?_,I.base.tups,I.base.frzs,I.base.tbls⟩,⟨_,hn',fun j y v' e1 e2 e3=>?_⟩,fun y c e=>?_,I.free,I.freeC,fun p hp=>?_,hok,by simpa using I.len⟩
 ·exact (hs.2 b (Pl (Pr (Pe e) I.ok.above))).trans (I.base.keep b o e n hb hx)
 ·obtain ⟨sl,e1⟩:=I.base.slot b o e n hb hx
  exact ⟨sl,(hs.2 b (Pl (Pr (Pe e) I.ok.above))).trans e1⟩
 ·obtain ⟨o',e1⟩:=I.base.there b o e hx
  exact ⟨o',(hs.2 b (Pl (Pr (Pe e) I.ok.above))).trans e1⟩
 ·by_cases hj:j=i
  ·subst hj
   have hiσ:j < σ.length:=by rw [I.len]; exact (Pj.mp hi).1
   rw [Ub hiσ] at e2
   cases e2
  ·rw [Uf (Pg hj)] at e2
   obtain ⟨u',r',q⟩:=hl j y v' e1 e2 e3
   refine ⟨u',r',?_⟩
   rcases q with ⟨k,e⟩ | ⟨k,c,e,z⟩
   ·refine .inl ⟨k,?_⟩
    have:y≠n:=fun e=>hj (Zao hN e1 (e ▸ hi))
    simp [this,e]
   ·exact .inr ⟨k,c,e,z.sameBut hs (cne y c e)⟩
 ·obtain ⟨w',z⟩:=I.cell y c e
  exact ⟨w',z.sameBut hs (cne y c e)⟩
 ·obtain ⟨e,n,ne,nf,d⟩:=I.pin p hp
  exact ⟨(hs.2 p.1 ne).trans e,n,ne,nf,d⟩
end
section
variable {X:Cx} {c n:Str} {np hpos pos:Pos} {body hbody:List Stmt} {b₀:Stmt} {tb:TXS} {th:TS} {i:Nat} {C:Addr}
noncomputable def Ends.gone (D:Ends) (i:Nat):Ends:={ nx:=fun σ H=>D.nx (σ.set i none) H,rt:=D.rt,bk:=fun σ H=>D.bk (σ.set i none) H,ct:=fun σ H=>D.ct (σ.set i none) H }
noncomputable def tTry (K:O7) (C:Addr) (i:Nat) (tb:TXS) (th:TS):TS:=fun D σ H=>tb D (fun σ1 cls od H2=>(∃ C',cls=.ref C'/\Qh K (.ref C') (.ref C)=some true)/\∀ a,H2 a=none->th (D.gone i) (σ1.set i (some (.ref a))) (upd H2 a (Dn a cls od))) σ H
theorem Zsx (hN:X.N.Nodup) (hi:X.N[i]?=some n) (hk:X.env.scope.names.lookup n=some .local) (hC:J4 X.K C) (G:X.mg c=some (.ref C)) (hf:X.env.frame=some X.env.locals) (hst:X.stack=X.env :: X.outer) (hb:QXS X body tb) (hh:∀ e XE,Dz (X.to (X.A.mark (some e)) false XE) (b₀ :: hbody) th) (hg:Gl X c:=by rfl) (hdb:(c == ("__debug__" : Str))=false:=by decide) :
  QS X (.Try body [.ExceptHandler (some (.Name c np)) (some n) (b₀ :: hbody) hpos] [] [] pos) (tTry X.K C i tb th):=by
 refine ⟨fun pins s σ H D I h=>?_⟩
 refine wpAny_Try_except (Q9 (hb.run pins s σ H D _ I h) (fun f s1 q=>?_) fun ev s1 q=>?_)
 ·cases f with
  | next=>exact Sh q
  | ret v=>exact q
  | brk=>exact q
  | cont=>exact q
 ·obtain ⟨σ1,H0,s0,I0,e,T,cls,od,H',rfl,h1,h2,h3,h4,h5,h6,h7,h8,h9,⟨C',rfl,hsub⟩,h10⟩:=q
  have J:Inv X pins σ1 H' s1:=I0.call' (ch:=[]) h1 h3 h4 h2 (fun b z=>absurd z (by simp))
  have hfr:X.A.frames=some (X.env :: X.outer):=by rw [<- hst]; exact J.ok.frames
  have hstk:=J.stack
  rw [hst] at hstk
  refine Zg4 (base:=X.base) hfr hstk hf h9 fun h' T' hT' y m=>Lf (fs:=Bg (X.env :: X.outer)) y fun h'' y' m'=>?_
  have M1:Mvd (Bg X.stack) [e,T,T'] s1.heap h'':=by rw [hst]; exact (m.mono (by simp)).trans (m'.mono (by simp))
  have fT':s0.heap.get? T'=none:=by
   cases q:s0.heap.get? T' with
   | none=>rfl
   | some o =>
    obtain ⟨o',z⟩:=h3.there T' o q (by simp)
    exact absurd (Pe z) (Nat.not_lt.mpr hT')
  have hT'n:H' T'=none:=J.hok.fresh hT'
  have fx:∀ b∈[e,T,T'],s0.heap.get? b=none/\H' b=none:=by
   intro b hb
   simp only [Pm,P9,or_false] at hb
   rcases hb with rfl | rfl | rfl
   ·exact ⟨h5,h7⟩
   ·exact ⟨h6,h8⟩
   ·exact ⟨fT',hT'n⟩
  have land:∀ {h3':Heap},Mvd (Bg X.stack) [e,T,T'] s1.heap h3'->F4 h3' e T' (.ref C') od->Inv X pins σ1 (upd H' e (Dn e (.ref C') od)) { s1 with heap:=h3' }:=fun {h3'} mm ll =>
   I0.call' (s':={ s1 with heap:=h3' }) (ch:=[]) h1 (h3.land mm (fun b hb=>(fx b hb).1) h5 h7) (h4.land mm (fun b hb=>(fx b hb).2) (fun b hb=>J.stkFree b hb) h7 (Znx ll)) h2 (fun b z=>absurd z (by simp))
  have I1:=land M1 y'
  refine wpAny_handleBy_cons (codeAny_handlers_test ?_) (by intro q; cases q)
  have I1':Inv (X.to (X.A.mark (some (.ref e))) false (notedBy (model X.prog X.w) (X.A.mark (some (.ref e))) X.env fun x s₁=>True)) pins σ1 (upd H' e (Dn e (.ref C') od)) { s1 with heap:=h'' }:=I1.to rfl (by simp)
  refine Hw I1' hg G ?_ hdb
  obtain ⟨oe,vs,oT,ts,a1,a2,a3,a4,a5,a6,a7,a8,a9⟩:=id y'
  refine Zmw I1.kIn hC a1 a2 hsub ?_
  refine codeAny_handlers_suite_as (Lf (fs:=Bg X.stack) y' fun h4' y4 m4=>?_)
  have I2:=land (M1.trans (m4.mono (by simp))) y4
  refine Zbr (v:=.ref e) I2 hN hi (.inl hk) rfl (fun s3 I3=>?_) (.inr hk)
  refine Q9 ((hh (.ref e) _).run pins s3 _ _ (D.gone i) (I3.to rfl (by simp)) (h10 e h7)) (fun f s4 q=>?_) fun ev s4 q=>q
  cases f with
  | next =>
   obtain ⟨σ',H4,I4,q⟩:=q
   exact Mo (I4.back I.ok) hN hi hk fun s5 I5=>⟨_,H4,I5,q⟩
  | ret v =>
   obtain ⟨u,σ',H4,I4,r,q⟩:=q
   exact Mo (I4.back I.ok) hN hi hk fun s5 I5=>⟨u,_,H4,I5,r,q⟩
  | brk =>
   obtain ⟨σ',H4,I4,q⟩:=q
   exact Mo (I4.back I.ok) hN hi hk fun s5 I5=>⟨_,H4,I5,q⟩
  | cont =>
   obtain ⟨σ',H4,I4,q⟩:=q
   exact Mo (I4.back I.ok) hN hi hk fun s5 I5=>⟨_,H4,I5,q⟩
theorem Zqw (hN:X.N.Nodup) (hi:X.N[i]?=some n) (hk:X.env.scope.names.lookup n=some .local) (hC:J4 X.K C) (G:X.mg c=some (.ref C)) (hf:X.env.frame=some X.env.locals) (hst:X.stack=X.env :: X.outer) (hb:QXS X body tb) (hh:∀ A XE,Dz (X.to A false XE) (b₀ :: hbody) th) (hg:Gl X c:=by rfl) (hdb:(c == ("__debug__" : Str))=false:=by decide) :
  QS X (.Try body [.ExceptHandler (some (.Name c np)) (some n) (b₀ :: hbody) hpos] [] [] pos) (tTry X.K C i tb th):=Zsx hN hi hk hC G hf hst hb (fun e XE=>hh _ XE) hg hdb
end
end L2
namespace L2
open PySem PySem.Spec PyProof.Rows
noncomputable def Iu:List Value->Bool
 | .ref _ :: r=>Iu r
 | l=>l == VE
theorem Zco:∀ {l:List Value},Iu l=true->l.contains (.type "object")=true/\l.contains (.type "BaseException")=true:=by
 intro l
 induction l with
 | nil=>intro e; cases e
 | cons c r ih =>
  intro e
  cases c with
  | ref a=>obtain ⟨x,y⟩:=ih e; exact ⟨by rw [List.contains_cons,x,Bool.or_true],by rw [List.contains_cons,y,Bool.or_true]⟩
  | _=>rw [beq_iff_eq.mp (show (_ == _)=true from e)]; decide
structure ExC (K:O7) (C:Addr):Prop where
 ov:((Rg K C).any fun cd=>Iu cd.mro)=true
 hd:Sd K C=true
 ga:Px K (.ref C) "__getattribute__" = some (some (.builtin "BaseException.__getattribute__"))
 gt:Px K (.ref C) "__getattr__" = some none
 sa:Px K (.ref C) "__setattr__" = some (some (.builtin "object.__setattr__"))
 dc:Rp K (.ref C)=some (.type "type")
section
open PySem.W PySem.Builtin PySem.Builtin.ObjectAttr
variable {prog:Program} {w:World} {A:Around} {E:Value->Shared->Prop} {s:Shared} {K:Frag} {x C:Addr} {ox:Obj} {od:Option Obj} {name:Str} {R:Result->Shared->Prop}
end
end L2
namespace L2
open PySem PySem.Spec PyProof.Rows
theorem Zi0 {P:Program} {w:World} {H:Hp} {h:Heap} {a:Addr} {cls:Value} {od:Option Addr} (x:ObjOk P w H h a (Dn a cls od)):∃ o vs,h.get? a=some o/\o.cls=cls/\o.dict=od/\o.data=.fields vs:=x.1
section
variable {X:Cx} {pins:List (Addr×Obj)} {σ:St} {H:Hp} {s:Shared}
end
section
variable {X:Cx} {pins:List (Addr×Obj)} {σ:St} {H:Hp} {s:Shared} {a C:Addr} {f:Str} {A:Around} {E:Value->Shared->Prop}
open PySem.W PySem.Builtin PySem.Builtin.ObjectAttr
end
section
variable {X:Cx} {o e value:Expr} {f:Str} {pos pos':Pos} {ta tv:TE}
end
section
open PySem.W
end
end L2
namespace L2
open PySem PySem.Spec PyProof.Rows
noncomputable def excI (K:O7) (C:Addr):Bool:=match K.lookup C with
 | some ⟨.type "type",_,.cls cd,sl⟩=>(match cd.mro,sl.toList with
  | .ref C' :: bm,[_,_,_,_,some (.builtin n),_]=>C' == C && n == "ValueError.__new__" && !cd.hasDel && R5 K VE bm
  | _,_=>false)
 | _=>false
section
variable {prog:Program} {w:World} {A:Around} {E:Value->Shared->Prop} {h:Heap} {g:Array GenState} {d:Drawn} {t:Nat} {os:OsState}
variable {nm q:Str} {C N:Addr} {bs bm bmB:List Value} {hdct:Bool} {sn:List Str} {sub:List Value} {ab:Bool} {col:Option Bool} {dd:Option Addr} {k0 k1 k2 k3 k5:Option Value} {B Bn newId nid initId inN:String} {bmN:List Value}
end
section
variable {X:Cx} {k:Nat} {x:Str} {sp:Sp} {ps:List Str} {C f:Addr} {fd:FuncData} {np cpos pos:Pos} {a:Expr} {t:TA} {E:XK}
end
end L2
namespace L2
open PySem PySem.Spec PyProof.Rows
end L2
namespace L2
open PySem PySem.Spec PyProof.Rows
section
variable {P:Program} {w:World} {K:O7} {mg:Str->Option Value} {base:Heap}
end
section
variable {X:Cx} {k:Nat} {x:Str} {ps:List Str} {sp:Sp} {p pos:Pos} {e:Expr} {es:List Expr} {t:TA}
end
end L2
namespace L2
open PySem PySem.Spec PyProof.Rows
structure Hn (K:O7) (D:Addr):Prop extends ExC K D where
 ca:Px K (.ref D) "__class__" = some (some (.builtin "object.__class__"))
 cg:Vr K (.builtin "object.__class__") "__get__" = some (some (.builtin "getset_descriptor.__get__"))
 ct:V1 K (.builtin "object.__class__")=some true
section
open PySem.W PySem.Builtin PySem.Builtin.ObjectAttr
variable {prog:Program} {w:World} {A:Around} {E:Value->Shared->Prop} {s:Shared} {K:Frag} {x D:Addr} {ox:Obj} {od:Option Obj}
theorem Zn5 {Q:Option Value->Shared->Prop} (X:K.In s.heap) (I:Uv s.heap x ox D od) (c:Hn K D) (h:Q (some (.ref D)) { s with toks:=s.toks + 1 }):wpAny (model prog w) A (getAttr? (.ref x) "__class__") Q E s:=by
 obtain ⟨cd,hc,ho⟩:=any_some c.ov
 have ne:cd.mro.isEmpty=false:=by cases q:cd.mro with | nil=>rw [q] at ho; cases ho | cons _ _=>rfl
 have hf:findObj K D od "__class__" = some (.bind (.builtin "getset_descriptor.__get__") (.builtin "object.__class__")):=by
  unfold findObj
  rw [hc,Qa,c.ca,Qa]
  dsimp only
  rw [c.cg,Qa]
  dsimp only
  rw [c.ct]
  rfl
 have hm:mroIn K D (.type "object")=some true:=by unfold mroIn; rw [hc,Qa,if_neg (by rw [ne]; decide),(Zco ho).1]
 obtain ⟨hp,g,d,t,os⟩:=s
 have L0:=I.type (M:=model prog w)
 have L1:=looks_findIn (M:=model prog w) X c.ga
 have L2:=looks_findIn (M:=model prog w) X c.gt
 have L3:=looks_find (M:=model prog w) X I hf
 have L4:Looks (model prog w) hp (isInstance (.ref x) (.type "BaseException")) true:=I.type.andThen (looks_mroIn X (by unfold mroIn; rw [hc,Qa,if_neg (by rw [ne]; decide),(Zco ho).2]))
 have f3:=PySem.F.attr_ValueError.ga.bind (.ref x)
 have hx2:(Value.builtin "BaseException.__getattribute__" == Value.builtin "object.__getattribute__")=false:=by decide +kernel
 have hx1:(onTheHeap (Value.ref D) && Value.builtin "BaseException.__getattribute__" == Value.builtin "object.__getattribute__")=false:=by rw [hx2]; rfl
 have hk:builtinKind "BaseException.__getattribute__" = some .slot:=by decide +kernel
 have hsplit:splitId "BaseException.__getattribute__" = some ("BaseException", "__getattribute__"):=by decide +kernel
 unfold getAttr? getAttrBy? getAttrBy
 refine O8 (wpAny_mkText (O8 (Rq (Qr (O8 (L0.at (O8 (L1.at ?_))))))))
 dsimp only
 rw [hx1]
 simp only [Rz,if_false]
 unfold getAttrByItsOwn hookBefore callGetattribute
 rw [if_pos (show onTheHeap (Value.ref D)=true from rfl)]
 refine O8 (L2.at ?_)
 simp only [Bool.false_and,Rz,if_false]
 unfold boundAndCalled
 rw [f3]
 refine O8 (Rq (Qr (O8 (O9 (Tq (codeAny_call_builtin PySem.F.attr_ValueError.ga.plain PySem.F.entry_bexc_ga (@check_slot (model prog w) _ _ ⟨hp,g,d,t + 1,os⟩ "BaseException.__getattribute__" "BaseException" "__getattribute__" (.ref x) [.str "__class__" t] [] _ hk hsplit L4 (PySem.F.args_bexc_ga (.ref x) (.str "__class__" t)) ?_)))))))
 show wpAny _ _ (Builtin.«object.__getattribute__» ⟨[.ref x,.str "__class__" t],[]⟩) _ _ _
 refine O8 (O9 (O8 (O9 (O8 (L0.at (O8 (L3.at ?_)))))))
 show wpAny _ _ (holding [.builtin "object.__class__"] (call (.builtin "getset_descriptor.__get__") [.builtin "object.__class__",.ref x,.ref D]) >>= ret) _ _ _
 refine O8 (Qr (Tq (class_get (s:=⟨hp,g,d,t + 1,os⟩) (ox:=ox) (od:=od) X I hm (O9 ?_))))
 show wpAny _ _ (handedOut (.ref D)) _ _ _
 rw [handedOut_of rfl]
 exact O9 (O9 h)
theorem Ou (c:Hn K D):KitX K (.ref x) (.ref D) (fun h=>Uv h x ox D od) where
 ty:=fun _ _ _ I=>I.type
 it:=fun _ _ X _=>by
  obtain ⟨cd,hc,_⟩:=any_some c.ov
  exact Zft X (by rw [hc]; rfl)
 ne:=fun h tp dd its n sl X htp=>by
  obtain ⟨cdD,hcD,_⟩:=any_some c.ov
  refine Bool.eq_false_iff.mpr fun q=>?_
  have e:D=tp:=Value.ref.inj (beq_iff_eq.mp q)
  subst e
  unfold clsIn at hcD
  split at hcD
  ·rename_i c' d' cd' sl' ho
   have z:=(X _ _ ho).symm.trans htp
   cases z
  ·cases hcD
 ca:=fun X I k=>Zn5 X I c k
end
noncomputable def rIsY (K:O7):List V->Hp->VK->Prop:=fun xs H Q=>∃ a C C' od b,xs=[.ref a,.ref C]/\H a=some (Dn a (.ref C') od)/\(∀ d,od=some d->∃ fs,H d=some (.xd fs))/\Hn K C'/\P4 K (.ref C') (.ref C)=some b/\Q (.bl b) H
noncomputable def Zio (K:O7) (T:String):List V->Hp->VK->Prop:=fun xs H Q=>∃ a C' od b,xs=[.ref a,.ty T]/\H a=some (Dn a (.ref C') od)/\(∀ d,od=some d->∃ fs,H d=some (.xd fs))/\Hn K C'/\P4 K (.ref C') (.type T)=some b/\Q (.bl b) H
section
variable {X:Cx} {pins:List (Addr×Obj)} {σ:St} {H:Hp} {s:Shared} {a C':Addr} {od:Option Addr}
theorem Ot (I:Inv X pins σ H s) (ea:H a=some (Dn a (.ref C') od)) (hd:∀ d,od=some d->∃ fs,H d=some (.xd fs)):∃ ox oo,Uv s.heap a ox C' oo:=by
 obtain ⟨oe,vs,a1,a2,a3,a4⟩:=Zi0 (I.hok a _ ea)
 cases od with
 | none=>exact ⟨oe,none,a1,a2,by unfold PySem.W.notCls; rw [a4],by rw [a3]; trivial⟩
 | some d =>
  obtain ⟨fs,ed⟩:=hd d rfl
  obtain ⟨mA,nA,r⟩:=I.hok d _ ed
  obtain ⟨oD,hoD,hl⟩:=Zg0 nA
  exact ⟨oe,some oD,a1,a2,by unfold PySem.W.notCls; rw [a4],by rw [a3]; exact hoD⟩
theorem Zna {K:O7} (hK:X.K=K:=by rfl):Ct X (.builtin "isinstance") (rIsY K):=by
 subst hK
 intro pins s σ H xs us Q I r h
 obtain ⟨a,C,C',od,b,rfl,ea,hd,c,e,q⟩:=h
 obtain ⟨u,v,rfl,ru,rv⟩:=r.two
 obtain rfl:u=Value.ref a:=ru
 obtain rfl:v=Value.ref C:=rv
 obtain ⟨ox,oo,J⟩:=Ot I ea hd
 exact Qb (Ou (ox:=ox) (od:=oo) c) I.kIn J e (fun z=>nomatch z) fun tk=>⟨.bl b,H,I.tok tk,rfl,q⟩
theorem Zmd {K:O7} (T:String) (hK:X.K=K:=by rfl):Ct X (.builtin "isinstance") (Zio K T):=by
 subst hK
 intro pins s σ H xs us Q I r h
 obtain ⟨a,C',od,b,rfl,ea,hd,c,e,q⟩:=h
 obtain ⟨u,v,rfl,ru,rv⟩:=r.two
 obtain rfl:u=Value.ref a:=ru
 obtain rfl:v=Value.type T:=rv
 obtain ⟨ox,oo,J⟩:=Ot I ea hd
 exact Qb (Ou (ox:=ox) (od:=oo) c) I.kIn J e (fun z=>nomatch z) fun tk=>⟨.bl b,H,I.tok tk,rfl,q⟩
end
end L2
namespace L2
open PySem PySem.Spec PyProof.Rows
section
variable {X:Cx}
noncomputable def rEqI (K:O7):R2:=fun x y H Q=>∃ (a c:Addr) (xs ys:List Int),x=.ref a/\y=.ref c/\SqT K H a (xs.map V.int)/\SqT K H c (ys.map V.int)/\Q (.bl (decide (xs=ys))) H
theorem Zlx (hu:X.A.units + 200 < cLine):OpR X (compareOp .Eq) (rEqI X.K):=by
 intro pins s σ H x y v u Q I rx ry h
 obtain ⟨a,c,xs,ys,rfl,rfl,hx,hy,q⟩:=h
 cases rx
 cases ry
 obtain ⟨its,r1,p1,_⟩:=I.tuple hx
 obtain ⟨its2,r2,p2,_⟩:=I.tuple hy
 obtain ⟨us,e1,f1⟩:=N8 r1
 obtain ⟨vs,e2,f2⟩:=N8 r2
 have l1:us.length=xs.length:=by rw [<- f1,Pi]
 have l2:vs.length=ys.length:=by rw [<- f2,Pi]
 refine SeqAt.eq_tupleAt (e:=fun j=>xs.getD j 0 == ys.getD j 0) (show s.heap.IsTuple a its.toArray from p1) (show s.heap.IsTuple c its2.toArray from p2) (by omega) (fun j h1 h2=>?_) ?_
 ·subst e1 e2
  simp only [Pf,Pi] at h1 h2
  have g1:xs.getD j 0=us[j].1:=by rw [<- f1,Tz,Qn,Pb h1]; rfl
  have g2:ys.getD j 0=vs[j].1:=by rw [<- f2,Tz,Qn,Pb h2]; rfl
  rw [g1,g2]
  simp only [List.getElem_toArray,List.getElem_map]
  exact Pt.int_int _ _ _ _
 ·have e:((Pw (min its.toArray.size its2.toArray.size)).all (fun j=>xs.getD j 0 == ys.getD j 0) && its.toArray.size == its2.toArray.size)=decide (xs=ys):=by
   have z1:its.toArray.size=xs.length:=by rw [Pf,e1,Pi,l1]
   have z2:its2.toArray.size=ys.length:=by rw [Pf,e2,Pi,l2]
   rw [z1,z2,Zpi]
  rw [e]
  exact ⟨.bl _,H,I,rfl,q⟩
noncomputable def rEqB (K:O7):R2:=fun x y H Q=>Lg K x y H Q\/rEqI K x y H Q
theorem Ziz (K:O7) (hu:X.A.units + 200 < cLine) (hK:X.K=K:=by rfl):OpR X (compareOp .Eq) (rEqB K):=by subst hK; exact (Zfl hu).or (Zlx hu)
theorem Zli {K:O7} {a c:Addr} {xs ys:List Int} {H:Hp} {Q:VK} (hx:SqT K H a (xs.map V.int)) (hy:SqT K H c (ys.map V.int)) (h:Q (.bl (decide (xs=ys))) H):rEqB K (.ref a) (.ref c) H Q:=.inr ⟨a,c,xs,ys,rfl,rfl,hx,hy,h⟩
end
end L2
namespace L2
open PySem
inductive Dw:Dt->Prop where
 | flat (v:V):Dw (.flat v)
 | tup {ds:List Dt} (l:ds.length<=5000) (h:∀ d∈ds,Dw d):Dw (.tup ds)
 | lst {ds:List Dt} (l:ds.length<=5000) (h:∀ d∈ds,Dw d):Dw (.lst ds)
noncomputable def SameA (A:Addr->Prop) (H H':Hp):Prop:=SameT H H'/\∀ b xs,¬ A b->H b=some (.lst xs)->H' b=some (.lst xs)
theorem Same.a {A:Addr->Prop} {H H':Hp} (e:Same H H'):SameA A H H':=⟨e.t,fun b xs _ h=>e b _ h⟩
theorem SameA.refl (A:Addr->Prop) (H:Hp):SameA A H H:=⟨SameT.refl _,fun _ _ _ h=>h⟩
theorem SameA.trans {A:Addr->Prop} {H H1 H2:Hp} (a:SameA A H H1) (b:SameA A H1 H2):SameA A H H2:=⟨a.1.trans b.1,fun c xs n h=>b.2 c xs n (a.2 c xs n h)⟩
theorem SameA.set {A:Addr->Prop} {H:Hp} {S:Addr} {zs:List V} {o:HO} (h:H S=some (.lst zs)) (hA:A S):SameA A H (upd H S o):=⟨SameT.set h,fun b xs n e=>by rw [Af (fun z=>n (by rw [z]; exact hA))]; exact e⟩
theorem SameA.mono {A B:Addr->Prop} {H H':Hp} (e:SameA A H H') (h:∀ b,A b->B b):SameA B H H':=⟨e.1,fun b xs n=>e.2 b xs fun a=>n (h b a)⟩
noncomputable def ThAt (K:O7) (H:Hp) (v:V) (x:Str×V):Prop:=Cu x.2=true/\∃ a,v=.ref a/\SqT K H a [.str x.1,x.2]
theorem ThAt.same {K:O7} {H H':Hp} (e:SameT H H') (v:V) (x:Str×V) (h:ThAt K H v x):ThAt K H' v x:=by
 obtain ⟨f,a,r,q⟩:=h
 exact ⟨f,a,r,e.tup q⟩
noncomputable def PrAt (K:O7) (H:Hp) (v:V) (x:Str×Str×V):Prop:=∃ (a:Addr) (u:V),v=.ref a/\SqT K H a [.str x.1,u]/\ThAt K H u x.2
theorem PrAt.same {K:O7} {H H':Hp} (e:SameT H H') (v:V) (x:Str×Str×V) (h:PrAt K H v x):PrAt K H' v x:=by
 obtain ⟨a,u,r,q,t⟩:=h
 exact ⟨a,u,r,e.tup q,t.same e⟩
structure Rx where
 wd:Str
 pl:List Int
 ops:List (Str×V)
 ar:List (Str×Str×V)
noncomputable def RwAt (K:O7) (A:Addr->Prop) (H:Hp) (v:V) (x:Rx):Prop:=∃ (a p o e:Addr) (ov ev:List V),v=.ref a/\SqT K H a [.str x.wd,.ref p,.ref o,.ref e]/\SqT K H p (x.pl.map V.int)/\H o=some (.lst ov)/\Al (ThAt K H) ov x.ops/\H e=some (.lst ev)/\Al (PrAt K H) ev x.ar/\¬ A o/\¬ A e
theorem RwAt.same {K:O7} {A:Addr->Prop} {H H':Hp} (s:SameA A H H') (v:V) (x:Rx) (h:RwAt K A H v x):RwAt K A H' v x:=by
 obtain ⟨a,p,o,e,ov,ev,h1,h2,h3,h4,h5,h6,h7,h8,h9⟩:=h
 exact ⟨a,p,o,e,ov,ev,h1,s.1.tup h2,s.1.tup h3,s.2 _ _ h8 h4,h5.mono (ThAt.same s.1),s.2 _ _ h9 h6,h7.mono (PrAt.same s.1),h8,h9⟩
theorem RwAt.mono {K:O7} {A B:Addr->Prop} {H:Hp} (s:∀ b,B b->H b≠none->A b) (v:V) (x:Rx) (h:RwAt K A H v x):RwAt K B H v x:=by
 obtain ⟨a,p,o,e,ov,ev,h1,h2,h3,h4,h5,h6,h7,h8,h9⟩:=h
 exact ⟨a,p,o,e,ov,ev,h1,h2,h3,h4,h5,h6,h7,fun b=>h8 (s o b (by rw [h4]; simp)),fun b=>h9 (s e b (by rw [h6]; simp))⟩
noncomputable def G6 (x:Str×V):Dt:=.tup [.flat (.str x.1),.flat x.2]
noncomputable def prD (x:Str×Str×V):Dt:=.tup [.flat (.str x.1),G6 x.2]
noncomputable def rzD (x:Rx):Dt:=.tup [.flat (.str x.wd),.tup (x.pl.map fun i=>.flat (.int i)),.lst (x.ops.map G6),.lst (x.ar.map prD)]
theorem ThAt.d {K:O7} {H:Hp} {v:V} {x:Str×V} (h:ThAt K H v x):IsD K H 1 v (G6 x):=by
 obtain ⟨f,a,rfl,q⟩:=h
 refine .tup q rfl fun j v d h1 h2=>?_
 match j,h1,h2 with
 | 0,h1,h2=>cases h1; cases h2; exact .flat rfl
 | 1,h1,h2=>cases h1; cases h2; exact .flat f
theorem PrAt.d {K:O7} {H:Hp} {v:V} {x:Str×Str×V} (h:PrAt K H v x):IsD K H 2 v (prD x):=by
 obtain ⟨a,u,rfl,q,t⟩:=h
 refine .tup q rfl fun j v d h1 h2=>?_
 match j,h1,h2 with
 | 0,h1,h2=>cases h1; cases h2; exact .flat rfl
 | 1,h1,h2=>cases h1; cases h2; exact t.d
theorem Al.lstD {K:O7} {H:Hp} {α:Type} {R:V->α->Prop} {g:α->Dt} {n:Nat} {a:Addr} {vs:List V} {xs:List α} (al:Al R vs xs) (e:SqL K H a vs) (h:∀ v x,R v x->IsD K H n v (g x)):IsD K H (n + 1) (.ref a) (.lst (xs.map g)):=by
 refine .lst e (by rw [Pi]; exact al.1) fun j v d h1 h2=>?_
 rw [Qn] at h2
 obtain ⟨r,hr,rfl⟩:=Sa.mp h2
 exact h v r (al.2 j v r h1 hr)
theorem Zol {K:O7} {H:Hp} {n:Nat} {p:Addr} {pl:List Int} (q:SqT K H p (pl.map V.int)):IsD K H (n + 1) (.ref p) (.tup (pl.map fun i=>.flat (.int i))):=by
 refine .tup q (by simp) fun j v d h1 h2=>?_
 rw [Qn] at h1 h2
 obtain ⟨k,hk,rfl⟩:=Sa.mp h1
 rw [hk] at h2
 cases h2
 exact .flat rfl
theorem RwAt.d {K:O7} {A:Addr->Prop} {H:Hp} {v:V} {x:Rx} (h:RwAt K A H v x):IsD K H 4 v (rzD x):=by
 obtain ⟨a,p,o,e,ov,ev,rfl,h2,h3,h4,h5,h6,h7,_,_⟩:=h
 refine .tup h2 rfl fun j v d f1 f2=>?_
 match j,f1,f2 with
 | 0,h1,h2=>cases h1; cases h2; exact .flat rfl
 | 1,h1,h2=>cases h1; cases h2; exact Zol h3
 | 2,h1,h2=>cases h1; cases h2; exact (h5.lstD (g:=G6) (SqL.of h4) fun _ _ t=>t.d).up (by omega)
 | 3,h1,h2=>cases h1; cases h2; exact h7.lstD (g:=prD) (SqL.of h6) fun _ _ t=>t.d
theorem Of (x:Str×V):Dw (G6 x):=.tup (by show 2<=5000; omega) fun d h=>by
 simp only [Pm,P9,or_false] at h
 rcases h with rfl | rfl
 ·exact .flat _
 ·exact .flat _
theorem Zlp (x:Str×Str×V):Dw (prD x):=.tup (by show 2<=5000; omega) fun d h=>by
 simp only [Pm,P9,or_false] at h
 rcases h with rfl | rfl
 ·exact .flat _
 ·exact Of _
theorem Nc {α:Type} {g:α->Dt} {xs:List α} (l:xs.length<=5000) (h:∀ x∈xs,Dw (g x)):Dw (.lst (xs.map g)):=.lst (by rw [Pi]; exact l) fun d hd=>by
 obtain ⟨x,hx,rfl⟩:=List.mem_map.mp hd
 exact h x hx
structure Rx.Ok (x:Rx):Prop where
 pl:x.pl.length<=5000
 ops:x.ops.length<=5000
 ar:x.ar.length<=5000
theorem Zsk {x:Rx} (h:x.Ok):Dw (rzD x):=.tup (by show 4<=5000; omega) fun d hd=>by
 simp only [Pm,P9,or_false] at hd
 rcases hd with rfl | rfl | rfl | rfl
 ·exact .flat _
 ·refine .tup (by rw [Pi]; exact h.pl) fun d hd=>?_
  obtain ⟨x,hx,rfl⟩:=List.mem_map.mp hd
  exact .flat _
 ·exact Nc h.ops fun x _=>Of x
 ·exact Nc h.ar fun x _=>Zlp x
section
variable {g:TG} {tt:TT} {te:TE} {σ0:St} {H1:Hp} {D:Addr} {Q:VK}
end
end L2
namespace L2
open PySem PySem.Spec PyProof.Rows
section
variable {X:Cx}
end
end L2
namespace L2
open PySem PySem.Spec PyProof.Rows
section
variable {prog:Program} {w:World} {A:Around} {E:Value->Shared->Prop} {s:Shared}
end
section
variable {X:Cx}
end
section
variable {g:TG} {tt:TT} {te:TE} {σ0:St} {H1:Hp} {D:Addr} {Q:VK}
end
end L2
namespace L2
open PySem PySem.Spec PyProof.Rows
theorem via {t:TS} {X:St->Hp->Prop} {rt:VK} {bk ct:St->Hp->Prop} {σ:St} {H:Hp} (R:Hp->Prop) (h2:∀ H',R H'->X σ H') (h1:∀ Y:St->Hp->Prop,(∀ H',R H'->Y σ H')->t ⟨Y,rt,bk,ct⟩ σ H):t ⟨X,rt,bk,ct⟩ σ H:=h1 X h2
section
variable {X:Cx}
end
end L2
namespace L2
open PySem PySem.Spec PyProof.Rows
section
variable {X:Cx}
end
end L2
namespace L2
open PySem PySem.Spec PyProof.Rows
section
variable {X:Cx}
open PySem.Builtin PySem.Builtin.Str in
end
end L2
namespace L2
open PySem PySem.Spec PyProof.Rows
section
variable {prog:Program} {w:World} {A:Around} {E:Value->Shared->Prop} {s:Shared}
end
section
variable {X:Cx}
end
section
variable {X:Cx} {k:Nat} {x:Str} {ps:List Str} {sp:Sp} {p pos:Pos}
end
end L2
namespace L2
open PySem PySem.Spec PyProof.Rows
structure Ck (CX:B7) (P:Program) (w:World) (K:O7) (mg:Str->Option Value) (base:Heap) (k:Nat) (C:Addr) (m:Str) (ps:List Str) (sp:Sp):Prop where
 ex:∃ (g:Addr) (fd:FuncData),FnOk P w K mg base CX k g fd ps sp/\Cls K C/\Meth K C m g/\Binds K fd ps []
structure Oj (CX:B7) (P:Program) (w:World) (K:O7) (mg:Str->Option Value) (base:Heap) (k:Nat) (x:Str) (C:Addr) (ps:List Str) (sp:Sp):Prop where
 ex:∃ (f:Addr) (fd:FuncData),FnOk P w K mg base CX k f fd ps sp/\Mk K C f/\mg x=some (.ref C)/\Binds K fd ps []
noncomputable def Zg8 (CX:B7) (P:Program) (w:World) (K:O7) (mg:Str->Option Value) (base:Heap) (k:Nat) (m:Str) (ps:List Str) (E:XK) (ta:TE) (t:TA):TE:=fun σ H Q=>ta σ H fun x H1=>∃ a C dx fs sp,x=.ref a/\H1 a=some (.ins C dx fs)/\fs.lookup m=none/\Ck CX P w K mg base k C m ps sp /\
 t σ H1 fun vs H2=>sp (.ref a :: vs) H2 Q E
noncomputable def tNew (C:Addr) (sp:Sp) (E:XK) (t:TA):TE:=fun σ H Q=>t σ H fun vs H1=>∀ x dx,H1 x=none->H1 dx=none->dx≠x->sp (.ref x :: vs) (upd (upd H1 dx (.own x)) x (.ins C dx [])) (fun v H2=>v=.non/\Q (.ref x) H2) E
section
variable {X:Cx} {k:Nat} {x m:Str} {ps:List Str} {sp:Sp} {E:XK} {C:Addr} {p pos apos:Pos} {e o:Expr} {es:List Expr} {ta:TE} {t:TA} {CX:B7} {P:Program} {w:World} {mg:Str->Option Value} {base:Heap}
theorem C7 (K:O7) (CX:B7) (ps:List Str) {pl:Sem Bool} (he:QE X o ta) (hr:Room k X.A) (hx:E9 CX X E) (ha:QA X (e :: es) t) (hP:X.prog=P:=by rfl) (hw:X.w=w:=by rfl) (hK:X.K=K:=by rfl) (hmg:X.mg=mg:=by rfl) (hbs:X.base=base:=by rfl)
  (hst:starEach (e :: es) X.env=(false,eval e X.env) :: starEach es X.env:=by rfl) (hpl:(backTo pos (starEach es X.env)).any (·.1)=false:=by rfl)
  (ht:eval (.Call (.Attribute o m apos) (e :: es) [] pos) X.env=(do
   let ov <- eval o X.env
   standAt apos.atName
   let (f,first) <- holding [ov] (getMethod ov m pl)
   callWith pos f first (backTo pos (starEach (e :: es) X.env)) (backToKw pos (keywordEach [] X.env))):=by rfl) :
  QE X (.Call (.Attribute o m apos) (e :: es) [] pos) (Zg8 CX P w K mg base k m ps E ta t):=by
 subst hP hw hK hmg hbs
 refine ⟨fun pins s σ H Q I h=>?_⟩
 refine PySem.W.methodCall_KW (pl:=pl) (Am (he.run pins s σ H _ I h) fun u s1 ⟨x,H1,I1,rx,a,C,dx,fs,sp,ex,ea,l,M,q⟩=>?_) ht
 obtain ⟨g,fd,F,c,hm,hb⟩:=M.ex
 subst ex
 obtain rfl:u=Value.ref a:=rx
 refine Zdy I1 ea c hm l ?_
 refine Uj (first:=[.ref a]) (h₀:=X.base) I.ok.mod.kin hm.kp (Am (ha.run pos pins s1 σ H1 _ I1 q) fun us s2 ⟨vs,H2,I2,r,q2⟩=>⟨I2.kIn,?_⟩) hst hpl
 exact Zbq (us:=.ref a :: us) (vs:=.ref a :: vs) (dvs:=[]) F hr hb .nil hx I2 (.cons rfl r) (by rw [P5]; exact q2)
theorem Zop (M:Oj CX X.prog X.w X.K X.mg X.base k x C ps sp) (hr:Room (k + 1) X.A) (hx:E9 CX X E) (ha:QA X (e :: es) t) (hg:Gl X x:=by rfl) (hdb:(x == ("__debug__" : Str))=false:=by decide)
  (he:starEach (e :: es) X.env=(false,eval e X.env) :: starEach es X.env:=by rfl) (hpl:(backTo pos (starEach es X.env)).any (·.1)=false:=by rfl):QE X (.Call (.Name x p) (e :: es) [] pos) (tNew C sp E t):=by
 obtain ⟨f,fd,F,mk,hm,hb⟩:=M.ex
 refine ⟨fun pins s σ H Q I h=>?_⟩
 refine S9 (Hw I hg hm ?_ hdb)
 refine Uj (h₀:=X.base) I.ok.mod.kin mk.kp (Am (ha.run pos pins s σ H _ I h) fun us s1 ⟨vs,H1,I1,r,q⟩=>⟨I1.kIn,?_⟩) he hpl
 exact Znv (dvs:=[]) mk F hr hb .nil hx I1 r (fun x dx h1 h2 h3=>by rw [P5]; exact q x dx h1 h2 h3)
end
end L2
namespace L2
open PySem PySem.Spec PyProof.Rows
section
variable {X:Cx} {e o value:Expr} {f:Str} {pos pos':Pos} {ta tv:TE} {pins:List (Addr×Obj)} {σ:St} {H:Hp} {s:Shared}
theorem Bt (K:O7) (he:QE X e ta) (hb:attributeBase e f X.env (eval e X.env)=eval e X.env:=by rfl) (hK:X.K=K:=by rfl):QE X (.Attribute e f pos) (Zbb K ta f):=by subst hK; exact Zm8 he hb
theorem Ih (K:O7) (ha:QE X o ta) (hv:QE X value tv) (hs:swapsWith value (some (.Attribute o f pos')) pos.line X.env=pure false:=by rfl) (hK:X.K=K:=by rfl):QS X (.Assign [.Attribute o f pos'] value pos) (L6 K ta tv f):=by subst hK; exact Zln ha hv hs
end
end L2
namespace L2
open PySem PySem.Spec PyProof.Rows
section
variable {X:Cx} {pins:List (Addr×Obj)} {σ:St} {H:Hp} {s:Shared}
end
end L2
namespace L2
open PySem PySem.Spec PyProof.Rows
section
variable {P:Program} {w:World} {K:O7} {mg:Str->Option Value} {base:Heap}
end
section
variable {X:Cx} {k:Nat} {x:Str} {ps ks:List Str} {gV:List V->List V->List V} {sp:Sp} {E:XK} {C:Addr} {p pos kpos:Pos} {e:Expr} {es:List Expr} {kws:List Keyword} {te:TE} {t tk:TA} {CX:B7} {nm:Option Str} {f:Addr} {fd:FuncData} {g:List Value->List Value->List Value}
end
end L2
namespace L2
open PySem PySem.Spec PyProof.Rows
section
variable {X:Cx} {pins:List (Addr×Obj)} {σ:St} {H:Hp} {s:Shared}
end
end L2
namespace L2
open PySem PySem.Spec PyProof.Rows
section
variable {κ:Type} [DecidableEq κ]
noncomputable def Bx (kvs:List (κ×V)) (k:κ):Option V:=(kvs.find? fun kv=>decide (kv.1=k)).map (·.2)
noncomputable def C0 (kvs:List (κ×V)) (k:κ) (v:V):List (κ×V) :=
 if (kvs.any fun kv=>decide (kv.1=k))=true then kvs.map (fun kv=>if kv.1=k then (kv.1,v) else kv) else kvs++[(k,v)]
theorem Eh {p:κ×V} {r:List (κ×V)} {k:κ} (e:p.1=k):Bx (p :: r) k=some p.2:=by simp [Bx,Qv,e]
theorem Ed {p:κ×V} {r:List (κ×V)} {k:κ} (e:¬ p.1=k):Bx (p :: r) k=Bx r k:=by simp [Bx,Qv,e]
theorem L7 (k:κ):∀ kvs:List (κ×V),(kvs.any fun kv=>decide (kv.1=k))=(Bx kvs k).isSome
 | []=>rfl
 | p :: r=>by
  rw [To]
  by_cases e:p.1=k
  ·simp only [Eh e,decide_eq_true e,Bool.true_or,Option.isSome_some]
  ·rw [Ed e,decide_eq_false e,Bool.false_or]; exact L7 k r
theorem Zfa (k j:κ) (y:V):∀ kvs:List (κ×V),Bx (kvs.map fun kv=>if kv.1=k then (kv.1,y) else kv) j=(Bx kvs j).map fun x=>if j=k then y else x
 | []=>rfl
 | p :: r=>by
  have ih:=Zfa k j y r
  rw [Qq]
  by_cases h:p.1=k
  ·rw [if_pos h]
   by_cases e:p.1=j
   ·rw [Eh (p:=(p.1,y)) e,Eh e,Ti,if_pos (e.symm.trans h)]
   ·rw [Ed (p:=(p.1,y)) e,Ed e,ih]
  ·rw [if_neg h]
   by_cases e:p.1=j
   ·rw [Eh (p:=p) e,Eh e,Ti,if_neg (fun z=>h (e.trans z))]
   ·rw [Ed (p:=p) e,Ed e,ih]
theorem Zf8 (k j:κ) (y:V):∀ kvs:List (κ×V),Bx kvs k=none->Bx (kvs++[(k,y)]) j=if j=k then some y else Bx kvs j
 | [],_=>by
  by_cases e:k=j
  ·rw [if_pos e.symm]; exact Eh (p:=(k,y)) e
  ·rw [if_neg (fun z=>e z.symm)]; exact Ed (p:=(k,y)) e
 | p :: r,hn=>by
  rw [Sg]
  have hk:¬ p.1=k:=fun z=>by rw [Eh z] at hn; cases hn
  rw [Ed hk] at hn
  have ih:=Zf8 k j y r hn
  by_cases e:p.1=j
  ·rw [Eh e,Eh e,if_neg (fun z=>hk (e.trans z))]
  ·rw [Ed e,Ed e,ih]
theorem Zj3 (kvs:List (κ×V)) (k j:κ) (y:V):Bx (C0 kvs k y) j=if j=k then some y else Bx kvs j:=by
 unfold C0
 by_cases a:(kvs.any fun kv=>decide (kv.1=k))=true
 ·rw [if_pos a,Zfa]
  rw [L7] at a
  by_cases e:j=k
  ·obtain ⟨x,hx⟩:=Su.mp a
   rw [if_pos e,e,hx,Ti,if_pos rfl]
  ·rw [if_neg e]
   cases Bx kvs j with
   | none=>rfl
   | some x=>rw [Ti,if_neg e]
 ·rw [if_neg a]
  refine Zf8 k j y kvs ?_
  rw [L7] at a
  cases q:Bx kvs k with
  | none=>rfl
  | some x=>rw [q] at a; exact (a rfl).elim
theorem O5 (kvs:List (κ×V)) (k:κ) (v:V):(C0 kvs k v).length<=kvs.length + 1:=by
 unfold C0
 split
 ·rw [Pi]; omega
 ·rw [Pc,P8,Ut]; omega
theorem RelO.isSome_eq {o:Option V} {u:Option Value} (r:RelO o u):o.isSome=u.isSome:=by
 cases o with
 | none=>cases u with
  | none=>rfl
  | some _=>exact (show False from r).elim
 | some _=>cases u with
  | none=>exact (show False from r).elim
  | some _=>rfl
theorem KV.val {kvs:List (κ×V)} {vs:List (κ×Value)} (r:KV kvs vs) (k:κ):RelO (Bx kvs k) (valueAt vs k):=by
 unfold KV at r
 induction r with
 | nil=>exact True.intro
 | @cons p q ps qs h t ih =>
  obtain ⟨h1,h2⟩:=h
  by_cases e:p.1=k
  ·have e':q.1=k:=h1.symm.trans e
   have b:valueAt (q :: qs) k=some q.2:=by simp [valueAt,Qv,e']
   rw [Eh e,b]; exact h2
  ·have e':¬ q.1=k:=fun z=>e (h1.trans z)
   have b:valueAt (q :: qs) k=valueAt qs k:=by simp [valueAt,Qv,e']
   rw [Ed e,b]; exact ih
theorem KV.any {kvs:List (κ×V)} {vs:List (κ×Value)} (r:KV kvs vs) (k:κ):(kvs.any fun kv=>decide (kv.1=k))=vs.any fun kv=>decide (kv.1=k):=by
 unfold KV at r
 induction r with
 | nil=>rfl
 | cons h t ih=>rw [To,To,ih,h.1]
theorem KV.repl {kvs:List (κ×V)} {vs:List (κ×Value)} (r:KV kvs vs) (k:κ) {y:V} {u:Value} (ry:RelV y u) :
  KV (kvs.map fun kv=>if kv.1=k then (kv.1,y) else kv) (vs.map fun kv=>if kv.1=k then (kv.1,u) else kv):=by
 unfold KV at r ⊢
 induction r with
 | nil=>exact .nil
 | @cons p q ps qs h t ih =>
  rw [Qq,Qq]
  refine .cons ?_ ih
  obtain ⟨h1,h2⟩:=h
  by_cases e:p.1=k
  ·rw [if_pos e,if_pos (h1.symm.trans e)]; exact ⟨h1,ry⟩
  ·rw [if_neg e,if_neg (fun z=>e (h1.trans z))]; exact ⟨h1,h2⟩
theorem KV.put {kvs:List (κ×V)} {vs:List (κ×Value)} (r:KV kvs vs) (k:κ) {y:V} {u:Value} (ry:RelV y u):KV (C0 kvs k y) (stored vs k u):=by
 unfold C0 stored
 rw [r.any k]
 by_cases e:(vs.any fun kv=>decide (kv.1=k))=true
 ·rw [if_pos e,if_pos e]; exact r.repl k ry
 ·rw [if_neg e,if_neg e]; exact Paired.snoc r ⟨rfl,ry⟩
theorem KV.length {kvs:List (κ×V)} {vs:List (κ×Value)} (r:KV kvs vs):kvs.length=vs.length:=Ux r
end
theorem Ln {P:Program} {w:World} {k:Ao} {u:Value} (r:RelV (kV k) u):(Di P w).is k u=true:=by
 cases k with
 | inl i=>obtain ⟨t,e⟩:=(show ∃ t,u=Value.int i t from r); subst e; exact Zp3 P w i t
 | inr x=>obtain ⟨t,e⟩:=(show ∃ t,u=Value.str x t from r); subst e; exact Zkb P w x t
theorem Zhg {P:Program} {w:World}:∀ {ks:List Ao} {us:List Value},Vals (ks.map kV) us->ItemsAre (Di P w) ks us
 | [],_,r=>by rw [List.map_nil] at r; cases r; exact .nil
 | k :: ks,_,r=>by
  rw [Qq] at r
  cases r with
  | cons h t=>exact .cons (Ln h) (Zhg t)
noncomputable abbrev KT (H:Hp):List (List Ao×V)->List (List Ao×Addr×Value)->Prop:=Paired fun p q=>p.1=q.1/\H q.2.1=some (.tup (p.1.map kV))/\RelV p.2 q.2.2
theorem KT.val {H:Hp} {kvs:List (List Ao×V)} {xs:List (List Ao×Addr×Value)} (r:KT H kvs xs) (k:List Ao):RelO (Bx kvs k) ((atKey xs k).map (·.2)):=by
 induction r with
 | nil=>exact True.intro
 | @cons p q ps qs h t ih =>
  obtain ⟨h1,_,h2⟩:=h
  by_cases e:p.1=k
  ·have e':q.1=k:=h1.symm.trans e
   have b:atKey (q :: qs) k=some q.2:=by simp [atKey,Qv,e']
   rw [Eh e,b]; exact h2
  ·have e':¬ q.1=k:=fun z=>e (h1.trans z)
   have b:atKey (q :: qs) k=atKey qs k:=by simp [atKey,Qv,e']
   rw [Ed e,b]; exact ih
theorem KT.repl {H:Hp} {kvs:List (List Ao×V)} {xs:List (List Ao×Addr×Value)} (r:KT H kvs xs) (k:List Ao) {y:V} {u:Value} (ry:RelV y u) :
  KT H (kvs.map fun kv=>if kv.1=k then (kv.1,y) else kv) (xs.map (putAt k u)):=by
 induction r with
 | nil=>exact .nil
 | @cons p q ps qs h t ih =>
  rw [Qq,Qq]
  refine .cons ?_ ih
  obtain ⟨h1,h2,h3⟩:=h
  unfold putAt
  by_cases e:p.1=k
  ·rw [if_pos e,if_pos (h1.symm.trans e)]; exact ⟨h1,h2,ry⟩
  ·rw [if_neg e,if_neg (fun z=>e (h1.trans z))]; exact ⟨h1,h2,h3⟩
theorem KT.put {H:Hp} {kvs:List (List Ao×V)} {xs:List (List Ao×Addr×Value)} (r:KT H kvs xs) (k:List Ao) {b:Addr} {y:V} {u:Value} (hb:H b=some (.tup (k.map kV))) (ry:RelV y u) :
  KT H (C0 kvs k y) (storedH xs k b u):=by
 have e:(kvs.any fun kv=>decide (kv.1=k))=(atKey xs k).isSome:=by
  rw [L7,(r.val k).isSome_eq,Option.isSome_map]
 unfold C0 storedH
 rw [e]
 by_cases q:(atKey xs k).isSome=true
 ·rw [if_pos q,if_pos q]; exact r.repl k ry
 ·rw [if_neg q,if_neg q]; exact Paired.snoc r ⟨rfl,hb,ry⟩
theorem KT.keeps {H H':Hp} {kvs:List (List Ao×V)} {xs:List (List Ao×Addr×Value)} (r:KT H kvs xs) (ht:∀ b ys,H b=some (.tup ys)->H' b=some (.tup ys)):KT H' kvs xs :=
 Paired.mapP r fun _ _ z=>⟨z.1,ht _ _ z.2.1,z.2.2⟩
section
variable {P:Program} {w:World} {H:Hp} {h:Heap} {a:Addr}
theorem Zfq {u:HO} (ok:HOk P w H h) (e:Rd H a u):ObjOk P w H h a u:=e.ok ok
theorem Lk {kvs:List (Ao×V)} (ok:HOk P w H h) (e:Rd H a (.dK kvs)):kvs.length<=sizeLine/\(a == sysModules)=false/\∃ vs,KV kvs vs/\h.DictOf (Di P w) a vs :=
 show ObjOk P w H h a (.dK kvs) from Zfq ok e
theorem Zoy {kvs:List (Ao×V)} (ok:HOk P w H h) (e:H a=some (.dK kvs)):kvs.length<=sizeLine/\(a == sysModules)=false/\∃ vs,KV kvs vs/\h.DictOf (Di P w) a vs:=Lk ok (.inl e)
theorem Mh {ks:List Ao} (ok:HOk P w H h) (e:H a=some (.tup (ks.map kV))):(tupleKind (Di P w)).is h ks a:=by
 obtain ⟨_,its,r,o,h1,h2,n,h3⟩:=(show ObjOk P w H h a (.tup (ks.map kV)) from ok a _ e)
 exact ⟨o,its.toArray,n,h1,h2,h3,by simpa using Zhg r⟩
theorem Lo {kvs:List (List Ao×V)} (ok:HOk P w H h) (e:Rd H a (.dT kvs)):kvs.length<=sizeLine/\(a == sysModules)=false /\
  ∃ xs,KT H kvs xs/\h.DictOfH (tupleKind (Di P w)) a xs:=by
 obtain ⟨z,y,xs,r,o,es,ep,h1,h2,h3,h4,h5⟩:=(show ObjOk P w H h a (.dT kvs) from Zfq ok e)
 refine ⟨z,y,xs,r,o,es,ep,h1,h2,h3,h4,fun x hx=>?_,h5⟩
 have all:∀ {l:List (List Ao×V)} {m:List (List Ao×Addr×Value)},KT H l m->∀ x∈m,(tupleKind (Di P w)).is h x.1 x.2.1:=by
  intro l m q
  induction q with
  | nil=>intro x hx; exact nomatch hx
  | @cons p q ps qs hq t ih =>
   intro x hx
   rcases Pm.mp hx with e | hx
   ·subst e
    exact Mh ok (by rw [<- hq.1]; exact hq.2.1)
   ·exact ih x hx
 exact all r x hx
theorem Zpz {kvs:List (List Ao×V)} (ok:HOk P w H h) (e:H a=some (.dT kvs)):kvs.length<=sizeLine/\(a == sysModules)=false /\
  ∃ xs,KT H kvs xs/\h.DictOfH (tupleKind (Di P w)) a xs:=Lo ok (.inl e)
end
noncomputable def DGet (H:Hp) (a:Addr) (y:V) (r:Option V):Prop :=
 (∃ kvs k,Rd H a (.dK kvs)/\y=kV k/\r=Bx kvs k)\/∃ kvs k b,Rd H a (.dT kvs)/\y=.ref b/\H b=some (.tup (k.map kV))/\r=Bx kvs k
noncomputable def DPut (H:Hp) (a:Addr) (y v:V) (H':Hp):Prop :=
 (∃ kvs k,H a=some (.dK kvs)/\y=kV k/\kvs.length < sizeLine/\H'=upd H a (.dK (C0 kvs k v))) \/
 ∃ kvs k b,H a=some (.dT kvs)/\y=.ref b/\H b=some (.tup (k.map kV))/\kvs.length < sizeLine/\H'=upd H a (.dT (C0 kvs k v))
theorem DGet.k {H:Hp} {a:Addr} {kvs:List (Ao×V)} {k:Ao} (e:H a=some (.dK kvs)):DGet H a (kV k) (Bx kvs k):=.inl ⟨kvs,k,.inl e,rfl,rfl⟩
theorem DGet.t {H:Hp} {a b:Addr} {kvs:List (List Ao×V)} {k:List Ao} (e:H a=some (.dT kvs)) (eb:H b=some (.tup (k.map kV))):DGet H a (.ref b) (Bx kvs k):=.inr ⟨kvs,k,b,.inl e,rfl,eb,rfl⟩
theorem DPut.k {H:Hp} {a:Addr} {kvs:List (Ao×V)} {k:Ao} {v:V} (e:H a=some (.dK kvs)) (hl:kvs.length < sizeLine):DPut H a (kV k) v (upd H a (.dK (C0 kvs k v))):=.inl ⟨kvs,k,e,rfl,hl,rfl⟩
theorem DPut.t {H:Hp} {a b:Addr} {kvs:List (List Ao×V)} {k:List Ao} {v:V} (e:H a=some (.dT kvs)) (eb:H b=some (.tup (k.map kV))) (hl:kvs.length < sizeLine) :
  DPut H a (.ref b) v (upd H a (.dT (C0 kvs k v))):=.inr ⟨kvs,k,b,e,rfl,eb,hl,rfl⟩
section
variable {X:Cx} {pins:List (Addr×Obj)} {σ:St} {H:Hp} {s:Shared} {a:Addr} {y v:V} {u r:Value} {o:Option V} {A:Around} {E:Value->Shared->Prop}
theorem Inv.big (I:Inv X pins σ H s):sysModules < s.heap.objs.size:=by
 have h:mainGlobals < s.heap.objs.size:=(I.mod.glob.keeps I.bk).lt
 exact Nat.lt_trans (by decide) h
theorem Znk {Q:Value->Shared->Prop} (hu:A.units + 1 < cLine) (I:Inv X pins σ H s) (g:DGet H a y (some v)) (ry:RelV y u) (h:∀ w' s',Inv X pins σ H s'->RelV v w'->Q w' s') :
  wpAny (model X.prog X.w) A (getItem (.ref a) u) Q E s:=by
 rcases g with ⟨kvs,k,e,ey,l⟩ | ⟨kvs,k,b,e,ey,eb,l⟩
 ·subst ey
  obtain ⟨z,hd,vs,rel,dd⟩:=Lk I.hok e
  obtain ⟨w',hw,rw'⟩:=RelO.some_of (v:=v) (o:=valueAt vs k) (by rw [l]; exact rel.val k)
  exact wpAny_getItem_of (Ln ry) dd.mapOf hw (h w' _ (I.tok _) rw')
 ·subst ey
  cases (show u=Value.ref b from ry)
  obtain ⟨z,hd,xs,rel,dd⟩:=Lo I.hok e
  obtain ⟨w',hw,rw'⟩:=RelO.some_of (v:=v) (o:=(atKey xs k).map (·.2)) (by rw [l]; exact rel.val k)
  obtain ⟨p,hp,hp2⟩:=Sa.mp hw
  refine wpAny_getItem_heap (tupleKind_room_in1 hu) (Mh I.hok eb) dd hp ?_
  rw [hp2]
  exact h w' _ (I.tok _) rw'
theorem d_in {Q:Value->Shared->Prop} (hu:A.units + 1 < cLine) (I:Inv X pins σ H s) (g:DGet H a y o) (ry:RelV y u) (h:∀ s',Inv X pins σ H s'->Q (.bool o.isSome) s') :
  wpAny (model X.prog X.w) A (compareOp .In u (.ref a)) Q E s:=by
 rcases g with ⟨kvs,k,e,ey,l⟩ | ⟨kvs,k,b,e,ey,eb,l⟩
 ·subst ey
  obtain ⟨z,hd,vs,rel,dd⟩:=Lk I.hok e
  refine wpAny_in_of (Ln ry) hd dd.mapOf ?_
  rw [<- (rel.val k).isSome_eq,<- l]
  exact h _ (I.tok _)
 ·subst ey
  cases (show u=Value.ref b from ry)
  obtain ⟨z,hd,xs,rel,dd⟩:=Lo I.hok e
  refine wpAny_in_heap (tupleKind_room_in1 hu) (Mh I.hok eb) hd dd ?_
  have q:=(rel.val k).isSome_eq
  rw [Option.isSome_map] at q
  rw [<- q,<- l]
  exact h _ (I.tok _)
theorem Zdd {h':Heap} {t':Nat} {ob:HO} (I:Inv X pins σ H s) (mu:Mut (H a)) (hs:Pq a s.heap h') (he:∃ q,h'.get? a=some q) (new:ObjOk X.prog X.w (upd H a ob) h' a ob) :
  Inv X pins σ (upd H a ob) { s with heap:=h',toks:=t' } :=
 I.write (x:=a) (e:=a) mu (.inl rfl) (fun b q hb z=>(hs.2 b hb).trans z) he new
theorem Zsr {P:Program} {w:World} {H':Hp} {h':Heap} {kvs:List (Ao×V)} {vs:List (Ao×Value)} (z:kvs.length<=sizeLine) (hd:(a == sysModules)=false) (rel:KV kvs vs) (dd:h'.DictOf (Di P w) a vs) :
  ObjOk P w H' h' a (.dK kvs):=⟨z,hd,vs,rel,dd⟩
end
section
variable {X:Cx} {pins:List (Addr×Obj)} {σ:St} {H:Hp} {s:Shared} {a:Addr} {kvs:List (Ao×V)} {k:Ao} {u:Value} {A:Around} {E:Value->Shared->Prop}
end
noncomputable def Oa (i:Expr):Prop:=∀ ov iv,subscripted i false ov iv=operate [ov,iv] (getItem ov iv)
theorem Zk8 {prog:Program} {w:World} {A:Around} {E:Value->Shared->Prop} {s:Shared} {env:Env} {value slice:Expr} {pos:Pos} {T id:String} {Q:Value->Shared->Prop}
  (hl:typeLookup (.type T) "__getitem__" = pure (some (.builtin id))) (hs:Oa slice)
  (h:wpAny (model prog w) A (eval value env) (fun o s₁=>wpAny (model prog w) A (eval slice env) (fun i s₂=>s₂.TypeIs o T/\wpAny (model prog w) A (getItem o i) Q E s₂) E s₁) E s) :
  wpAny (model prog w) A (eval (.Subscript value slice pos) env) Q E s:=by
 refine Subscript_ (Q9 h (fun o s₁ h₁=>Q9 h₁ (fun i s₂ h₂=>?_) fun _ _ x=>x) fun _ _ x=>x)
 obtain ⟨hT,h₂⟩:=h₂
 unfold subscriptTail
 refine O8 ?_
 rw [getitemInPython_of_ne hT.not_modules]
 refine O8 (V5 hT hl ?_)
 have fin:wpAny (model prog w) A (subscripted slice false o i) (fun r s₃=>wpAny (model prog w) A (letTemporaryGo value o r >>= fun _=>pure r) Q E s₃) E s₂:=by
  rw [hs o i]
  exact wpAny_operating (Q9 h₂ (fun r s₃ h₃=>O8 (wpAny_letTemporaryGo (O9 h₃))) fun _ _ x=>x)
 first
  | exact O9 (O8 fin)
  | exact O8 (O9 (O8 fin))
  | exact O8 fin
theorem Zsy {X:Cx} {pins:List (Addr×Obj)} {σ:St} {H:Hp} {s:Shared} {a:Addr} {y:V} {o:Option V} (I:Inv X pins σ H s) (g:DGet H a y o):s.TypeIs (.ref a) "dict" := by
 rcases g with ⟨kvs,k,e,_,_⟩ | ⟨kvs,k,b,e,_,_,_⟩
 ·obtain ⟨_,_,vs,_,dd⟩:=Lk I.hok e
  exact dd.typeIs
 ·obtain ⟨_,_,xs,_,dd⟩:=Lo I.hok e
  exact dd.typeIs
noncomputable def Zem (td ty:TE):TE:=fun σ H Q=>td σ H fun x H1=>ty σ H1 fun y H2=>∃ a v,x=.ref a/\DGet H2 a y (some v)/\Q v H2
noncomputable def tDIn (ty td:TE):TE:=fun σ H Q=>ty σ H fun y H1=>td σ H1 fun x H2=>∃ a o,x=.ref a/\DGet H2 a y o/\Q (.bl o.isSome) H2
section
variable {X:Cx} {o i e value:Expr} {pos pos' tpos:Pos} {td ty tv:TE}
theorem Zi3 (hu:X.A.units + 1 < cLine) (ho:PE X o td) (hi:PE X i ty) (hs:Oa i):PE X (.Subscript o i pos) (Zem td ty):=by
 intro pins s σ H Q I h
 refine Zk8 PySem.F.slot_dict_getitem.lookup hs (Am (ho pins s σ H _ I h) fun u s1 ⟨x,H1,I1,rx,q1⟩=>Am (hi pins s1 σ H1 _ I1 q1) fun iv s2 ⟨y,H2,I2,ry,a,v,ex,g,q2⟩=>?_)
 subst ex
 obtain rfl:u=Value.ref a:=rx
 exact ⟨Zsy I2 g,Znk hu I2 g ry fun w' s3 I3 rw'=>⟨v,H2,I3,rw',q2⟩⟩
theorem Zr8 (hu:X.A.units + 1 < cLine) (hi:PE X i ty) (ho:PE X o td):PC X .In i o (tDIn ty td):=by
 intro pins s σ H Q I h
 refine Am (hi pins s σ H _ I h) fun iv s1 ⟨y,H1,I1,ry,q1⟩=>Am (ho pins s1 σ H1 _ I1 q1) fun u s2 ⟨x,H2,I2,rx,a,ov,ex,g,q2⟩=>?_
 subst ex
 obtain rfl:u=Value.ref a:=rx
 exact d_in hu I2 g ry fun s3 I3=>⟨.bl ov.isSome,H2,I3,rfl,q2⟩
end
theorem Zsb {P:Program} {w:World} {H:Hp} (h:Heap) (hb:sysModules < h.objs.size):ObjOk P w H (h.push { cls:=.type "dict",data:=.dict #[] }) h.objs.size (.dK []) :=
 ⟨Pu _,beq_eq_false_iff_ne.mpr (Pg (Pl hb)),[],.nil,Heap.DictOf.new h⟩
theorem Zkj {P:Program} {w:World} {H:Hp} (h:Heap) (hb:sysModules < h.objs.size):ObjOk P w H (h.push { cls:=.type "dict",data:=.dict #[] }) h.objs.size (.dT []) :=
 ⟨Pu _,beq_eq_false_iff_ne.mpr (Pg (Pl hb)),[],.nil,_,#[],0,Pp _ rfl,⟨rfl,rfl,rfl⟩,rfl,rfl,List.nodup_nil⟩
section
variable {X:Cx} {pos:Pos}
end
section
variable {X:Cx} {pins:List (Addr×Obj)} {σ:St} {H:Hp} {s:Shared} {a:Addr} {y d:V} {u r:Value} {o:Option V} {A:Around} {E:Value->Shared->Prop}
end
section
variable {X:Cx} {o e f:Expr} {apos cpos:Pos} {td ty tx:TE}
end
section
variable {X:Cx} {pins:List (Addr×Obj)} {σ:St} {H:Hp} {s:Shared} {a:Addr} {kvs:List (Ao×V)} {A:Around} {E:Value->Shared->Prop}
end
section
variable {X:Cx} {pins:List (Addr×Obj)} {σ:St} {H:Hp} {s:Shared} {a:Addr} {y:V} {u:Value} {A:Around} {E:Value->Shared->Prop}
end
end L2
namespace PySem
theorem Zrg:typeLookup (.type "list") "keys" = pure none:=by rw [Th,Sw]; kernel_rfl
theorem Zh9 {prog:Program} {w:World} {A:Around} {E:Value->Shared->Prop} {s:Shared} {a:Addr} {o:Obj} {xs:Array Value} {k:Nat} {name:Str} {Q:Option Value->Shared->Prop}
  (hx:s.heap.get? a=some o) (hc:o.cls=.type "list") (hdat:o.data=.seq xs k) (hd:o.dict=none) (hmiss:typeLookup (.type "list") name=pure none) (hname:(["__module__", "__name__", "__qualname__", "__doc__", "__annotations__"]:List Str).contains name=false) (hA:A.handled=none)
  (h:∀ h' tk,(∀ b ob,s.heap.get? b=some ob->h'.get? b=some ob)->Q none { s with heap:=h',toks:=tk }) (hsz:name.length + 100<=sizeLine:=by size_fits) :
  wpAny (model prog w) A (getAttr? (.ref a) name) Q E s:=by
 obtain ⟨c,dct,dat,sl⟩:=o
 simp only at hc hdat hd
 subst hc hdat hd
 obtain ⟨hp,g,d,tk,os⟩:=s
 have hT:∀ tk',(⟨hp,g,d,tk',os⟩:Shared).TypeIs (.ref a) "list" := fun _=>⟨_,hx,rfl⟩
 have f1:=sub_AttributeError
 have f3:=Ve.lookup
 have f4:=Ve.bind (.ref a)
 have f5:=am_list_getattr_none
 unfold getAttr? getAttrBy? getAttrBy
 repeat (any_goals (first | assumption | exact hT _ | ((with_reducible show wpAny _ _ (call (Value.builtin "list.__getattribute__") _ _) _ _ _); refine Sq Ve (hT _) am_entry_list_getattribute (F.args_list_getattribute_2 _ _) (meets_getattribute_miss_list a xs k sl name _ hmiss hname hsz) ⟨hx,hA,fun h' tk' e hx'=>?_⟩) | wp_step))
 obtain ⟨t',u',he⟩:=hx'.there
 unfold getattributeRaised
 repeat (any_goals (first | assumption | wp_step))
 exact h _ _ hx'.keeps
namespace F
theorem entry_dict_update_loop:entryFor table "dict.update.loop" = some Builtin.«dict.update.loop»:=entryFor_of_tree (by kernel_rfl)
theorem plain_dict_update_loop:plainId "dict.update.loop" = true:=by decide +kernel
end F
end PySem
namespace L2
open PySem PySem.Spec PyProof.Rows
section
variable {X:Cx} {pins:List (Addr×Obj)} {σ:St} {H:Hp} {s:Shared} {a:Addr} {y v:V} {u r:Value} {A:Around} {E:Value->Shared->Prop}
theorem Zkp {H':Hp} {Q:Unit->Shared->Prop} (hu:A.units < cLine) (I:Inv X pins σ H s) (g:DPut H a y v H') (ry:RelV y u) (rv:RelV v r) (h:∀ s',Inv X pins σ H' s'->Pq a s.heap s'.heap->Q () s') :
  wpAny (model X.prog X.w) A (dictSet a u r) Q E s:=by
 rcases g with ⟨kvs,k,e,ey,l,eH⟩ | ⟨kvs,k,b,e,ey,eb,l,eH⟩
 ·subst ey eH
  obtain ⟨z,hd,vs,rel,dd⟩:=Zoy I.hok e
  have hz:vs.length<=sizeLine:=by rw [<- rel.length]; exact z
  have hl:(C0 kvs k v).length<=sizeLine:=by have:=O5 kvs k v; omega
  refine wpAny_dictSet_pairs (hsz:=hz) (Ln ry) dd fun h' dd' hs=>h _ ?_ hs
  have he:∃ q,h'.get? a=some q:=let ⟨q,_,_,hq,_⟩:=dd'; ⟨q,hq⟩
  exact Zdd I (by rw [e]; exact True.intro) hs he (Zsr hl hd (rel.put k rv) dd')
 ·subst ey eH
  cases (show u=Value.ref b from ry)
  obtain ⟨z,hd,xs,rel,dd⟩:=Zpz I.hok e
  have hz:xs.length<=sizeLine:=by rw [<- Ux rel]; exact z
  have hl:(C0 kvs k v).length<=sizeLine:=by have:=O5 kvs k v; omega
  refine wpAny_dictSet_heap (hsz:=hz) hu (Mh I.hok eb) dd fun h' dd' hs=>h _ ?_ hs
  obtain ⟨q,es,ep,hq,h2,h3,h4,_,h5⟩:=dd'
  refine Zdd I (by rw [e]; exact True.intro) hs ⟨q,hq⟩ ⟨hl,hd,_,(rel.put k eb rv).keeps fun c ys ec=>?_,q,es,ep,hq,h2,h3,h4,h5⟩
  rw [Af (Dj ec e (fun z=>nomatch z))]
  exact ec
theorem Zr5 {R:Result->Shared->Prop} {p it d:Addr} {xs:List V} {Hs:Nat->Hp} {res:Value} (hh:A.handled=none) (hu:A.units + 1 < cLine) (hdi:d≠it) (hd:∀ i,i<=xs.length->SqL X.K (Hs i) p xs) (hf:∀ i,FpOk X pins (Hs i) it)
  (hs:∀ i x,xs[i]?=some x->∃ (c:Addr) (y v:V),x=.ref c/\SqT X.K (Hs i) c [y,v]/\DPut (Hs i) d y v (Hs (i + 1)))
  (fin:∀ s',Inv X pins σ (Hs xs.length) s'->R (.ok (.ret res)) s') :
  ∀ (k i:Nat) (s:Shared),xs.length - i=k->i<=xs.length->Inv X pins σ (Hs i) s->s.heap.IsListIter it p i ->
  codeAny (model X.prog X.w) A (.builtin "dict.update.loop" ⟨[.ref d,.ref it,rawInt i,res],[]⟩) R s:=by
 intro k
 induction k with
 | zero =>
  intro i s hk hi I st
  have hin:i=xs.length:=by omega
  subst hin
  obtain ⟨its,rv,pl,hz⟩:=I.list (hd _ hi)
  obtain ⟨f0,f1,f2,f3,f4,f5⟩:=hf xs.length
  have hl:=rv.length
  refine Sj PySem.F.entry_dict_update_loop ?_
  rw [Sb PySem.F.plain_dict_update_loop _]
  show wpAny _ A.in1 (pyNext (.ref it) >>= _) _ _ s
  refine O8 (wpAny_pyNext_list_end hh st pl.isList (by simp; omega) fun h' eb=>?_)
  have I':=I.turned (t':=s.toks) (fun b o hb e=>eb b o hb e) f0 f1 f3 f4 f5
  exact O8 (O9 (O9 (fin _ I')))
 | succ k ih =>
  intro i s hk hi I st
  have hlt:i < xs.length:=by omega
  obtain ⟨its,rv,pl,hz⟩:=I.list (hd _ hi)
  obtain ⟨c,y,v,ex,hc,hput⟩:=hs i _ (Pb hlt)
  obtain ⟨u,hu',ru⟩:=rv.get (Pb hlt)
  rw [ex] at ru
  cases ru
  obtain ⟨f0,f1,f2,f3,f4,f5⟩:=hf i
  refine Sj PySem.F.entry_dict_update_loop ?_
  rw [Sb PySem.F.plain_dict_update_loop _]
  show wpAny _ A.in1 (pyNext (.ref it) >>= _) _ _ s
  refine O8 (wpAny_pyNext_list_item st pl.isList (x:=.ref c) (by simpa using hu') fun h' st' sb=>?_)
  have I1:Inv X pins σ (Hs i) { s with heap:=h' }:=I.turned (t':=s.toks) (fun b o hb e=>(sb.2 b hb).trans e) f0 f1 f3 f4 f5
  obtain ⟨its2,rv2,pt,hz2⟩:=I1.tuple hc
  obtain ⟨u1,u2,rfl,r1,r2⟩:∃ u1 u2,its2=[u1,u2]/\RelV y u1/\RelV v u2:=by
   cases rv2 with
   | cons r1 t=>cases t with
    | cons r2 t=>cases t; exact ⟨_,_,rfl,r1,r2⟩
  obtain ⟨ot,et,ct,nt,dt⟩:=pt
  obtain ⟨oc,od,oda,osl⟩:=ot
  cases ct
  cases dt
  refine O8 (Qr ?_)
  refine O8 (wpAny_tryCatch ?_)
  have hT:(⟨h',s.gens,s.drawn,s.toks,s.os⟩:Shared).TypeIs (.ref c) "tuple" := ⟨_,et,rfl⟩
  unfold Builtin.Dict.pairItems
  refine O8 (Sn hT ?_)
  rw [if_pos (by decide)]
  refine O8 ?_
  unfold seqItems?
  refine O8 (wpAny_load et (O9 (O9 ?_)))
  show wpAny _ A.in1 (holding [u1,u2] (dictSet d u1 u2)) _ _ _
  refine Qr (Zkp (by exact hu) I1 hput r1 r2 fun s2 I2 sb2=>?_)
  refine O9 ⟨Sk PySem.F.plain_dict_update_loop _,?_⟩
  have e1:rawInt ((i:Int) + 1)=rawInt (((i + 1:Nat)):Int):=rfl
  rw [e1]
  exact ih (i + 1) s2 (by omega) hlt I2 (st'.at fun o e=>(sb2.2 it (Pg hdi)).trans e)
noncomputable def Bv {κ:Type} [DecidableEq κ] (kvs:List (κ×V)) (l:List (κ×V)):List (κ×V):=l.foldl (fun a kv=>C0 a kv.1 kv.2) kvs
theorem Zhs {κ:Type} [DecidableEq κ] (l:List (κ×V)):∀ kvs:List (κ×V),(Bv kvs l).length<=kvs.length + l.length:=by
 induction l with
 | nil=>intro kvs; exact Pa _
 | cons kv r ih =>
  intro kvs
  have h1:=ih (C0 kvs kv.1 kv.2)
  have h2:=O5 kvs kv.1 kv.2
  rw [P8]
  show (Bv (C0 kvs kv.1 kv.2) r).length<=_
  omega
theorem Zcm {κ:Type} [DecidableEq κ] {l:List (κ×V)} {i:Nat} {kv:κ×V} (h:l[i]?=some kv) (kvs:List (κ×V)):Bv kvs (l.take (i + 1))=C0 (Bv kvs (l.take i)) kv.1 kv.2:=by
 unfold Bv
 rw [R0,h,List.foldl_append]
 rfl
noncomputable def Ze9 (K:O7):List V->Hp->VK->Prop:=fun xs H Q=>∃ (p:Addr) (vs:List V),xs=[.ref p]/\SqL K H p vs /\
 ((∃ kvs:List (Ao×V),Al (fun x (kv:Ao×V)=>∃ a,x=.ref a/\SqT K H a [kV kv.1,kv.2]) vs kvs/\∀ d,H d=none->Q (.ref d) (upd H d (.dK (Bv [] kvs)))) \/
   (∃ kvs:List (List Ao×V),Al (fun x (kv:List Ao×V)=>∃ a b,x=.ref a/\SqT K H a [.ref b,kv.2]/\H b=some (.tup (kv.1.map kV))) vs kvs/\∀ d,H d=none->Q (.ref d) (upd H d (.dT (Bv [] kvs)))))
theorem Zck {p:Addr} {vs:List V} {Q:VK} {Hs:Nat->Hp} (hu:A.units + 3 < cLine) (hh:A.handled=none) (I:Inv X pins σ H s) (hq:SqL X.K H p vs) (d:Addr) (hdd:d=s.heap.objs.size)
  (h0:Inv X pins σ (Hs 0) { s with heap:=s.heap.push { cls:=.type "dict",data:=.dict #[] } }) (hs0:∀ i b,H b=none->b≠d->Hs i b=none) (hsd:∀ i,i<=vs.length->SqL X.K (Hs i) p vs)
  (hs:∀ i x,vs[i]?=some x->∃ (c:Addr) (y v:V),x=.ref c/\SqT X.K (Hs i) c [y,v]/\DPut (Hs i) d y v (Hs (i + 1))) (q:Q (.ref d) (Hs vs.length)) :
  wpAny (model X.prog X.w) A (call (.type "dict") [.ref p]) (EP X pins σ Q) E s:=by
 refine callType_codes (Q₁:=fun obj s₁=>obj=.ref s.heap.objs.size/\s₁={ s with heap:=s.heap.push { cls:=.type "dict",data:=.dict #[] } }) F.kt_called_dict (F.kt_typeCall_dict_1 _) F.entry_dict_init (kt_code_dict_new _ ⟨rfl,rfl⟩) ?_
 rintro obj s₁ ⟨rfl,rfl⟩
 have hnT:({ s with heap:=s.heap.push { cls:=.type "dict",data:=.dict #[] } }:Shared).TypeIs (.ref s.heap.objs.size) "dict" := ⟨_,Pp _ rfl,rfl⟩
 refine ⟨hnT,F.args_dict_init_2 _ _,?_⟩
 unfold Builtin.«dict.__init__»
 refine O8 ?_
 unfold Builtin.Dict.selfAndRest
 refine O8 (wpAny_notOrdered_dict hnT ?_)
 show wpAny _ _ (pure (s.heap.objs.size,[Value.ref p])) _ _ _
 refine O9 ?_
 show wpAny _ _ (Builtin.Dict.updateFrom "dict.__init__" s.heap.objs.size (.ref p) [] .none) _ _ _
 subst hdd
 obtain ⟨its,rv,pl,hz⟩:=h0.list (hsd 0 (Pu _))
 have hsz:s.heap.objs.size < (s.heap.push { cls:=Value.type "dict",data:=Data.dict #[] }).objs.size:=by rw [Qc]; exact Td _
 generalize hs1:({ s with heap:=s.heap.push { cls:=.type "dict",data:=.dict #[] } }:Shared)=s1 at *
 have hsz1:s.heap.objs.size < s1.heap.objs.size:=by rw [<- hs1]; exact hsz
 obtain ⟨ol,nl,el,cl,dn,dl⟩:=pl
 unfold Builtin.Dict.updateFrom
 refine O8 (Sn ⟨_,el,cl⟩ ?_)
 rw [if_pos (by decide)]
 refine O8 (Zh9 el cl dl dn Zrg (by decide +kernel) hh (fun h2 tk2 kp=>?_) (by decide +kernel))
 rw [if_pos (by decide)]
 refine O8 (Sr ?_)
 have I2:Inv X pins σ (Hs 0) { s1 with heap:=h2,toks:=tk2 }:=h0.kept kp
 have pl2:h2.IsList p its.toArray:=⟨ol,kp _ _ el,cl,nl,dl⟩
 refine O8 (Tb pl2 ?_)
 have hsz2:s.heap.objs.size < h2.objs.size:=by
  obtain ⟨on,en,_⟩:=hnT
  exact Pe (kp _ _ en)
 have hHn:∀ i,Hs i h2.objs.size=none:=fun i=>hs0 i _ (I.hok.fresh (U2 hsz2)) (Qk hsz2)
 refine O9 ⟨Sk PySem.F.plain_dict_update_loop _,Zr5 (A:=A.in1) (Hs:=Hs) (xs:=vs) (p:=p) hh (by show A.units + 1 + 1 < cLine; omega) (Pl hsz2) hsd (fun i=>I2.fpOk (Pa _) (hHn i)) hs (fun s' I'=>?_) vs.length 0 _ rfl (Pu _) (I2.kept (t':=tk2) fun b o e=>Pd _ e) ⟨_,Pp _ rfl,rfl,rfl⟩⟩
 exact ⟨rfl,.ref s.heap.objs.size,_,I',rfl,q⟩
theorem Zpu (hu:X.A.units + 3 < cLine) (hh:X.calm=true):Ct X (.type "dict") (Ze9 X.K):=by
 intro pins s σ H xs us Q I r h
 obtain ⟨p,vs,rfl,hq,h⟩:=h
 obtain ⟨u,rfl,rx⟩:=Jc r
 cases rx
 have hf:H s.heap.objs.size=none:=I.hok.fresh (Pa _)
 have hpd:p≠s.heap.objs.size:=by
  obtain ⟨its,rv,⟨o,n,e,_⟩,hz⟩:=I.list hq
  exact Pl (Pe e)
 have hn:vs.length<=sizeLine:=by
  obtain ⟨its,rv,_,hz⟩:=I.list hq
  exact hz
 rcases h with ⟨kvs,al,q⟩ | ⟨kvs,al,q⟩
 ·refine Zck (Hs:=fun i=>upd H s.heap.objs.size (.dK (Bv [] (kvs.take i)))) hu (I.ok.hd hh) I hq s.heap.objs.size rfl (I.laid (a:=s.heap.objs.size) (o:=.dK []) (t':=s.toks) (fun _ _ q=>Pd _ q) (Pa _) (Zsb s.heap I.big)) (fun i b hb hd=>by show upd H _ _ b=none; rw [Af hd]; exact hb) (fun i _=>(Same.upd hf).seq hq) (fun i x hx=>?_) ?_
  ·obtain ⟨kv,hkv,c,rfl,hc⟩:=al.get hx
   have hi:i < vs.length:=(Pj.mp hx).1
   refine ⟨c,_,_,rfl,(Same.upd hf).tup hc,?_⟩
   show DPut _ _ _ _ (upd H s.heap.objs.size (.dK (Bv [] (kvs.take (i + 1)))))
   rw [Zcm hkv]
   have hl:(Bv [] (kvs.take i)).length < sizeLine:=by have:=Zhs (kvs.take i) ([]:List (Ao×V)); rw [Qi] at this; simp only [Ut] at this; omega
   have r:=DPut.k (H:=upd H s.heap.objs.size (.dK (Bv [] (kvs.take i)))) (k:=kv.1) (v:=kv.2) Ae hl
   rw [Gr] at r
   exact r
  ·show Q _ (upd H s.heap.objs.size (.dK (Bv [] (kvs.take vs.length))))
   rw [al.1,Te]
   exact q _ hf
 ·refine Zck (Hs:=fun i=>upd H s.heap.objs.size (.dT (Bv [] (kvs.take i)))) hu (I.ok.hd hh) I hq s.heap.objs.size rfl (I.laid (a:=s.heap.objs.size) (o:=.dT []) (t':=s.toks) (fun _ _ q=>Pd _ q) (Pa _) (Zkj s.heap I.big)) (fun i b hb hd=>by show upd H _ _ b=none; rw [Af hd]; exact hb) (fun i _=>(Same.upd hf).seq hq) (fun i x hx=>?_) ?_
  ·obtain ⟨kv,hkv,c,b,rfl,hc,hb⟩:=al.get hx
   have hi:i < vs.length:=(Pj.mp hx).1
   refine ⟨c,_,_,rfl,(Same.upd hf).tup hc,?_⟩
   show DPut _ _ _ _ (upd H s.heap.objs.size (.dT (Bv [] (kvs.take (i + 1)))))
   rw [Zcm hkv]
   have hl:(Bv [] (kvs.take i)).length < sizeLine:=by have:=Zhs (kvs.take i) ([]:List (List Ao×V)); rw [Qi] at this; simp only [Ut] at this; omega
   have r:=DPut.t (H:=upd H s.heap.objs.size (.dT (Bv [] (kvs.take i)))) (v:=kv.2) Ae ((Same.upd hf) _ _ hb) hl
   rw [Gr] at r
   exact r
  ·show Q _ (upd H s.heap.objs.size (.dT (Bv [] (kvs.take vs.length))))
   rw [al.1,Te]
   exact q _ hf
end
end L2
namespace L2
open PySem PySem.Spec PyProof.Rows
theorem Room.u1 {k:Nat} {A:Around} (r:Room k A):A.units + 1 < cLine:=by have:=r.u200; omega
section
variable {X:Cx} {k:Nat} {x m f:Str} {ps:List Str} {sp:Sp} {E:XK} {C:Addr} {p pos pos' tpos apos:Pos} {e o i value:Expr} {es:List Expr} {ta tv td ty:TE} {t:TA} {CX:B7} {P:Program} {w:World} {mg:Str->Option Value} {base:Heap} {K:O7}
theorem Zai (K:O7) (CX:B7) (ps:List Str) {pl:Sem Bool} (he:QE X o ta) (hr:Room k X.A) (hx:E9 CX X E) (hP:X.prog=P:=by rfl) (hw:X.w=w:=by rfl) (hK:X.K=K:=by rfl) (hmg:X.mg=mg:=by rfl) (hbs:X.base=base:=by rfl)
  (ht:eval (.Call (.Attribute o m apos) [] [] pos) X.env=(do
   let ov <- eval o X.env
   standAt apos.atName
   let (f,first) <- holding [ov] (getMethod ov m pl)
   callWith pos f first (backTo pos (starEach [] X.env)) (backToKw pos (keywordEach [] X.env))):=by rfl) :
  QE X (.Call (.Attribute o m apos) [] [] pos) (Zg8 CX P w K mg base k m ps E ta La):=by
 subst hP hw hK hmg hbs
 refine ⟨fun pins s σ H Q I h=>?_⟩
 refine PySem.W.methodCall_KW (pl:=pl) (Am (he.run pins s σ H _ I h) fun u s1 ⟨x,H1,I1,rx,a,C,dx,fs,sp,ex,ea,l,M,q⟩=>?_) ht
 obtain ⟨g,fd,F,c,hm,hb⟩:=M.ex
 subst ex
 obtain rfl:u=Value.ref a:=rx
 refine Zdy I1 ea c hm l ?_
 exact PySem.W.callWith_K0 (first:=[.ref a]) I1.kIn hm.kp (Zbq (us:=[.ref a]) (vs:=[.ref a]) (dvs:=[]) F hr hb .nil hx I1 (.cons rfl .nil) q)
theorem Zgv (K:O7) {op:Operator} {rd:V->V->Hp->VK->Prop} (ha:QE X o ta) (hv:QE X value tv) (hop:Ov X op rd) (hK:X.K=K:=by rfl):QS X (.AugAssign (.Attribute o f tpos) op value pos) (Zgp K ta tv rd f):=by subst hK; exact ⟨Zjk ha.run hv.run hop⟩
theorem Ze1 (K:O7) (hu:X.A.units + 200 < cLine) (hh:X.calm=true) (hK:X.K=K:=by rfl):Ct X (.type "dict") (Ze9 K):=by subst hK; exact Zpu (by omega) hh
theorem Kp (hu:X.A.units + 1 < cLine) (ho:QE X o td) (hi:QE X i ty) (hs:Oa i):QE X (.Subscript o i pos) (Zem td ty):=⟨Zi3 hu ho.run hi.run hs⟩
theorem Zld (hu:X.A.units + 1 < cLine) (hi:QE X i ty) (ho:QE X o td):QC X .In i o (tDIn ty td):=⟨Zr8 hu hi.run ho.run⟩
noncomputable def N7 (K:O7):R2:=fun x y H Q=>Gw K x y H Q\/∃ (a b:Addr) (xs ys:List V),x=.ref a/\y=.ref b/\H a=some (.tup xs)/\H b=some (.tup ys)/\xs.length + ys.length<=sizeLine/\∀ p H',Same H H'->H' p=some (.tup (xs++ys))->Q (.ref p) H'
theorem Zpy:OpR X (binaryOp .Add) (N7 X.K):=by
 refine op_addA.or ?_
 intro pins s σ H x y v u Q I rx ry h
 obtain ⟨a,b,xs,ys,rfl,rfl,ha,hb,hz,q⟩:=h
 have ha':SqT X.K H a xs:=SqT.of ha
 have hb':SqT X.K H b ys:=SqT.of hb
 by_cases hx:xs=[]
 ·subst hx
  cases rx
  cases ry
  obtain ⟨its,r1,p1,_⟩:=I.tuple ha'
  obtain ⟨its2,r2,p2,_⟩:=I.tuple hb'
  cases r1
  obtain ⟨⟨cls,dd,data,sl⟩,ho,hc,n,hd⟩:=id p1
  obtain ⟨⟨cls2,dd2,data2,sl2⟩,ho2,hc2,n2,hd2⟩:=id p2
  simp only at hc hd hc2 hd2
  subst hc hd hc2 hd2
  exact U4 ⟨_,ho,rfl⟩ ⟨_,ho2,rfl⟩ Uo Uy Uc T8 (T3 _ _)
   (tuple_addW0 a b _ _ n n2 dd dd2 sl sl2 (by simp)) ⟨ho,ho2,⟨.ref b,H,I,rfl,q b H (Same.refl H) hb⟩⟩
 ·refine Zdr pins s σ H _ _ v u Q I rx ry ⟨a,b,xs,ys,rfl,rfl,ha',hb',hx,hz,fun e=>?_,fun _ p hp=>q p _ (fun c o e=>by rw [Af (Cg e hp)]; exact e) Ae⟩
  subst e
  exact q a H (Same.refl H) (by rw [P5]; exact ha)
theorem Gs (K:O7) (hK:X.K=K:=by rfl):OpR X (binaryOp .Add) (N7 K):=by subst hK; exact Zpy
theorem Hr {a b:Addr} {xs ys:List V} {H:Hp} {Q:VK} (ha:H a=some (.tup xs)) (hb:H b=some (.tup ys)) (hz:xs.length + ys.length<=sizeLine) (h:∀ p H',Same H H'->H' p=some (.tup (xs++ys))->Q (.ref p) H'):N7 K (.ref a) (.ref b) H Q:=.inr ⟨a,b,xs,ys,rfl,rfl,ha,hb,hz,h⟩
end
end L2
namespace L2
open PySem
noncomputable def RowT (K:O7) (H:Hp) (v:V) (x:List Nat×Tr):Prop:=∃ (a p:Addr) (u:V),v=.ref a/\SqT K H a [.ref p,u]/\H p=some (.tup (A0 x.1))/\TrAt K H u x.2
theorem RowT.same {K:O7} {H H':Hp} (e:SameT H H') (v:V) (x:List Nat×Tr) (h:RowT K H v x):RowT K H' v x:=by
 obtain ⟨a,p,u,r,q,qp,t⟩:=h
 exact ⟨a,p,u,r,e.tup q,(e p).1 _ qp,t.sameT e⟩
theorem Zmo {κ:Type} [DecidableEq κ] (l:List (κ×V)) (kv:κ×V) (kvs:List (κ×V)):Bv kvs (l++[kv])=C0 (Bv kvs l) kv.1 kv.2:=by
 unfold Bv
 rw [List.foldl_append]
 rfl
noncomputable def Dq {κ:Type} [DecidableEq κ] (l:List (κ×V)) (k:κ):Option V:=(l.reverse.find? fun kv=>decide (kv.1=k)).map (·.2)
theorem Mw {κ:Type} [DecidableEq κ] (l:List (κ×V)) (kv:κ×V) (k:κ):Dq (l++[kv]) k=if kv.1=k then some kv.2 else Dq l k:=by
 unfold Dq
 rw [Sc,Ud,Vi,Qv]
 by_cases h:kv.1=k
 ·simp [h]
 ·simp [h]
theorem Md {α:Type} {P:List α->Prop} (h0:P []) (h1:∀ l x,P l->P (l++[x])) (l:List α):P l:=by
 rw [<- l.reverse_reverse]
 induction l.reverse with
 | nil=>exact h0
 | cons x r ih=>rw [Vu]; exact h1 _ _ ih
theorem M8 {κ:Type} [DecidableEq κ] (l:List (κ×V)) (k:κ):Bx (Bv [] l) k=Dq l k:=by
 refine Md (P:=fun l=>Bx (Bv [] l) k=Dq l k) rfl (fun l kv ih=>?_) l
 rw [Zmo,Mw,Zj3,ih]
 by_cases h:kv.1=k
 ·rw [if_pos h,if_pos h.symm]
 ·rw [if_neg h,if_neg (Pg h)]
structure Wt where
 pl:List Nat
 ar:List (Str×Str×V)
 came:Bool
structure MS where
 rows:List Rx
 wait:List Wt
 things:List (Str×V)
 steps:Int
noncomputable def As (pl:List Nat):List Int:=pl.map fun i:Nat=>((i:Nat):Int)
theorem Cv (pl:List Nat):(As pl).map V.int=A0 pl:=by unfold As A0; rw [List.map_map]; rfl
noncomputable def Db (pl:List Nat):List Ao:=pl.map fun i:Nat=>Sum.inl ((i:Nat):Int)
theorem K8 (pl:List Nat):(Db pl).map kV=A0 pl:=by unfold Db A0; rw [List.map_map]; rfl
noncomputable def WtAt (K:O7) (A:Addr->Prop) (H:Hp) (v:V) (x:Wt):Prop:=∃ (a p e:Addr) (ev:List V),v=.ref a/\SqT K H a [.ref p,.ref e,.bl x.came]/\H p=some (.tup (A0 x.pl))/\H e=some (.lst ev)/\Al (PrAt K H) ev x.ar/\¬ A e
theorem WtAt.same {K:O7} {A:Addr->Prop} {H H':Hp} (s:SameA A H H') (v:V) (x:Wt) (h:WtAt K A H v x):WtAt K A H' v x:=by
 obtain ⟨a,p,e,ev,h1,h2,h3,h4,h5,h6⟩:=h
 exact ⟨a,p,e,ev,h1,s.1.tup h2,(s.1 p).1 _ h3,s.2 _ _ h6 h4,h5.mono (PrAt.same s.1),h6⟩
theorem WtAt.mono {K:O7} {A B:Addr->Prop} {H:Hp} (s:∀ b,B b->H b≠none->A b) (v:V) (x:Wt) (h:WtAt K A H v x):WtAt K B H v x:=by
 obtain ⟨a,p,e,ev,h1,h2,h3,h4,h5,h6⟩:=h
 exact ⟨a,p,e,ev,h1,h2,h3,h4,h5,fun b=>h6 (s e b (by rw [h4]; simp))⟩
noncomputable def RwX (K:O7) (A:Addr->Prop) (H:Hp) (v:V) (x:Rx):Prop:=RwAt K A H v x/\∃ (a p o e:Addr),v=.ref a/\SqT K H a [.str x.wd,.ref p,.ref o,.ref e]/\H p=some (.tup (x.pl.map V.int))
theorem RwX.same {K:O7} {A:Addr->Prop} {H H':Hp} (s:SameA A H H') (v:V) (x:Rx) (h:RwX K A H v x):RwX K A H' v x:=by
 obtain ⟨h1,a,p,o,e,r,q,t⟩:=h
 exact ⟨RwAt.same s v x h1,a,p,o,e,r,s.1.tup q,(s.1 p).1 _ t⟩
theorem RwX.mono {K:O7} {A B:Addr->Prop} {H:Hp} (s:∀ b,B b->H b≠none->A b) (v:V) (x:Rx) (h:RwX K A H v x):RwX K B H v x:=⟨RwAt.mono s v x h.1,h.2⟩
noncomputable def RwO (K:O7) (A:Addr->Prop) (H:Hp) (v:V) (y:Rx×Addr×Addr):Prop:=∃ (a p:Addr) (ov ev:List V),v=.ref a/\SqT K H a [.str y.1.wd,.ref p,.ref y.2.1,.ref y.2.2]/\SqT K H p (y.1.pl.map V.int)/\H y.2.1=some (.lst ov)/\Al (ThAt K H) ov y.1.ops/\H y.2.2=some (.lst ev)/\Al (PrAt K H) ev y.1.ar/\¬ A y.2.1/\¬ A y.2.2/\y.2.1≠y.2.2
theorem RwO.same {K:O7} {A:Addr->Prop} {H H':Hp} (s:SameA A H H') (v:V) (y:Rx×Addr×Addr) (h:RwO K A H v y):RwO K A H' v y:=by
 obtain ⟨a,p,ov,ev,h1,h2,h3,h4,h5,h6,h7,h8,h9,hn⟩:=h
 exact ⟨a,p,ov,ev,h1,s.1.tup h2,s.1.tup h3,s.2 _ _ h8 h4,h5.mono (ThAt.same s.1),s.2 _ _ h9 h6,h7.mono (PrAt.same s.1),h8,h9,hn⟩
theorem RwO.mono {K:O7} {A B:Addr->Prop} {H:Hp} (s:∀ b,B b->H b≠none->A b) (v:V) (y:Rx×Addr×Addr) (h:RwO K A H v y):RwO K B H v y:=by
 obtain ⟨a,p,ov,ev,h1,h2,h3,h4,h5,h6,h7,h8,h9,hn⟩:=h
 exact ⟨a,p,ov,ev,h1,h2,h3,h4,h5,h6,h7,fun b=>h8 (s _ b (by rw [h4]; simp)),fun b=>h9 (s _ b (by rw [h6]; simp)),hn⟩
noncomputable def SepR (K:O7) (A:Addr->Prop) (H:Hp) (rv:List V) (rs:List Rx):Prop:=∃ ys:List (Rx×Addr×Addr),ys.map (·.1)=rs/\Al (RwO K A H) rv ys/\∀ (i j:Nat) (x y:Rx×Addr×Addr),ys[i]?=some x->ys[j]?=some y->i < j->x.2.1≠y.2.1/\x.2.1≠y.2.2/\x.2.2≠y.2.1/\x.2.2≠y.2.2
theorem SepR.nil {K:O7} {A:Addr->Prop} {H:Hp}:SepR K A H [] []:=⟨[],rfl,.nil,fun i j x y h=>by simp at h⟩
theorem SepR.same {K:O7} {A:Addr->Prop} {H H':Hp} {rv:List V} {rs:List Rx} (h:SepR K A H rv rs) (s:SameA A H H'):SepR K A H' rv rs:=by
 obtain ⟨ys,e,al,d⟩:=h
 exact ⟨ys,e,al.mono (RwO.same s),d⟩
theorem SepR.mono {K:O7} {A B:Addr->Prop} {H:Hp} {rv:List V} {rs:List Rx} (h:SepR K A H rv rs) (s:∀ b,B b->H b≠none->A b):SepR K B H rv rs:=by
 obtain ⟨ys,e,al,d⟩:=h
 exact ⟨ys,e,al.mono (RwO.mono s),d⟩
theorem SepR.add {K:O7} {A:Addr->Prop} {H H':Hp} {rv:List V} {rs:List Rx} {v:V} {y:Rx×Addr×Addr} (h:SepR K A H rv rs) (s:Same H H') (ho:H y.2.1=none) (he:H y.2.2=none) (q:RwO K A H' v y):SepR K A H' (rv++[v]) (rs++[y.1]):=by
 obtain ⟨ys,er,al,d⟩:=h
 refine ⟨ys++[y],by rw [Qo,er]; rfl,(al.mono (RwO.same s.a)).snoc q,fun i j x z hi hj hij=>?_⟩
 have hjl:j < (ys++[y]).length:=(Pj.mp hj).1
 rw [Pc,Ph] at hjl
 have hil:i < ys.length:=by omega
 rw [P0 hil] at hi
 by_cases hjl2:j < ys.length
 ·rw [P0 hjl2] at hj
  exact d i j x z hi hj hij
 ·have ej:j=ys.length:=by omega
  rw [ej] at hj
  simp at hj
  obtain ⟨v',hv⟩:∃ v,rv[i]?=some v:=⟨_,Pb (by rw [al.1]; exact hil)⟩
  obtain ⟨x',hx',a2,p2,os2,es2,g1,g2,g3,g4,g5,g6,g7,g8,g9,_⟩:=al.get hv
  rw [hi] at hx'
  cases hx'
  rw [<- hj]
  exact ⟨fun z=>(by rw [z,ho] at g4; cases g4),fun z=>(by rw [z,he] at g4; cases g4),fun z=>(by rw [z,ho] at g6; cases g6),fun z=>(by rw [z,he] at g6; cases g6)⟩
structure Ml where
 m:Addr
 dx:Addr
 fd:Addr
 rd:Addr
 wd:Addr
 td:Addr
noncomputable def Ml.A (L:Ml) (b:Addr):Prop:=b=L.rd\/b=L.wd\/b=L.td
noncomputable def Ml.fs (L:Ml) (n:Int):List (Str×V):=[("forms",.ref L.fd),("rows",.ref L.rd),("waiting",.ref L.wd),("things",.ref L.td),("steps",.int n)]
structure MAt (K:O7) (HB:Hp) (C:Addr) (kvs:List (List Ao×V)) (L:Ml) (H:Hp) (S:MS):Prop where
 base:Same HB H
 nm:HB L.m=none
 nr:HB L.rd=none
 nw:HB L.wd=none
 nt:HB L.td=none
 ins:H L.m=some (.ins C L.dx (L.fs S.steps))
 frm:H L.fd=some (.dT kvs)
 rw:L.rd≠L.wd
 rt:L.rd≠L.td
 wt:L.wd≠L.td
 rows:∃ rv,H L.rd=some (.lst rv)/\Al (RwX K (fun b=>L.A b\/HB b≠none) H) rv S.rows/\SepR K (fun b=>L.A b\/HB b≠none) H rv S.rows
 wait:∃ wv,H L.wd=some (.lst wv)/\Al (WtAt K L.A H) wv S.wait
 things:∃ tv,H L.td=some (.lst tv)/\Al (ThAt K H) tv S.things
noncomputable def SameM (L:Ml) (H H':Hp):Prop:=∀ b o,b≠L.m->¬ L.A b->H b=some o->H' b=some o
theorem SameM.refl (L:Ml) (H:Hp):SameM L H H:=fun _ _ _ _ h=>h
theorem SameM.trans {L:Ml} {H H1 H2:Hp} (a:SameM L H H1) (b:SameM L H1 H2):SameM L H H2:=fun c o h1 h2 h=>b c o h1 h2 (a c o h1 h2 h)
theorem _root_.L2.Same.m {H H':Hp} (e:Same H H') (L:Ml):SameM L H H':=fun b o _ _ h=>e b o h
theorem SameM.trans' {L L':Ml} {H H1 H2:Hp} (a:SameM L H H1) (b:SameM L' H1 H2) (hm:L'.m=L.m) (hr:L'.rd=L.rd) (hw:L'.wd=L.wd) (ht:L'.td=L.td\/H L'.td=none):SameM L H H2:=fun c o h1 h2 h=>by
 refine b c o (by rw [hm]; exact h1) ?_ (a c o h1 h2 h)
 rintro (z | z | z)
 ·exact h2 (.inl (z.trans hr))
 ·exact h2 (.inr (.inl (z.trans hw)))
 ·rcases ht with e | e
  ·exact h2 (.inr (.inr (z.trans e)))
  ·rw [<- z,h] at e
   cases e
section
variable {K:O7} {HB H H':Hp} {C:Addr} {kvs:List (List Ao×V)} {L:Ml} {S:MS}
theorem MAt.ne {o:HO} (M:MAt K HB C kvs L H S) {b:Addr} (h:H b=some o) (hi:∀ c d f,o≠.ins c d f) (hl:∀ xs,o≠.lst xs):b≠L.m/\¬ L.A b:=by
 obtain ⟨rv,er,_⟩:=M.rows
 obtain ⟨wv,ew,_⟩:=M.wait
 obtain ⟨tv,et,_⟩:=M.things
 refine ⟨fun z=>?_,?_⟩
 ·rw [z,M.ins] at h; cases h; exact hi _ _ _ rfl
 ·rintro (z | z | z)
  ·rw [z,er] at h; cases h; exact hl _ rfl
  ·rw [z,ew] at h; cases h; exact hl _ rfl
  ·rw [z,et] at h; cases h; exact hl _ rfl
theorem MAt.a (M:MAt K HB C kvs L H S) (e:SameM L H H'):SameA L.A H H':=by
 refine ⟨fun b=>⟨fun xs h=>?_,fun o u h=>?_⟩,fun b xs n h=>?_⟩
 ·obtain ⟨h1,h2⟩:=M.ne h (fun _ _ _ z=>nomatch z) (fun _ z=>nomatch z)
  exact e b _ h1 h2 h
 ·obtain ⟨h1,h2⟩:=M.ne h (fun _ _ _ z=>nomatch z) (fun _ z=>nomatch z)
  exact e b _ h1 h2 h
 ·refine e b _ (fun z=>?_) n h
  rw [z,M.ins] at h
  cases h
theorem MAt.t (M:MAt K HB C kvs L H S) (e:SameM L H H'):SameT H H':=(M.a e).1
theorem MAt.outer (M:MAt K HB C kvs L H S) (e:SameM L H H'):Same HB H':=fun b o h=>by
 refine e b o (fun z=>?_) ?_ (M.base b o h)
 ·rw [z,M.nm] at h; cases h
 ·rintro (z | z | z)
  ·rw [z,M.nr] at h; cases h
  ·rw [z,M.nw] at h; cases h
  ·rw [z,M.nt] at h; cases h
theorem MAt.big (M:MAt K HB C kvs L H S) (e:SameM L H H'):SameA (fun b=>L.A b\/HB b≠none) H H':=(M.a e).mono fun _ h=>.inl h
theorem MAt.new (M:MAt K HB C kvs L H S) (e:Same H H'):MAt K HB C kvs L H' S:=by
 obtain ⟨rv,er,ar,sp⟩:=M.rows
 obtain ⟨wv,ew,aw⟩:=M.wait
 obtain ⟨tv,et,at_⟩:=M.things
 exact ⟨M.base.trans e,M.nm,M.nr,M.nw,M.nt,e _ _ M.ins,e _ _ M.frm,M.rw,M.rt,M.wt,⟨rv,e _ _ er,ar.mono (RwX.same e.a),sp.same e.a⟩,⟨wv,e _ _ ew,aw.mono (WtAt.same e.a)⟩,⟨tv,e _ _ et,at_.mono (ThAt.same e.t)⟩⟩
theorem SameM.upd {x:Addr} {o:HO} (hx:x=L.m\/L.A x):SameM L H (upd H x o):=fun b o' h1 h2 h=>by
 rw [Af (fun z=>?_)]
 ·exact h
 ·rw [z] at h1 h2
  rcases hx with e | e
  ·exact h1 e
  ·exact h2 e
theorem MAt.apart (M:MAt K HB C kvs L H S):L.rd≠L.m/\L.wd≠L.m/\L.td≠L.m/\L.fd≠L.m/\L.fd≠L.rd/\L.fd≠L.wd/\L.fd≠L.td:=by
 obtain ⟨rv,er,_⟩:=M.rows
 obtain ⟨wv,ew,_⟩:=M.wait
 obtain ⟨tv,et,_⟩:=M.things
 exact ⟨Dj er M.ins (fun z=>nomatch z),Dj ew M.ins (fun z=>nomatch z),Dj et M.ins (fun z=>nomatch z),Dj M.frm M.ins (fun z=>nomatch z),Dj M.frm er (fun z=>nomatch z),Dj M.frm ew (fun z=>nomatch z),Dj M.frm et (fun z=>nomatch z)⟩
theorem MAt.setSteps (M:MAt K HB C kvs L H S) (n:Int):MAt K HB C kvs L (L2.upd H L.m (.ins C L.dx (L.fs n))) { S with steps:=n }:=by
 have e:SameM L H (L2.upd H L.m (.ins C L.dx (L.fs n))):=SameM.upd (.inl rfl)
 obtain ⟨a1,a2,a3,a4,a5,a6,a7⟩:=M.apart
 obtain ⟨rv,er,ar,sp⟩:=M.rows
 obtain ⟨wv,ew,aw⟩:=M.wait
 obtain ⟨tv,et,at_⟩:=M.things
 exact ⟨M.outer e,M.nm,M.nr,M.nw,M.nt,Ae,by rw [Af a4]; exact M.frm,M.rw,M.rt,M.wt,⟨rv,by rw [Af a1]; exact er,ar.mono (RwX.same (M.big e)),sp.same (M.big e)⟩,⟨wv,by rw [Af a2]; exact ew,aw.mono (WtAt.same (M.a e))⟩,⟨tv,by rw [Af a3]; exact et,at_.mono (ThAt.same (M.t e))⟩⟩
theorem MAt.setRows (M:MAt K HB C kvs L H S) {rv:List V} {rs:List Rx} (al:Al (RwX K (fun b=>L.A b\/HB b≠none) H) rv rs) (sp:SepR K (fun b=>L.A b\/HB b≠none) H rv rs):MAt K HB C kvs L (L2.upd H L.rd (.lst rv)) { S with rows:=rs }:=by
 have e:SameM L H (L2.upd H L.rd (.lst rv)):=SameM.upd (.inr (.inl rfl))
 obtain ⟨a1,a2,a3,a4,a5,a6,a7⟩:=M.apart
 obtain ⟨wv,ew,aw⟩:=M.wait
 obtain ⟨tv,et,at_⟩:=M.things
 exact ⟨M.outer e,M.nm,M.nr,M.nw,M.nt,by rw [Af (Pg a1)]; exact M.ins,by rw [Af a5]; exact M.frm,M.rw,M.rt,M.wt,⟨rv,Ae,al.mono (RwX.same (M.big e)),sp.same (M.big e)⟩,⟨wv,by rw [Af (Pg M.rw)]; exact ew,aw.mono (WtAt.same (M.a e))⟩,⟨tv,by rw [Af (Pg M.rt)]; exact et,at_.mono (ThAt.same (M.t e))⟩⟩
theorem MAt.setWait (M:MAt K HB C kvs L H S) {wv:List V} {ws:List Wt} (al:Al (WtAt K L.A H) wv ws):MAt K HB C kvs L (L2.upd H L.wd (.lst wv)) { S with wait:=ws }:=by
 have e:SameM L H (L2.upd H L.wd (.lst wv)):=SameM.upd (.inr (.inr (.inl rfl)))
 obtain ⟨a1,a2,a3,a4,a5,a6,a7⟩:=M.apart
 obtain ⟨rv,er,ar,sp⟩:=M.rows
 obtain ⟨tv,et,at_⟩:=M.things
 exact ⟨M.outer e,M.nm,M.nr,M.nw,M.nt,by rw [Af (Pg a2)]; exact M.ins,by rw [Af a6]; exact M.frm,M.rw,M.rt,M.wt,⟨rv,by rw [Af M.rw]; exact er,ar.mono (RwX.same (M.big e)),sp.same (M.big e)⟩,⟨wv,Ae,al.mono (WtAt.same (M.a e))⟩,⟨tv,by rw [Af (Pg M.wt)]; exact et,at_.mono (ThAt.same (M.t e))⟩⟩
theorem MAt.setThings (M:MAt K HB C kvs L H S) {tv:List V} {ts:List (Str×V)} (al:Al (ThAt K H) tv ts):MAt K HB C kvs L (L2.upd H L.td (.lst tv)) { S with things:=ts }:=by
 have e:SameM L H (L2.upd H L.td (.lst tv)):=SameM.upd (.inr (.inr (.inr rfl)))
 obtain ⟨a1,a2,a3,a4,a5,a6,a7⟩:=M.apart
 obtain ⟨rv,er,ar,sp⟩:=M.rows
 obtain ⟨wv,ew,aw⟩:=M.wait
 exact ⟨M.outer e,M.nm,M.nr,M.nw,M.nt,by rw [Af (Pg a3)]; exact M.ins,by rw [Af a7]; exact M.frm,M.rw,M.rt,M.wt,⟨rv,by rw [Af M.rt]; exact er,ar.mono (RwX.same (M.big e)),sp.same (M.big e)⟩,⟨wv,by rw [Af M.wt]; exact ew,aw.mono (WtAt.same (M.a e))⟩,⟨tv,Ae,al.mono (ThAt.same (M.t e))⟩⟩
noncomputable def Ml.with (L:Ml) (t:Addr):Ml:={ L with td:=t }
theorem MAt.swap (M:MAt K HB C kvs L H S) {H1:Hp} {t:Addr} {tv:List V} {ts:List (Str×V)} (e0:Same H H1) (ht:H t=none) (h1:H1 t=some (.lst tv)) (al:Al (ThAt K H1) tv ts):MAt K HB C kvs (L.with t) (L2.upd H1 L.m (.ins C L.dx ((L.with t).fs S.steps))) { S with things:=ts }/\SameM L H (L2.upd H1 L.m (.ins C L.dx ((L.with t).fs S.steps))):=by
 have M1:=M.new e0
 have e:SameM L H1 (L2.upd H1 L.m (.ins C L.dx ((L.with t).fs S.steps))):=SameM.upd (.inl rfl)
 obtain ⟨a1,a2,a3,a4,a5,a6,a7⟩:=M1.apart
 obtain ⟨rv0,er0,_⟩:=M.rows
 obtain ⟨wv0,ew0,_⟩:=M.wait
 obtain ⟨rv,er,ar,sp⟩:=M1.rows
 obtain ⟨wv,ew,aw⟩:=M1.wait
 have nm:t≠L.m:=fun z=>by rw [z,M.ins] at ht; cases ht
 have nr:L.rd≠t:=fun z=>by rw [<- z,er0] at ht; cases ht
 have nw:L.wd≠t:=fun z=>by rw [<- z,ew0] at ht; cases ht
 have nb:HB t=none:=by
  cases h:HB t with
  | none=>rfl
  | some o=>rw [M.base _ _ h] at ht; cases ht
 have s2:∀ B:Addr->Prop,SameA B H (L2.upd H1 L.m (.ins C L.dx ((L.with t).fs S.steps))):=fun B=>⟨e0.t.trans (M1.t e),fun b xs _ h=>by
  rw [Af (fun z=>?_)]
  ·exact e0 _ _ h
  ·rw [z,M.ins] at h; cases h⟩
 obtain ⟨rv1,er1,ar1,sp1⟩:=M.rows
 obtain ⟨wv1,ew1,aw1⟩:=M.wait
 have hA:∀ b,(L.with t).A b->H b≠none->L.A b:=fun b hb hn=>by
  rcases hb with z | z | z
  ·exact .inl z
  ·exact .inr (.inl z)
  ·rw [show b=t from z,ht] at hn; exact absurd rfl hn
 refine ⟨⟨M1.outer e,M.nm,M.nr,M.nw,nb,Ae,(Af (show L.fd≠L.m from a4)).trans M1.frm,M.rw,nr,nw,⟨rv1,(Af (show L.rd≠L.m from a1)).trans (e0 _ _ er1),?_,?_⟩,⟨wv1,(Af (show L.wd≠L.m from a2)).trans (e0 _ _ ew1),?_⟩,⟨tv,(Af (show t≠L.m from nm)).trans h1,al.mono (ThAt.same (M1.t e))⟩⟩,(e0.m L).trans e⟩
 ·refine (ar1.mono (RwX.mono fun b hb hn=>?_)).mono (RwX.same (s2 _))
  rcases hb with z | z
  ·exact .inl (hA b z hn)
  ·exact .inr z
 ·refine (sp1.mono fun b hb hn=>?_).same (s2 _)
  rcases hb with z | z
  ·exact .inl (hA b z hn)
  ·exact .inr z
 ·exact (aw1.mono (WtAt.mono hA)).mono (WtAt.same (s2 _))
end
noncomputable def Cd (ar:List (Str×Str×V)) (z:Str):Option (Str×V):=(ar.reverse.find? fun x=>decide (x.1=z)).map (·.2)
theorem L9 (l:List (Str×Str×V)) (x:Str×Str×V) (z:Str):Cd (l++[x]) z=if x.1=z then some x.2 else Cd l z:=by
 unfold Cd
 rw [Sc,Ud,Vi,Qv]
 by_cases h:x.1=z
 ·simp [h]
 ·simp [h]
theorem Zkt {K:O7} {H:Hp}:∀ (ev:List V) (ar:List (Str×Str×V)),Al (PrAt K H) ev ar->∃ kvs:List (Ao×V),Al (fun v (kv:Ao×V)=>∃ a,v=.ref a/\SqT K H a [kV kv.1,kv.2]) ev kvs /\
  ∀ z:Str,(Dq kvs (Sum.inr z)=none/\Cd ar z=none)\/∃ u th,Dq kvs (Sum.inr z)=some u/\Cd ar z=some th/\ThAt K H u th:=by
 intro ev
 refine Md (P:=fun ev=>∀ ar,Al (PrAt K H) ev ar->∃ kvs:List (Ao×V),Al (fun v (kv:Ao×V)=>∃ a,v=.ref a/\SqT K H a [kV kv.1,kv.2]) ev kvs /\
  ∀ z:Str,(Dq kvs (Sum.inr z)=none/\Cd ar z=none)\/∃ u th,Dq kvs (Sum.inr z)=some u/\Cd ar z=some th/\ThAt K H u th) ?_ ?_ ev
 ·intro ar al
  have:ar=[]:=Ss al.1.symm
  subst this
  exact ⟨[],.nil,fun z=>.inl ⟨rfl,rfl⟩⟩
 ·intro l v ih ar al
  obtain ⟨l',v',ar',x,e1,rfl,al',a,u,rfl,q,t⟩:=al.last (by simp)
  obtain ⟨rfl,e2⟩:=R3 e1 rfl
  cases e2
  obtain ⟨kvs,ak,hk⟩:=ih ar' al'
  refine ⟨kvs++[(Sum.inr x.1,u)],ak.snoc ⟨a,rfl,q⟩,fun z=>?_⟩
  rw [Mw,L9]
  by_cases hz:x.1=z
  ·refine .inr ⟨u,x.2,?_,if_pos hz,t⟩
   rw [if_pos (by rw [hz])]
  ·rw [if_neg hz,if_neg (fun h=>hz (Sum.inr.inj h))]
   exact hk z
section
variable {g:TG} {tt:TT} {te:TE} {σ0:St} {H1:Hp} {D:Addr} {Q:VK}
theorem Zri {K:O7} {a:Addr} {xs:List V} (Pv:Nat->List V->St->Hp->Prop) (h0:Pv 0 [] σ0 (upd H1 D (.lst []))) (hl:∀ i ys σ H,i<=xs.length->Pv i ys σ H->SqT K H a xs)
  (hs:∀ i x ys σ H,xs[i]?=some x->H D=some (.lst ys)->Pv i ys σ H->Zap g tt te D (Pv (i + 1)) x σ H)
  (hd:∀ ys σ H,H D=some (.lst ys)->Pv xs.length ys σ H->Q (.ref D) H):Lz (Gj K a) g tt te σ0 H1 D Q:=by
 refine ⟨fun i m σ H=>m=xs.length - i/\i<=xs.length/\∃ ys,H D=some (.lst ys)/\Pv i ys σ H,⟨xs.length,by simp,Pu _,[],Ae,h0⟩,?_⟩
 rintro i m σ H ⟨rfl,hi,ys,hD,p⟩
 have q:=hl i ys σ H hi p
 by_cases hlt:i < xs.length
 ·refine .inr ⟨⟨xs,xs[i],q,by simp [hlt]⟩,fun σ2 H2=>∃ zs,H2 D=some (.lst zs)/\Pv (i + 1) zs σ2 H2,fun σ' H' p'=>⟨xs.length - (i + 1),by omega,rfl,hlt,p'⟩,fun x H' y=>?_⟩
  obtain ⟨e,y⟩:=y
  subst e
  exact hs i x ys σ _ (y xs q) hD p
 ·have e:i=xs.length:=by omega
  subst e
  exact .inl ⟨⟨xs,q,Pa _⟩,hd ys σ H hD p⟩
end
noncomputable def Go:Tr->Dt
 | .mk _ n _=>n
theorem Zk4 (t:Tr):t=.mk t.wd (Go t) t.ps:=by cases t; rfl
theorem Zn6 {a b:List Nat} (h:Db a=Db b):a=b:=by
 unfold Db at h
 induction a generalizing b with
 | nil=>cases b with
  | nil=>rfl
  | cons y r=>simp at h
 | cons x l ih=>cases b with
  | nil=>simp at h
  | cons y r =>
   simp only [Qq,V7] at h
   have h1:x=y:=by have:=Sum.inl.inj h.1; omega
   rw [h1,ih h.2]
noncomputable def Ca (ws:List (List Nat×Tr)) (pl:List Nat):Option Tr:=(ws.reverse.find? fun x=>decide (x.1=pl)).map (·.2)
theorem Zhv (l:List (List Nat×Tr)) (x:List Nat×Tr) (pl:List Nat):Ca (l++[x]) pl=if x.1=pl then some x.2 else Ca l pl:=by
 unfold Ca
 rw [Sc,Ud,Vi,Qv]
 by_cases h:x.1=pl
 ·simp [h]
 ·simp [h]
theorem Zrm {ws:List (List Nat×Tr)} {pl:List Nat} {t:Tr} (h:Ca ws pl=some t):(pl,t)∈ws:=by
 unfold Ca at h
 obtain ⟨x,hx,rfl⟩:=Sa.mp h
 have h1:=List.find?_some hx
 have h2:x.1=pl:=of_decide_eq_true h1
 rw [<- h2]
 exact Vy.mp (List.mem_of_find?_eq_some hx)
theorem Zqi {K:O7} {H:Hp}:∀ (rows:List V) (ws:List (List Nat×Tr)),Al (RowT K H) rows ws->∃ kvs:List (List Ao×V),Al (fun v (kv:List Ao×V)=>∃ a b,v=.ref a/\SqT K H a [.ref b,kv.2]/\H b=some (.tup (kv.1.map kV))) rows kvs /\
  ∀ pl:List Nat,(Dq kvs (Db pl)=none/\Ca ws pl=none)\/∃ u t,Dq kvs (Db pl)=some u/\Ca ws pl=some t/\TrAt K H u t:=by
 intro rows
 refine Md (P:=fun rows=>∀ ws,Al (RowT K H) rows ws->∃ kvs:List (List Ao×V),Al (fun v (kv:List Ao×V)=>∃ a b,v=.ref a/\SqT K H a [.ref b,kv.2]/\H b=some (.tup (kv.1.map kV))) rows kvs /\
  ∀ pl:List Nat,(Dq kvs (Db pl)=none/\Ca ws pl=none)\/∃ u t,Dq kvs (Db pl)=some u/\Ca ws pl=some t/\TrAt K H u t) ?_ ?_ rows
 ·intro ws al
  have:ws=[]:=Ss al.1.symm
  subst this
  exact ⟨[],.nil,fun z=>.inl ⟨rfl,rfl⟩⟩
 ·intro l v ih ws al
  obtain ⟨l',v',ws',x,e1,rfl,al',a,p,u,rfl,q,hp,t⟩:=al.last (by simp)
  obtain ⟨rfl,e2⟩:=R3 e1 rfl
  cases e2
  obtain ⟨kvs,ak,hk⟩:=ih ws' al'
  refine ⟨kvs++[(Db x.1,u)],ak.snoc ⟨a,p,rfl,q,by rw [K8]; exact hp⟩,fun pl=>?_⟩
  rw [Mw,Zhv]
  by_cases hz:x.1=pl
  ·refine .inr ⟨u,x.2,?_,if_pos hz,t⟩
   rw [if_pos (by rw [hz])]
  ·rw [if_neg hz,if_neg (fun h=>hz (Zn6 h))]
   exact hk pl
end L2
namespace L2
open PySem PySem.Spec PyProof.Rows
section
variable {X:Cx}
noncomputable abbrev Zhf:=Op false
theorem Zqq (K:O7) {e e2:Expr} {ta:TA} {p p2 pos pos2:Pos} (hg:Gl X "list") (hm:X.mg "list" = none) (hg2:Gl X "zip") (hm2:X.mg "zip" = none) (ha:QA X [e,e2] ta) (hK:X.K=K:=by rfl) (hc:X.calm=true:=by rfl)
  (hs:starEach [.Call (.Name "zip" p2) [e,e2] [] pos2] X.env=[(false,eval (.Call (.Name "zip" p2) [e,e2] [] pos2) X.env)]:=by rfl) (hs2:starEach [e,e2] X.env=[(false,eval e X.env),(false,eval e2 X.env)]:=by rfl) (hs3:starEach [e2] X.env=[(false,eval e2 X.env)]:=by rfl) :
  QE X (.Call (.Name "list" p) [.Call (.Name "zip" p2) [e,e2] [] pos2] [] pos) (Zhf K ta):=Zfg false K hg hm hg2 hm2 ha hK hc hs hs2 hs3
theorem Zpr {K:O7} {ta:TA} {σ:St} {H:Hp} {Q:VK} (h:ta σ H fun vs H1=>∃ a b xs ys,vs=[.ref a,.ref b]/\SqL K H1 a xs/\SqL K H1 b ys /\
 ∀ (S:Addr) (zs:List V) (H2:Hp),H1 S=none->Same H1 H2->zs.length=min xs.length ys.length->Mm H2 xs ys zs->H2 S=some (.lst zs)->Q (.ref S) H2):Zhf K ta σ H Q:=h
end
end L2
namespace L2
open PySem PySem.Spec PySem.Calls PySem.W PyProof.Rows
section
variable {X:Cx}
end
end L2
namespace L2
open PySem PySem.Spec PyProof.Rows
section
variable {X:Cx} {c n:Str} {np hpos pos:Pos} {body hbody:List Stmt} {b₀:Stmt} {tb:TXS} {th:TS} {i:Nat} {C:Addr}
end
theorem Zf7:∀ {Cs:List Addr} {its:List Value},Vals (Cs.map V.ref) its->its=Cs.map Value.ref
 | [],its,h=>by cases h; rfl
 | c :: r,its,h=>by
  cases h with
  | cons a b =>
   rw [Zf7 b]
   have a:_=Value.ref c:=a
   rw [a]
   rfl
noncomputable def rIsZ (K:O7):List V->Hp->VK->Prop:=fun xs H Q=>∃ a tp C' od b,∃ Cs:List Addr,xs=[.ref a,.ref tp]/\SqT K H tp (Cs.map V.ref)/\H a=some (Dn a (.ref C') od)/\(∀ d,od=some d->∃ fs,H d=some (.xd fs))/\Hn K C'/\PySem.W.kitAny K (.ref C') (Cs.map Value.ref)=some b/\Q (.bl b) H
theorem Zrv {X:Cx} {K:O7} (hK:X.K=K:=by rfl):Ct X (.builtin "isinstance") (rIsZ K):=by
 subst hK
 intro pins s σ H xs us Q I r h
 obtain ⟨a,tp,C',od,b,Cs,rfl,ht,ea,hd,c,e,q⟩:=h
 obtain ⟨u,v,rfl,ru,rv⟩:=r.two
 obtain rfl:u=Value.ref a:=ru
 obtain rfl:v=Value.ref tp:=rv
 obtain ⟨ox,oo,J⟩:=Ot I ea hd
 obtain ⟨its,r1,⟨o,h1,h2,n,h3⟩,_⟩:=I.tuple ht
 have e1:=Zf7 r1
 subst e1
 obtain ⟨oc,od',odt,osl⟩:=o
 have h2:oc=.type "tuple" := h2
 have h3:odt=.seq (Cs.map Value.ref).toArray n:=h3
 subst h2 h3
 exact PySem.W.kia_tup (Ou (ox:=ox) (od:=oo) c) I.kIn J h1 e (fun z=>nomatch z) fun tk=>⟨.bl b,H,I.tok tk,rfl,q⟩
end L2
namespace L2
open PySem
noncomputable def Opn (X Y:St->Hp->Prop):Prop:=∀ σ' H',X σ' H'->Y σ' H'
theorem Zpp {t u:TS} {D:Ends} {σ:St} {H:Hp} (h:∀ Y:St->Hp->Prop,Opn (u D) Y->t ⟨Y,D.rt,D.bk,D.ct⟩ σ H):L8 t u D σ H:=h _ fun _ _ z=>z
theorem Zea {X Y:St->Hp->Prop} {σ:St} {H:Hp} (h:Opn X Y) (k:X σ H):Y σ H:=h σ H k
end L2
namespace K19
open PySem L2
inductive Sub:Tr->List Nat->Prop where
 | nil (t:Tr):Sub t []
 | cons {w:Str} {n:Dt} {ts:List Tr} {j:Nat} {t:Tr} {r:List Nat} (h:ts[j]?=some t) (s:Sub t r):Sub (.mk w n ts) (j :: r)
noncomputable def path:Tr->List Nat->List Tr
 | t,[]=>[t]
 | .mk w n ps,k :: r=>.mk w n ps :: (match ps[k]? with | some u=>path u r | none=>[])
theorem Zb3 {w:Str} {n:Dt} {ts:List Tr} {j:Nat} {t:Tr} {r:List Nat} (h:ts[j]?=some t):path (.mk w n ts) (j :: r)=.mk w n ts :: path t r:=by rw [path,h]
theorem Mf {t:Tr} {pl:List Nat} (s:Sub t pl):(path t pl).length=pl.length + 1:=by
 induction s with
 | nil t=>cases t; rfl
 | cons h _ ih=>rw [Zb3 h,P8,ih,P8]
theorem Oc (t:Tr) (pl:List Nat):(path t pl)[0]?=some t:=by
 cases t with
 | mk w n ps=>cases pl <;> rfl
theorem Zae {t:Tr} {pl:List Nat} (s:Sub t pl):∀ (i:Nat) (k:Nat),pl[i]?=some k->∃ w n ps u,(path t pl)[i]?=some (.mk w n ps)/\ps[k]?=some u/\(path t pl)[i + 1]?=some u:=by
 induction s with
 | nil t=>intro i k h; simp at h
 | @cons w n ts j u r h s ih =>
  intro i k hk
  rw [Zb3 h]
  cases i with
  | zero =>
   have:j=k:=by simpa using hk
   subst this
   exact ⟨w,n,ts,u,rfl,h,by simpa using Oc u r⟩
  | succ i =>
   obtain ⟨w',n',ps,u',a,b,c⟩:=ih i k (by simpa using hk)
   exact ⟨w',n',ps,u',by simpa using a,b,by simpa using c⟩
noncomputable def Ci:Tr->List Nat->Tr->Tr
 | _,[],f=>f
 | .mk w n ps,k :: r,f=>match ps[k]? with
  | some u=>.mk w n (ps.set k (Ci u r f))
  | none=>.mk w n ps
theorem Zq9 {w:Str} {n:Dt} {ts:List Tr} {j:Nat} {t f:Tr} {r:List Nat} (h:ts[j]?=some t):Ci (.mk w n ts) (j :: r) f=.mk w n (ts.set j (Ci t r f)):=by rw [Ci,h]
theorem Zin (t f:Tr):Ci t [] f=f:=by cases t; rfl
theorem Zn3 {t f:Tr} {pl:List Nat} (s:Sub t pl):∀ (m k:Nat) (w:Str) (n:Dt) (ps:List Tr) (u:Tr),pl[m]?=some k->(path t pl)[m]?=some (.mk w n ps)->(path t pl)[m + 1]?=some u->Ci (.mk w n ps) (pl.drop m) f=.mk w n (ps.set k (Ci u (pl.drop (m + 1)) f)):=by
 intro m k w n ps u hk hp hu
 obtain ⟨w',n',ps',u',a,b,c⟩:=Zae s m k hk
 rw [hp] at a
 cases a
 rw [hu] at c
 cases c
 have hl:=(Pj.mp hk)
 obtain ⟨g,e⟩:=hl
 rw [Rt g,e,Zq9 b]
end K19
local macro_rules | `(tactic| walk_at "sc")=>`(tactic| exact ⟨rfl,rfl,rfl,by decide +kernel,rfl,by decide +kernel,by decide +kernel⟩)
namespace L2
open PySem PySem.Spec PyProof.Rows
theorem A9:0<=sizeLine:=by decide
theorem Cj:1<=sizeLine:=by decide
theorem A3:2<=sizeLine:=by decide
theorem Bd:3<=sizeLine:=by decide
theorem Fa:4<=sizeLine:=by decide
theorem sz5:5<=sizeLine:=by decide
theorem sz6:6<=sizeLine:=by decide
theorem sz9:9<=sizeLine:=by decide
theorem Room.m {j k:Nat} {A:Around} (r:Room k A) (h:j<=k:=by decide):Room j A:=r.mono h
section
variable {X:Cx} {a b:Expr} {ta tb:TE} {pos:Pos} {K:O7}
theorem Ay (i:Nat) {ps:List Str} {sc:Scope} {x:Str} {e:Expr} {te:TE} {pos':Pos} (S:A2 X.N ps sc) (he:QE X e te) (hi:X.N[i]?=some x:=by rfl) (hx:Fi X.env.scope x:=by exact Or.inl rfl) (hs:swapsWith e (some (.Name x pos')) pos.line X.env=pure false:=by rfl) (hf:X.fn x=true\/X.env.scope.names.lookup x=some .local:=by first | exact .inl rfl | exact .inr rfl | assumption):QS X (.Assign [.Name x pos'] e pos) (Gc te (Fz i)):=Zo1 S.nd hi hx he hs hf
theorem Ak (K:O7) (ha:QE X a ta) (hb:QE X b tb) (hs:Mx b:=by exact fun _ _=>rfl) (hK:X.K=K:=by rfl):QE X (.Subscript a b pos) (Ez (Iq K) ta tb):=Lv (k_ix K hK) ha hb hs
end
end L2
namespace K57
open PySem L2
noncomputable def Aq (i:Nat):Stmt:=R7.main.body.getD i (.Pass ⟨0,0,0,0⟩)
noncomputable abbrev K2:Stmt:=Aq 6
noncomputable abbrev Je:Stmt:=Aq 8
noncomputable abbrev Kz:Stmt:=Aq 9
noncomputable abbrev Kw:Stmt:=Aq 10
noncomputable abbrev Jz:Stmt:=Aq 11
noncomputable abbrev Ju:Stmt:=Aq 12
noncomputable abbrev Jh:Stmt:=Aq 13
noncomputable abbrev J6:Stmt:=Aq 15
noncomputable abbrev Kq:Stmt:=Aq 17
noncomputable abbrev K4:Stmt:=Aq 19
noncomputable abbrev Jo:Stmt:=Aq 24
noncomputable abbrev Jn:Stmt:=Aq 25
noncomputable abbrev Bz (i j:Nat):Stmt:=match Aq i with | .ClassDef _ _ _ b _ _ _ _ _ _ _=>b.getD j (.Pass ⟨0,0,0,0⟩) | s=>s
noncomputable abbrev Jx:Stmt:=Bz 26 0
noncomputable abbrev Ir:Stmt:=Bz 26 1
noncomputable abbrev J1:Stmt:=Bz 26 2
noncomputable abbrev G9:Stmt:=Bz 26 3
noncomputable abbrev Kt:Stmt:=Bz 26 4
noncomputable abbrev Ii:Stmt:=Bz 26 5
noncomputable abbrev Ix:Stmt:=Bz 26 6
noncomputable abbrev J8:Stmt:=Bz 26 7
noncomputable abbrev Jw:Stmt:=Bz 26 8
noncomputable abbrev Ji:Stmt:=Bz 26 9
noncomputable abbrev Jy:Stmt:=Bz 26 10
noncomputable abbrev K0:Stmt:=Bz 26 11
noncomputable abbrev Jj:Stmt:=Bz 26 12
noncomputable abbrev K7:Stmt:=Aq 28
noncomputable abbrev K6:Stmt:=Aq 29
noncomputable abbrev Ic:Stmt:=Aq 30
noncomputable abbrev J0:Stmt:=Aq 32
noncomputable abbrev Kh:Stmt:=Aq 33
noncomputable abbrev Hi:Stmt:=Aq 34
noncomputable abbrev Jq:Stmt:=Aq 35
noncomputable abbrev Kc:Stmt:=Aq 36
noncomputable abbrev Jd:Stmt:=Aq 37
noncomputable abbrev Kx:Stmt:=Aq 38
noncomputable abbrev K1:Stmt:=Aq 39
noncomputable abbrev Ko:Stmt:=Aq 40
noncomputable abbrev Jl:Stmt:=Aq 41
noncomputable abbrev Ky:Stmt:=Aq 42
noncomputable abbrev Ke:Stmt:=Aq 43
noncomputable abbrev Ki:Stmt:=Aq 44
noncomputable abbrev Jm:Stmt:=Aq 45
noncomputable abbrev Kl:Stmt:=Aq 46
noncomputable abbrev K3:Stmt:=Aq 47
noncomputable abbrev Kd:Stmt:=Aq 48
noncomputable abbrev Kb:Stmt:=Aq 49
structure Txt (K:O7) (mg:Str->Option Value):Prop where
 isinstance:mg "isinstance" = none
 int:mg "int" = none
 bool:mg "bool" = none
 reversed:mg "reversed" = none
 list:mg "list" = none
 enumerate:mg "enumerate" = none
 len:mg "len" = none
 zip:mg "zip" = none
 all:mg "all" = none
 tuple:mg "tuple" = none
 range:mg "range" = none
 str:mg "str" = none
 ValueError:mg "ValueError" = none
 dict:mg "dict" = none
end K57
namespace K57
open PySem L2
structure Script (K:O7) (H:Hp) (a:Addr):Prop where
 ex:∃ ns:List Int,SqL K H a (ns.map V.int)/\ns.length<=63
theorem Script.same {K:O7} {H H':Hp} {a:Addr} (S:Script K H a) (h:Same H H'):Script K H' a:=by
 obtain ⟨ns,q,l⟩:=S.ex
 exact ⟨ns,h.seq q,l⟩
theorem big:100000<=sizeLine:=by decide
end K57
namespace K57
open PySem L2
noncomputable def Bf (wd:Str):Option (List Int):=if wd∈(["plus", "minus", "less", "call"]:List Str) then some [1,0] else if wd∈(["if", "let"]:List Str) then some [0] else none
noncomputable def WA:List Str:=["gap", "fn", "rec", "if"]
structure Mc (K:O7) (C:Addr):Prop where
 cl:Cls K C
 nf:NoAttr K C "forms"
 nr:NoAttr K C "rows"
 nw:NoAttr K C "waiting"
 nt:NoAttr K C "things"
 ns:NoAttr K C "steps"
theorem Lh (L:Ml) (n:Int):(L.fs n).lookup ("forms" : Str)=some (V.ref L.fd):=rfl
theorem Kg (L:Ml) (n:Int):(L.fs n).lookup ("rows" : Str)=some (V.ref L.rd):=rfl
theorem Fe (L:Ml) (n:Int):(L.fs n).lookup ("waiting" : Str)=some (V.ref L.wd):=rfl
theorem Ft (L:Ml) (n:Int):(L.fs n).lookup ("things" : Str)=some (V.ref L.td):=rfl
theorem Jv (L:Ml) (n:Int):(L.fs n).lookup ("steps" : Str)=some (V.int n):=rfl
theorem Zfb (L:Ml) (n k:Int):Ai "steps" (.int k) (L.fs n)=L.fs k:=rfl
theorem Zne (L:Ml) (n:Int) (t:Addr):Ai "things" (.ref t) (L.fs n)=(L.with t).fs n:=rfl
theorem C1 (L:Ml) (n:Int):(L.fs n).lookup ("make_steps" : Str)=none/\(L.fs n).lookup ("new_row" : Str)=none/\(L.fs n).lookup ("thing_of_leaf" : Str)=none/\(L.fs n).lookup ("come_to" : Str)=none/\(L.fs n).lookup ("go_further" : Str)=none/\(L.fs n).lookup ("taken_things" : Str)=none/\(L.fs n).lookup ("thing_at_the_end" : Str)=none/\(L.fs n).lookup ("thing_of_form" : Str)=none:=⟨rfl,rfl,rfl,rfl,rfl,rfl,rfl,rfl⟩
theorem Zpo {ws:List Str}:(ws.map V.str).all Cu=true:=by rw [List.all_map]; exact Sf.mpr fun _ _=>rfl
theorem Hv {t:Str} {ws:List Str}:Eg (.str t) (ws.map V.str)=decide (t∈ws):=by
 unfold Eg
 rw [List.any_map]
 by_cases hm:t∈ws
 ·rw [decide_eq_true hm]
  exact List.any_eq_true.mpr ⟨t,hm,by show (t == t)=true; simp⟩
 ·rw [decide_eq_false hm]
  exact Bool.eq_false_iff.mpr fun h=>by
   obtain ⟨x,hx,e⟩:=List.any_eq_true.mp h
   have e:(x == t)=true:=e
   have e:x=t:=by simpa using e
   exact hm (by rw [<- e]; exact hx)
end K57
local macro_rules | `(tactic| walk_at "r1")=>`(tactic| (first | (with_reducible first | refine L2.s_seq ?_ | refine L2.s_asg ?_ | refine L2.s_ret ?_ | refine L2.s_ifS ?_ | refine L2.s_test ?_ | refine L2.s_op ?_ | refine L2.s_c ?_ | refine L2.s_cons ?_ | refine L2.s_nil ?_ | refine L2.s_call ?_ | refine L2.s_cb ?_ | refine L2.s_gname ?_ | refine L2.s_ex ?_ | refine L2.s_exi ?_ | refine L2.s_drop ?_ | refine L2.s_next ?_ | refine L2.s_un ?_ | refine L2.s_tB ?_ | refine L2.s_not ?_ | refine L2.s_and ?_ | refine L2.s_or ?_ | refine L2.s_andV ?_ | refine L2.s_orV ?_ | refine L2.s_notV ?_ | refine L2.s_vals ?_ | refine L2.s_tup ?_ | refine L2.s_lst ?_ | refine L2.s_bm ?_ | refine L2.s_bm0 ?_ | refine L2.s_sl ?_ | refine L2.s_po ?_ | refine L2.s_po0 ?_ | refine L2.s_gcons ?_ | refine L2.s_gnil ?_ | refine L2.s_gsub ?_ | refine L2.s_isN ?_ | refine L2.s_notN ?_ | refine L2.s_rI0 ?_ | refine L2.s_rU ?_ | refine L2.s_add_int ?_ | refine L2.s_lt ?_ | refine L2.s_le ?_ | refine L2.iteT ?_ | refine L2.iteF ?_ | refine L2.s_comp ?_ | refine L2.s_for ?_ | refine L2.s_rng1 ?_ | refine L2.s_rng3 ?_ | refine L2.s_exr ?_ | refine L2.s_iany ?_ | refine L2.s_irev ?_ | refine L2.s_ienum ?_ | refine L2.s_listen ?_ | refine L2.s_listrev ?_ | refine L2.s_izip ?_ | refine L2.s_ienumT ?_ | refine L2.s_listzp ?_ | refine L2.s_ipI ?_ | refine L2.s_yes ?_ | refine L2.s_turn ?_ | refine L2.s_int_b ?_ | refine L2.s_intb ?_ | refine L2.s_truth ?_ | refine L2.s_chain ?_ | refine L2.s_nt ?_ | refine L2.s_nf ?_) | ((with_reducible refine' L2.s_var ?e ?_); (case e=>exact rfl)) | ((with_reducible refine' L2.s_aug ?e ?_); (case e=>exact rfl)) | ((with_reducible refine' L2.s_eq ?e ?_); (case e=>exact rfl)) | ((with_reducible refine' L2.s_ne ?e ?_); (case e=>exact rfl)) | ((with_reducible refine' L2.s_neb ?e ?_); (case e=>exact rfl)) | ((with_reducible refine' L2.s_rI ?c ?_); (case c=>first | decide | exact ⟨by decide,by decide⟩ | exact ⟨by decide,by decide,by decide⟩)) | ((with_reducible refine' L2.s_mul_r ?a ?b ?_); (case a=>decide); (case b=>decide)) | ((with_reducible refine' L2.s_mul_l ?a ?b ?_); (case a=>decide); (case b=>decide)) | ((with_reducible refine' L2.s_exr3 ?e ?_); (case e=>decide))))
local macro_rules | `(tactic| walk_at "r")=>`(tactic| (repeat walk_at "r1"))
namespace K57
open PySem L2
section
variable {P:Program} {w:World} {K:O7} {mg:Str->Option Value} {base:Heap}
noncomputable def Zaz (K:O7) (C:Addr):Sp:=fun vs H Q _=>∃ (n:Int) (HB:Hp) (kvs:List (List Ao×V)) (L:Ml) (S:MS),vs=[.ref L.m,.int n]/\MAt K HB C kvs L H S/\S.steps + n<=500/\∀ H',SameM L H H'->MAt K HB C kvs L H' { S with steps:=S.steps + n }->Q .non H'
theorem Zen:A2 ["self", "many"] ["self", "many"] (Az Ir):=by walk_at "sc"
theorem Zj7 {C:Addr} {f:Addr} {fd:FuncData} (F:Fun K "make_steps" "Machine.make_steps" Ir f fd) (T:Txt K mg) (O:Mc K C) (G_MOST_STEPS:Ea mg "MOST_STEPS" (.int 500)):FnOk P w K mg base An 1 f fd ["self", "many"] (Zaz K C):=by
 refine F.okq Zen (fun vs H Q E h=>?_) (fun cdv A outer s H vs Q E hr h=>?_)
 ·obtain ⟨n,HB,kvs,L,S,rfl,_⟩:=h
  rfl
 ·obtain ⟨n,HB,kvs,L,S,rfl,M,hn,q⟩:=h
  refine ⟨_,Ad (Zgv K (qv 0) (qv 1) Zhc)
   (Ag (A7 (A6 Zeo (Bt K (qv 0)) (Fb G_MOST_STEPS) (A5 _)) (Ag Zby) Ba)),?_⟩
  walk_at "r"
  refine ⟨_,rfl,L.m,C,L.dx,_,_,rfl,M.ins,O.cl,O.ns,Jv L S.steps,_,rfl,?_⟩
  refine ⟨_,_,rfl,rfl,L.dx,_,M.ins,by show 5 < 1000; decide,?_⟩
  rw [Zfb]
  have M1:=M.setSteps (S.steps + n)
  have e1:SameM L H (upd H L.m (.ins C L.dx (L.fs (S.steps + n)))):=SameM.upd (.inl rfl)
  revert M1 e1
  generalize upd H L.m (.ins C L.dx (L.fs (S.steps + n)))=H1
  intro M1 e1
  walk_at "r"
  refine ⟨_,rfl,L.m,C,L.dx,_,_,rfl,M1.ins,O.cl,O.ns,Jv L (S.steps + n),?_⟩
  walk_at "r"
  rw [decide_eq_false (by omega)]
  walk_at "r"
  exact q _ e1 M1
theorem Zht {CX:B7} {k:Nat} {f:Addr} {fd:FuncData} {ps:List Str} {sp:Sp} (F:FnOk P w K mg base An k f fd ps sp):FnOk P w K mg base CX k f fd ps sp:=⟨F.len,fun A outer s H args us vs Q E hr he hb hv hs=>R6 (F.run A outer s H args us vs Q E hr he hb hv hs) fun r s' h=>by
 cases r with
 | ok f=>cases f <;> exact h
 | error e=>exact P6 h⟩
theorem Zfz {CX:B7} {k:Nat} {f:Addr} {fd:FuncData} {ps:List Str} {sp1 sp2:Sp} (F1:FnOk P w K mg base CX k f fd ps sp1) (F2:FnOk P w K mg base CX k f fd ps sp2):FnOk P w K mg base CX k f fd ps (fun vs H Q E=>sp1 vs H Q E\/sp2 vs H Q E) :=
 ⟨fun vs H Q E h=>h.elim (F1.len vs H Q E) (F2.len vs H Q E),fun A outer s H args us vs Q E hr he hb hv hs=>hs.elim (F1.run A outer s H args us vs Q E hr he hb hv) (F2.run A outer s H args us vs Q E hr he hb hv)⟩
theorem Zff {k:Nat} {f:Addr} {fd:FuncData} {ps:List Str} {sp sp0:Sp} (F:FnOk P w K mg base (Bl P w) k f fd ps sp) (h0:∀ vs H Q E,sp0 vs H Q E->sp vs H Q E0):FnOk P w K mg base An k f fd ps sp0:=⟨fun vs H Q E h=>F.len vs H Q _ (h0 _ _ _ _ h),fun A outer s H args us vs Q E hr he hb hv hs=>R6 (F.run A outer s H args us vs Q E0 hr he hb hv (h0 _ _ _ _ hs)) fun r s' h=>by
 cases r with
 | ok f=>cases f <;> exact h
 | error e =>
  obtain ⟨_,_,_,_,_,_,_,_,_,_,_,_,_,_,_,z⟩:=h
  exact z⟩
noncomputable def Zcl (K:O7) (C TL:Addr):Sp:=fun vs H _ E=>∃ (n:Int) (HB:Hp) (kvs:List (List Ao×V)) (L:Ml) (S:MS),vs=[.ref L.m,.int n]/\MAt K HB C kvs L H S/\500 < S.steps + n/\∀ H',SameM L H H'->E (.ref TL) none H'
theorem Zmh {C N_TooLong:Addr} {f:Addr} {fd:FuncData} (F:Fun K "make_steps" "Machine.make_steps" Ir f fd) (T:Txt K mg) (O:Mc K C) (G_MOST_STEPS:Ea mg "MOST_STEPS" (.int 500)) (R_TooLong:Sm K N_TooLong VE "ValueError.__new__" = true) (G_TooLong:mg "TooLong" = some (.ref N_TooLong)):FnOk P w K mg base (Bl P w) 1 f fd ["self", "many"] (Zcl K C N_TooLong):=by
 refine F.okx Zen (fun vs H Q E h=>?_) (fun cdv A outer s H vs Q E hr h=>?_)
 ·obtain ⟨n,HB,kvs,L,S,rfl,_⟩:=h
  rfl
 ·obtain ⟨n,HB,kvs,L,S,rfl,M,hn,q⟩:=h
  refine ⟨_,Ad (Zgv K (qv 0) (qv 1) Zhc)
   (Ag (A7 (A6 Zeo (Bt K (qv 0)) (Fb G_MOST_STEPS) (A5 _)) (Ag (Zlw rfl R_TooLong G_TooLong (Aa Ar Ab) (fun _ _ _ _ _ _ _ I x h0 hn he=>Zog I x h0 hn he) rfl)) Ba)),?_⟩
  walk_at "r"
  refine ⟨_,rfl,L.m,C,L.dx,_,_,rfl,M.ins,O.cl,O.ns,Jv L S.steps,_,rfl,?_⟩
  refine ⟨_,_,rfl,rfl,L.dx,_,M.ins,by show 5 < 1000; decide,?_⟩
  rw [Zfb]
  have M1:=M.setSteps (S.steps + n)
  have e1:SameM L H (upd H L.m (.ins C L.dx (L.fs (S.steps + n)))):=SameM.upd (.inl rfl)
  revert M1 e1
  generalize upd H L.m (.ins C L.dx (L.fs (S.steps + n)))=H1
  intro M1 e1
  walk_at "r"
  refine ⟨_,rfl,L.m,C,L.dx,_,_,rfl,M1.ins,O.cl,O.ns,Jv L (S.steps + n),?_⟩
  walk_at "r"
  rw [decide_eq_true (by omega)]
  walk_at "r"
  exact ⟨Cj,q _ e1⟩
noncomputable def Ka (K:O7) (C:Addr):Sp:=fun vs H Q _=>∃ (wd:Str) (p o e:Addr) (pl:List Nat) (ov ev:List V) (ops:List (Str×V)) (ar:List (Str×Str×V)) (HB:Hp) (kvs:List (List Ao×V)) (L:Ml) (S:MS),vs=[.ref L.m,.str wd,.ref p,.ref o,.ref e]/\MAt K HB C kvs L H S/\H p=some (.tup (A0 pl))/\SqL K H o ov/\Al (ThAt K H) ov ops/\SqL K H e ev/\Al (PrAt K H) ev ar/\S.rows.length < 10000 /\
 ∀ v H',SameM L H H'->MAt K HB C kvs L H' { S with rows:=S.rows++[⟨wd,As pl,ops,if wd∈WA then ar else []⟩] }->ThAt K H' v ("row",.int (S.rows.length:Nat))->Q v H'
theorem Zg2:A2 ["self", "word", "place", "operands", "around", "kept"] ["self", "word", "place", "operands", "around"] (Az J1):=by walk_at "sc"
theorem viaV {t:TE} {σ:St} {H:Hp} {Q:VK} (R:V->Hp->Prop) (h2:∀ x H',R x H'->Q x H') (h1:∀ Q':VK,(∀ x H',R x H'->Q' x H')->t σ H Q'):t σ H Q:=h1 Q h2
theorem Zs4 {C:Addr} {f:Addr} {fd:FuncData} (F:Fun K "new_row" "Machine.new_row" J1 f fd) (T:Txt K mg) (O:Mc K C) {aw:Addr} (G_WORDS_WITH_AROUND:Ea mg "WORDS_WITH_AROUND" (.ref aw)) (hwa:∀ H,SqT K H aw (WA.map V.str)):FnOk P w K mg base An 1 f fd ["self", "word", "place", "operands", "around"] (Ka K C):=by
 refine F.okq Zg2 (fun vs H Q E h=>?_) (fun cdv A outer s H vs Q E hr h=>?_)
 ·obtain ⟨wd,p,o,e,pl,ov,ev,ops,ar,HB,kvs,L,S,rfl,_⟩:=h
  rfl
 ·obtain ⟨wd,p,o,e,pl,ov,ev,ops,ar,HB,kvs,L,S,rfl,M,hp,ho,alo,he,ale,hz,q⟩:=h
  refine ⟨_,Ad (Ay 5 Zg2 (Ll (A6 (Hf K) (qv 1) (Fb G_WORDS_WITH_AROUND) (by rfl)) (Fc (Hz K) (by rfl) T.list (by decide +kernel) (Aa (qv 4) Ab)) (Bm Ab)))
   (Ad (Be (B2 K Po Py Pz B6 (Bt K (qv 0)) (Aa (Ah (Aa (qv 1) (Aa (qv 2) (Aa (Fc (Hz K) (by rfl) T.list (by decide +kernel) (Aa (qv 3) Ab)) (Aa (qv 5) Ab))))) Ab)))
   (Ag (Av (Ah (Aa Ar (Aa (Au El (Bj (Df K) (by rfl) T.len (by decide +kernel) (Aa (Bt K (qv 0)) Ab)) Ac) Ab)))))),?_⟩
  have bg:=big
  walk_at "r"
  have kept:Al (PrAt K H) (if wd∈WA then ev else []) (if wd∈WA then ar else []):=by
   by_cases hw:wd∈WA
   ·rw [if_pos hw,if_pos hw]; exact ale
   ·rw [if_neg hw,if_neg hw]; exact .nil
  refine viaV (R:=fun x H'=>∃ k,x=.ref k/\H k=none/\H'=upd H k (.lst (if wd∈WA then ev else []))) ?_ (fun Q' hQ=>?_)
  ·rintro _ _ ⟨k,rfl,hk,rfl⟩
   have s1:Same H (upd H k (.lst (if wd∈WA then ev else []))):=Same.upd hk
   have e1:upd H k (.lst (if wd∈WA then ev else [])) k=some (.lst (if wd∈WA then ev else [])):=Ae
   revert s1 e1 kept
   generalize (if wd∈WA then ev else [])=kv
   generalize (if wd∈WA then ar else [])=ka at q ⊢
   generalize upd H k (.lst kv)=H1
   intro kept s1 e1
   have M1:=M.new s1
   obtain ⟨rv,er,arr,spr⟩:=M1.rows
   walk_at "r"
   refine ⟨_,rfl,L.m,C,L.dx,_,_,rfl,M1.ins,O.cl,O.nr,Kg L S.steps,?_⟩
   refine Br (SqL.of er) ?_
   walk_at "r"
   refine ⟨_,ov,rfl,.inl (s1.seq ho),fun o2 ho2=>?_⟩
   have s2:Same H1 (upd H1 o2 (.lst ov)):=Same.upd ho2
   have e2:upd H1 o2 (.lst ov) o2=some (.lst ov):=Ae
   have e12:=s2 _ _ e1
   revert s2 e2 e12
   generalize upd H1 o2 (.lst ov)=H2
   intro s2 e2 e12
   walk_at "r"
   refine ⟨Fa,fun r hr=>?_⟩
   obtain ⟨H3,s3,e3,z9⟩:=Aj hr (.tup [.str wd,.ref p,.ref o2,.ref k])
   rw [z9]
   have s13:=s2.trans s3
   have s03:=s1.trans s13
   have M3:=M.new s03
   have hrl:rv.length=S.rows.length:=arr.1
   walk_at "r"
   refine B4 (s13 _ _ er) (by omega) ?_
   obtain ⟨rv0,er0,_,sp0⟩:=M.rows
   obtain ⟨wv0,ew0,_⟩:=M.wait
   obtain ⟨tv0,et0,_⟩:=M.things
   have nb:∀ b,H b=none->¬ (L.A b\/HB b≠none):=by
    intro b hb hx
    rcases hx with (z | z | z) | z
    ·rw [z,er0] at hb; cases hb
    ·rw [z,ew0] at hb; cases hb
    ·rw [z,et0] at hb; cases hb
    ·cases h:HB b with
     | none=>exact z h
     | some ob=>rw [M.base _ _ h] at hb; cases hb
   have rw4:RwO K (fun b=>L.A b\/HB b≠none) H3 (.ref r) (⟨wd,As pl,ops,ka⟩,o2,k):=⟨r,p,ov,kv,rfl,SqT.of e3,by rw [Cv]; exact SqT.of (s03 _ _ hp),s3 _ _ e2,alo.mono (ThAt.same s03.t),s3 _ _ e12,kept.mono (PrAt.same s03.t),nb _ (s1.free ho2),nb _ hk,fun z=>by rw [show o2=k from z,e1] at ho2; cases ho2⟩
   have sp4:SepR K (fun b=>L.A b\/HB b≠none) H3 (rv++[.ref r]) (S.rows++[⟨wd,As pl,ops,ka⟩]):=SepR.add (H:=H) (by rw [show rv=rv0 from by have h:=s1 _ _ er0; rw [er] at h; cases h; rfl]; exact sp0) s03 (s1.free ho2) hk rw4
   have M4:=M3.setRows (rv:=rv++[.ref r]) (rs:=S.rows++[⟨wd,As pl,ops,ka⟩]) ((arr.mono (RwX.same s13.a)).snoc ⟨⟨r,p,o2,k,ov,kv,rfl,SqT.of e3,by rw [Cv]; exact SqT.of (s03 _ _ hp),s3 _ _ e2,alo.mono (ThAt.same s03.t),s3 _ _ e12,kept.mono (PrAt.same s03.t),nb _ (s1.free ho2),nb _ hk⟩,r,p,o2,k,rfl,SqT.of e3,by rw [Cv]; exact s03 _ _ hp⟩) sp4
   have e4:SameM L H (upd H3 L.rd (.lst (rv++[.ref r]))):=(s03.m L).trans (SameM.upd (.inr (.inl rfl)))
   have er4:upd H3 L.rd (.lst (rv++[.ref r])) L.rd=some (.lst (rv++[.ref r])):=Ae
   revert M4 e4 er4
   generalize upd H3 L.rd (.lst (rv++[.ref r]))=H4
   intro M4 e4 er4
   walk_at "r"
   refine ⟨_,rfl,L.m,C,L.dx,_,_,rfl,M4.ins,O.cl,O.nr,Kg L S.steps,?_⟩
   walk_at "r"
   refine Dg (SqL.of er4) ?_
   walk_at "r"
   refine ⟨A3,fun t ht=>?_⟩
   have e5:(((rv++[V.ref r]).length:Nat):Int) - 1=((S.rows.length:Nat):Int):=by rw [Pc,Ph]; omega
   rw [e5]
   have s5:Same H4 (upd H4 t (.tup [.str "row",.int (S.rows.length:Nat)])):=Same.upd ht
   exact q _ _ (e4.trans (s5.m L)) (M4.new s5) ⟨rfl,t,rfl,SqT.of Ae⟩
  ·unfold Ip
   walk_at "r"
   refine Gk (.inr (hwa _)) rfl Zpo ?_
   rw [if_neg Pk,Hv]
   refine ⟨_,rfl,?_⟩
   refine C2 (fun h=>?_) (fun h=>?_)
   ·have h:wd∈WA:=of_decide_eq_true h
    walk_at "r"
    refine ⟨_,ev,rfl,.inl he,fun k hk=>?_⟩
    exact hQ _ _ ⟨k,rfl,hk,by rw [if_pos h]⟩
   ·have h:¬ wd∈WA:=fun x=>h (decide_eq_true x)
    walk_at "r"
    refine ⟨A9,fun k hk=>?_⟩
    exact hQ _ _ ⟨k,rfl,hk,by rw [if_neg h]⟩
noncomputable def Cy (S:MS) (wd:Str) (nv:V) (pl:List Nat) (ar:List (Str×Str×V)):(Str×V)×MS :=
 if wd∈(["num", "truth"]:List Str) then ((wd,nv),S)
 else match (match nv with | .str z=>if wd = "name" then Cd ar z else none | _=>none) with
  | some th=>(th,S)
  | none=>(("row",.int (S.rows.length:Nat)),{ S with rows:=S.rows++[⟨wd,As pl,[],if wd∈WA then ar else []⟩] })
noncomputable def Od (K:O7) (C:Addr):Sp:=fun vs H Q _=>∃ (wd:Str) (nv:V) (p e:Addr) (pl:List Nat) (ev:List V) (ar:List (Str×Str×V)) (HB:Hp) (kvs:List (List Ao×V)) (L:Ml) (S:MS),vs=[.ref L.m,.str wd,nv,.ref p,.ref e]/\MAt K HB C kvs L H S/\H p=some (.tup (A0 pl))/\SqL K H e ev/\Al (PrAt K H) ev ar/\S.rows.length < 10000/\(wd∈(["num", "truth"]:List Str)->Cu nv=true)/\(wd = "name" -> ∃ z,nv=.str z) /\
 ∀ v H',SameM L H H'->MAt K HB C kvs L H' (Cy S wd nv pl ar).2->ThAt K H' v (Cy S wd nv pl ar).1->Q v H'
theorem Zf3:A2 ["self", "word", "note", "place", "around", "bound"] ["self", "word", "note", "place", "around"] (Az J8):=by walk_at "sc"
theorem Ziu {C:Addr} {f:Addr} {fd:FuncData} (F:Fun K "thing_of_leaf" "Machine.thing_of_leaf" J8 f fd) (T:Txt K mg) (O:Mc K C) (MR:Ck An P w K mg base 1 C "new_row" ["self", "word", "place", "operands", "around"] (Ka K C)):FnOk P w K mg base An 2 f fd ["self", "word", "note", "place", "around"] (Od K C):=by
 refine F.okq Zf3 (fun vs H Q E h=>?_) (fun cdv A outer s H vs Q E hr h=>?_)
 ·obtain ⟨wd,nv,p,e,pl,ev,ar,HB,kvs,L,S,rfl,_⟩:=h
  rfl
 ·obtain ⟨wd,nv,p,e,pl,ev,ar,HB,kvs,L,S,rfl,M,hp,he,ale,hz,hf,hnm,q⟩:=h
  refine ⟨_,Ad (A7 (A6 (Hf K) (qv 1) (Ah (Aa Ar (Aa Ar Ab))) (by rfl)) (Ag (Av (Ah (Aa (qv 1) (Aa (qv 2) Ab))))) Ba)
   (Ad (Ay 5 Zf3 (Fc (Ze1 K hr.u200 rfl) (by rfl) T.dict (by decide +kernel) (Aa (qv 4) Ab)))
   (Ad (A7 (QW.qt (E5 (A6 (Bu K hr.u200) (qv 1) Ar (A5 _)) (Fn (Zlz (Zld hr.u1 (qv 2) (qv 5)))))) (Ag (Av (Kp hr.u1 (qv 5) (qv 2) (fun _ _=>rfl)))) Ba)
   (Ag (Av (C7 (k:=1) K An ["self", "word", "place", "operands", "around"] (qv 0) hr.m Cw (Aa (qv 1) (Aa (qv 3) (Aa (Bm Ab) (Aa (qv 4) Ab))))))))),?_⟩
  have bg:=big
  unfold Cy at q
  walk_at "r"
  refine ⟨A3,fun p1 h1=>?_⟩
  refine Gk (.inr (SqT.of Ae)) rfl rfl ?_
  have s1:Same H (upd H p1 (.tup [.str "num",.str "truth"])):=Same.upd h1
  rw [if_neg Pk,show Eg (.str wd) [.str "num",.str "truth"]=decide (wd∈(["num", "truth"]:List Str)) from Hv (ws:=["num", "truth"])]
  revert s1
  generalize upd H p1 (.tup [.str "num",.str "truth"])=H1
  intro s1
  walk_at "r"
  refine C2 (fun h=>?_) (fun h=>?_)
  ·have h:wd∈(["num", "truth"]:List Str):=of_decide_eq_true h
   rw [if_pos h] at q
   walk_at "r"
   refine ⟨A3,fun p2 h2=>?_⟩
   have s2:=s1.put (o:=.tup [.str wd,nv]) h2
   exact q _ _ (s2.m L) (M.new s2) ⟨hf h,p2,rfl,SqT.of Ae⟩
  have h:¬ wd∈(["num", "truth"]:List Str):=fun x=>h (decide_eq_true x)
  rw [if_neg h] at q
  walk_at "r"
  obtain ⟨bk,alk,look⟩:=Zkt (K:=K) (H:=H1) ev ar (ale.mono (PrAt.same s1.t))
  refine ⟨e,ev,rfl,s1.seq he,.inl ⟨bk,alk,fun d hd=>?_⟩⟩
  obtain ⟨H2,s2,e2,z9⟩:=Aj hd (.dK (Bv [] bk))
  rw [z9]
  have s02:=s1.trans s2
  have M2:=M.new s02
  have row:(match nv with | .str z=>if wd = "name" then Cd ar z else none | _=>none)=none->∀ l,H2 l=none->Ka K C [.ref L.m,.str wd,.ref p,.ref l,.ref e] (upd H2 l (.lst [])) Q E0:=by
   intro hn l hl
   rw [hn] at q
   have s3:=s02.put (o:=.lst []) hl
   refine ⟨wd,p,l,e,pl,[],ev,[],ar,HB,kvs,L,S,rfl,M.new s3,s3 _ _ hp,SqL.of Ae,.nil,s3.seq he,ale.mono (PrAt.same s3.t),hz,fun v H' e' M' t'=>q v H' ((s3.m L).trans e') M' t'⟩
  walk_at "r"
  by_cases hw:wd = "name"
  ·subst hw
   obtain ⟨z,rfl⟩:=hnm rfl
   rw [decide_eq_true (Eq.refl _)]
   refine iteT ?_
   refine ⟨_,rfl,_,rfl,d,_,rfl,DGet.k (k:=Sum.inr z) e2,?_⟩
   rw [M8]
   rcases look z with ⟨l1,l2⟩ | ⟨u,th,l1,l2,t⟩
   ·rw [l1]
    refine ⟨false,rfl,?_⟩
    refine iteF ?_
    walk_at "r"
    refine ⟨_,rfl,L.m,C,L.dx,_,_,rfl,M2.ins,(C1 L S.steps).2.1,MR,?_⟩
    walk_at "r"
    refine ⟨A9,fun l hl=>?_⟩
    walk_at "r"
    exact row (by simp [l2]) l hl
   ·rw [l1]
    refine ⟨true,rfl,?_⟩
    refine iteT ?_
    walk_at "r"
    refine ⟨_,rfl,_,rfl,d,u,rfl,?_,?_⟩
    ·rw [<- l1,<- M8]
     exact DGet.k (k:=Sum.inr z) e2
    ·have e:(match V.str z with | .str z=>if ("name" : Str) = "name" then Cd ar z else none | _=>none)=some th:=by simp [l2]
     rw [e] at q
     exact q _ _ (s02.m L) M2 (ThAt.same s2.t _ _ t)
  ·rw [decide_eq_false (fun h=>hw (V.str.inj h))]
   walk_at "r"
   refine ⟨_,rfl,L.m,C,L.dx,_,_,rfl,M2.ins,(C1 L S.steps).2.1,MR,?_⟩
   walk_at "r"
   refine ⟨A9,fun l hl=>?_⟩
   walk_at "r"
   refine row ?_ l hl
   cases nv <;> simp [hw]
noncomputable def Eo:Dt->V
 | .flat v=>v
 | _=>.non
noncomputable def Dh (S:MS) (wd:Str) (d:Dt) (pl:List Nat) (ar:List (Str×Str×V)):MS :=
 let S1:=if wd = "gap" then S else { S with steps:=S.steps + 1 }
 match Bf wd with
 | some ns=>{ S1 with wait:=(S1.wait++[⟨pl,ar,true⟩])++ns.map fun n=>⟨pl++[n.toNat],ar,false⟩ }
 | none=>{ (Cy S1 wd (Eo d) pl ar).2 with things:=(Cy S1 wd (Eo d) pl ar).2.things++[(Cy S1 wd (Eo d) pl ar).1] }
noncomputable def Ho (wd:Str) (d:Dt):Prop:=(wd∈(["num", "truth"]:List Str)->∃ v,d=.flat v)/\(wd = "name" -> ∃ z,d=.flat (.str z))
noncomputable def Zfm (K:O7) (C:Addr):Sp:=fun vs H Q _=>∃ (p e:Addr) (pl:List Nat) (ev:List V) (ar:List (Str×Str×V)) (HB:Hp) (kvs:List (List Ao×V)) (L:Ml) (S:MS) (v:V) (wd:Str) (d:Dt) (ts:List Tr),vs=[.ref L.m,.ref p,.ref e]/\MAt K HB C kvs L H S/\H p=some (.tup (A0 pl))/\H e=some (.lst ev)/\Al (PrAt K H) ev ar/\¬ L.A e/\Bx kvs (Db pl)=some v/\TrAt K H v (.mk wd d ts)/\Ho wd d/\pl.length<=2000/\S.rows.length < 9000/\S.wait.length < 9000/\S.things.length < 9000/\(wd ≠ "gap" -> S.steps + 1<=500) /\
 ∀ H',SameM L H H'->MAt K HB C kvs L H' (Dh S wd d pl ar)->Q .non H'
theorem Zdv:(["number", "around", "place"]:List Str).Nodup:=by decide +kernel
theorem sc_Machine_come_to:A2 ["self", "place", "around", "word", "note"] ["self", "place", "around"] (Az Ix):=by walk_at "sc"
theorem Zkx {wd:Str} {ns:List Int} (h:Bf wd=some ns):ns.length<=2/\∀ n∈ns,0<=n:=by
 unfold Bf at h
 split at h
 ·cases h; exact ⟨by decide,by decide⟩
 split at h
 ·cases h; exact ⟨by decide,by decide⟩
 ·cases h
theorem Zpa {K:O7} {H:Hp} {S:MS} {wd:Str} {nv:V} {d:Dt} {pl:List Nat} {ar:List (Str×Str×V)} (h:IsN K H nv d) (hn:Ho wd d):Cy S wd nv pl ar=Cy S wd (Eo d) pl ar:=by
 rcases h with ⟨_,rfl⟩ | ⟨a,vs,rfl,_,_,rfl⟩
 ·rfl
 ·have h1:¬ wd∈(["num", "truth"]:List Str):=fun x=>by obtain ⟨v,e⟩:=hn.1 x; cases e
  unfold Cy
  rw [if_neg h1,if_neg h1]
  rfl
theorem Zh7 (S:MS) (wd:Str) (nv:V) (pl:List Nat) (ar:List (Str×Str×V)):(Cy S wd nv pl ar).2.things=S.things:=by
 unfold Cy
 split
 ·rfl
 split <;> rfl
theorem Zrr {C:Addr} {f:Addr} {fd:FuncData} (F:Fun K "come_to" "Machine.come_to" Ix f fd) (T:Txt K mg) (O:Mc K C) {ap:Addr} {pk:List (Str×V)} (G_PARTS_AWAITED:Ea mg "PARTS_AWAITED" (.ref ap)) (hpa:Fs P w K ap pk) (hpk:∀ wd,(C9 pk wd).isSome=(Bf wd).isSome/\∀ ns,Bf wd=some ns->∃ b,C9 pk wd=some (.ref b)/\∀ H,SqT K H b (ns.map V.int))
  (MS_:Ck An P w K mg base 1 C "make_steps" ["self", "many"] (Zaz K C)) (MLf:Ck An P w K mg base 2 C "thing_of_leaf" ["self", "word", "note", "place", "around"] (Od K C)):FnOk P w K mg base An 3 f fd ["self", "place", "around"] (Zfm K C):=by
 refine F.okq sc_Machine_come_to (fun vs H Q E h=>?_) (fun cdv A outer s H vs Q E hr h=>?_)
 ·obtain ⟨p,e,pl,ev,ar,HB,kvs,L,S,v,wd,d,ts,rfl,_⟩:=h
  rfl
 ·obtain ⟨p,e,pl,ev,ar,HB,kvs,L,S,v,wd,d,ts,rfl,M,hp,he,ale,nA,hv,ht,nok,hpl,z1,z2,z3,z4,q⟩:=h
  refine ⟨_,Ad (Ij (Fk (Iy K) (Kp hr.u1 (Bt K (qv 0)) (qv 1) (fun _ _=>rfl)) (Fw) (Fy Ac)) (Ep K (n:=2) rfl (Cb (Bb (i:=3) sc_Machine_come_to.nd rfl (Or.inl rfl)) (Cb (Bb (i:=4) sc_Machine_come_to.nd rfl (Or.inl rfl)) (Ev)))))
   (Ad (A7 (A6 (E2 K hr.u200) (qv 3) Ar (A5 _)) (Ag (Be (C7 (k:=1) K An ["self", "many"] (qv 0) hr.m Cw (Aa Ac Ab)))) Ba)
   (Ag (A7 (A6 (Zbt P w K) (qv 3) (Fb G_PARTS_AWAITED) (by rfl)) (Ad (Be (B2 K Po Py Pz B6 (Bt K (qv 0)) (Aa (Ah (Aa (qv 1) (Aa (qv 2) (Aa Cz Ab)))) Ab)))
   (Ag (Be (B2 K Po Vf Vg Ng (Bt K (qv 0)) (Aa (Zbj (N:=["number", "around", "place"]) (σ0:=Ew 1 [2,1]) rfl (Jb rfl (by decide +kernel) (by decide +kernel) (by decide +kernel)) (Fj K (Lv (Zb0 P w K) (Fb G_PARTS_AWAITED) (qv 3) (fun _ _=>rfl))) (Hx rfl (by rfl)) (fun _ _ _ _=>Bb (i:=0) Zdv rfl (Or.inl rfl)) (fun _ _ _ _=>Ig) (fun _ _ _ _=>Ah (Aa (Au (Gs K) (qv 2) (Ah (Aa (qv 0) Ab))) (Aa (qv 1) (Aa Cz Ab))))) Ab))))) (Ag (Be (B2 K Po Py Pz B6 (Bt K (qv 0)) (Aa (C7 (k:=2) K An ["self", "word", "note", "place", "around"] (qv 0) hr.m Cw (Aa (qv 3) (Aa (qv 4) (Aa (qv 1) (Aa (qv 2) Ab))))) Ab))))))),?_⟩
  have bg:=big
  cases ht with
  | @mk b pp _ nv _ vs _ qb hn qpp hl hch =>
  walk_at "r"
  refine ⟨_,rfl,L.m,C,L.dx,_,_,rfl,M.ins,O.cl,O.nf,Lh L S.steps,_,rfl,L.fd,.ref b,rfl,?_,?_⟩
  ·rw [<- hv]
   refine DGet.t M.frm ?_
   rw [K8]
   exact hp
  walk_at "r"
  refine .inr (.inr ⟨b,_,rfl,qb,by show ¬(HT.sIx 3 0 none=0/\HT.sIx 3 3 (some 2)=3); decide,fun p1 h1=>?_⟩)
  rw [show Cf [V.str wd,nv,.ref pp] none (some 2)=[V.str wd,nv] from rfl]
  have s1:Same H (upd H p1 (.tup [.str wd,nv])):=Same.upd h1
  have e1:upd H p1 (.tup [.str wd,nv]) p1=some (.tup [.str wd,nv]):=Ae
  have hp1:=s1 _ _ hp
  have he1:=s1 _ _ he
  have M1:=M.new s1
  have hn1:IsN K (upd H p1 (.tup [.str wd,nv])) nv d:=hn.same s1.t
  revert s1 e1 hp1 he1 M1 hn1
  generalize upd H p1 (.tup [.str wd,nv])=H1
  intro s1 e1 hp1 he1 M1 hn1
  refine Ec (SqT.of e1) rfl ?_
  refine s_gcons ?_
  refine s_gname ?_
  refine s_gcons ?_
  refine s_gname ?_
  refine s_gnil ?_
  with_reducible refine s_seq ?_
  obtain ⟨S1,hS1⟩:∃ S1,S1=(if wd = "gap" then S else { S with steps:=S.steps + 1 }):=⟨_,rfl⟩
  refine via (t:=Jg _ _ _) (R:=fun H2=>SameM L H1 H2/\MAt K HB C kvs L H2 S1) ?_ (fun Y hY=>?_)
  ·rintro H2 ⟨m2,M2⟩
   have a2:=M1.a m2
   have t2:=M1.t m2
   have hp2:=(t2 p).1 _ hp1
   have he2:=a2.2 _ _ nA he1
   have ale2:Al (PrAt K H2) ev ar:=ale.mono (PrAt.same (s1.t.trans t2))
   have m02:SameM L H H2:=(s1.m L).trans m2
   have hn2:IsN K H2 nv d:=hn1.same t2
   obtain ⟨y1,y2,y3⟩:S1.rows=S.rows/\S1.wait=S.wait/\S1.things=S.things:=by
    rw [hS1]
    split <;> exact ⟨rfl,rfl,rfl⟩
   have q:∀ H',SameM L H H'->MAt K HB C kvs L H' (match Bf wd with
    | some ns=>{ S1 with wait:=(S1.wait++[⟨pl,ar,true⟩])++ns.map fun n=>⟨pl++[n.toNat],ar,false⟩ }
    | none=>{ (Cy S1 wd (Eo d) pl ar).2 with things:=(Cy S1 wd (Eo d) pl ar).2.things++[(Cy S1 wd (Eo d) pl ar).1] })->Q .non H':=by
    intro H' e' M'
    refine q H' e' ?_
    unfold Dh
    rw [<- hS1]
    exact M'
   walk_at "r"
   refine ⟨wd,ap,pk,rfl,rfl,hpa,?_⟩
   rw [(hpk wd).1]
   cases hpw:Bf wd with
   | none =>
    rw [hpw] at q
    walk_at "r"
    refine iteF ?_
    walk_at "r"
    obtain ⟨tv,et,att⟩:=M2.things
    refine ⟨_,rfl,L.m,C,L.dx,_,_,rfl,M2.ins,O.cl,O.nt,Ft L S1.steps,?_⟩
    refine Br (SqL.of et) ?_
    walk_at "r"
    refine ⟨_,rfl,L.m,C,L.dx,_,_,rfl,M2.ins,(C1 L S1.steps).2.2.1,MLf,?_⟩
    walk_at "r"
    refine ⟨wd,nv,p,e,pl,ev,ar,HB,kvs,L,S1,rfl,M2,hp2,SqL.of he2,ale2,by rw [y1]; omega,(fun x=>by
     obtain ⟨v,rfl⟩:=nok.1 x
     rcases hn2 with ⟨h,_⟩ | ⟨a,vs,_,_,_,h⟩
     ·exact h
     ·cases h),(fun x=>by
     obtain ⟨z,rfl⟩:=nok.2 x
     rcases hn2 with ⟨_,h⟩ | ⟨a,vs,_,_,_,h⟩
     ·injection h with h; exact ⟨z,h.symm⟩
     ·cases h),fun v H3 e3 M3 t3=>?_⟩
    rw [Zpa hn2 nok] at M3 t3
    obtain ⟨tv3,et3,at3⟩:=M3.things
    have hl3:tv3.length=S.things.length:=by rw [at3.1,Zh7,y3]
    walk_at "r"
    refine B4 et3 (by omega) ?_
    have M4:=M3.setThings (at3.snoc t3)
    walk_at "r"
    exact q _ (m02.trans (e3.trans (SameM.upd (.inr (.inr (.inr rfl)))))) M4
   | some ns =>
    rw [hpw] at q
    obtain ⟨nl,nn⟩:=Zkx hpw
    obtain ⟨bt,hbt,qbt⟩:=(hpk wd).2 ns hpw
    walk_at "r"
    refine iteT ?_
    walk_at "r"
    obtain ⟨wv,ew,aw⟩:=M2.wait
    have hwl:wv.length=S.wait.length:=by rw [aw.1,y2]
    refine ⟨_,rfl,L.m,C,L.dx,_,_,rfl,M2.ins,O.cl,O.nw,Fe L S1.steps,?_⟩
    refine Br (SqL.of ew) ?_
    walk_at "r"
    refine ⟨Bd,fun r hr'=>?_⟩
    obtain ⟨H3,s3,e3,z9⟩:=Aj hr' (.tup [.ref p,.ref e,.bl true])
    rw [z9]
    walk_at "r"
    refine B4 (s3 _ _ ew) (by omega) ?_
    have M3:=M2.new s3
    have M4:=M3.setWait (wv:=wv++[.ref r]) (ws:=S1.wait++[⟨pl,ar,true⟩]) ((aw.mono (WtAt.same s3.a)).snoc ⟨r,p,e,ev,rfl,SqT.of e3,s3 _ _ hp2,s3 _ _ he2,ale2.mono (PrAt.same s3.t),nA⟩)
    have m34:SameM L H3 (upd H3 L.wd (.lst (wv++[.ref r]))):=SameM.upd (.inr (.inr (.inl rfl)))
    have ew4:upd H3 L.wd (.lst (wv++[.ref r])) L.wd=some (.lst (wv++[.ref r])):=Ae
    revert M4 m34 ew4
    generalize upd H3 L.wd (.lst (wv++[.ref r]))=H4
    intro M4 m34 ew4
    have t4:=M3.t m34
    have hp4:=(t4 p).1 _ (s3 _ _ hp2)
    have he4:=(M3.a m34).2 _ _ nA (s3 _ _ he2)
    have ale4:Al (PrAt K H4) ev ar:=ale2.mono (PrAt.same (s3.t.trans t4))
    have m04:SameM L H H4:=m02.trans ((s3.m L).trans m34)
    walk_at "r"
    refine ⟨_,rfl,L.m,C,L.dx,_,_,rfl,M4.ins,O.cl,O.nw,Fe L S1.steps,?_⟩
    refine Br (SqL.of ew4) ?_
    walk_at "r"
    refine ⟨ap,pk,wd,.ref bt,rfl,rfl,hpa,hbt,.inr (.inl ⟨bt,rfl,⟨_,qbt _⟩,fun D hD=>?_⟩)⟩
    obtain ⟨rv4,er4,_⟩:=M4.rows
    obtain ⟨tv4,et4,_⟩:=M4.things
    have nD:¬ L.A D:=by
     rintro (z | z | z)
     ·rw [z,er4] at hD; cases hD
     ·rw [z,ew4] at hD; cases hD
     ·rw [z,et4] at hD; cases hD
    refine Zri (K:=K) (a:=bt) (xs:=ns.map V.int) (Pv:=fun i ys σ' H'=>∃ kv,σ'=[kv,some (.ref e),some (.ref p)]/\Al (WtAt K (fun b=>L.A b\/b=D) H') ys ((ns.take i).map fun n=>⟨pl++[n.toNat],ar,false⟩)/\Same H4 H') ⟨none,rfl,.nil,Same.upd hD⟩ (fun i ys σ' H' _ _=>qbt _) ?_ ?_
    ·rintro i x ys σ' H5 hx hys ⟨kv,rfl,al5,s5⟩
     rw [Qn] at hx
     obtain ⟨n,hni,rfl⟩:=Sa.mp hx
     have hin:i < ns.length:=(Pj.mp hni).1
     have n0:=nn n (Rl hni)
     obtain ⟨k,rfl⟩:∃ k:Nat,n=(k:Int):=⟨n.toNat,by omega⟩
     have hyl:ys.length<=2:=by rw [al5.1,Pi,Qi]; omega
     walk_at "r"
     refine ⟨Cj,fun p6 h6=>?_⟩
     obtain ⟨H6,s6,e6,z9⟩:=Aj h6 (.tup [.int (k:Nat)])
     rw [z9]
     refine Hr (s6 _ _ (s5 _ _ hp4)) e6 (by unfold A0; rw [Pi,Ph]; omega) fun p7 H7 s7 e7=>?_
     walk_at "r"
     refine ⟨Bd,fun p8 h8=>?_⟩
     obtain ⟨H8,s8,e8,z9⟩:=Aj h8 (.tup [.ref p7,.ref e,.bl false])
     rw [z9]
     have s58:=s6.trans (s7.trans s8)
     have s48:=s5.trans s58
     refine ⟨_,s58 _ _ hys,by omega,_,Ae,?_⟩
     have hD8:=s58 _ _ hys
     have sA:SameA (fun b=>L.A b\/b=D) H8 (upd H8 D (.lst (ys++[.ref p8]))):=SameA.set hD8 (.inr rfl)
     have nED:e≠D:=fun z=>by rw [<- z,he4] at hD; cases hD
     ·refine ⟨_,rfl,?_,s48.over hD⟩
      rw [R0,hni,Ul,Qo,Vo]
      refine (al5.mono fun v x h=>WtAt.same sA v x (WtAt.same s58.a v x h)).snoc (WtAt.same sA _ _ ⟨p8,p7,e,ev,rfl,SqT.of e8,?_,s48 _ _ he4,ale4.mono (PrAt.same s48.t),fun h=>h.elim nA nED⟩)
      have e9:=s8 _ _ e7
      show H8 p7=some (.tup (A0 (pl++[((k:Nat):Int).toNat])))
      rw [show A0 (pl++[((k:Nat):Int).toNat])=A0 pl++[.int ((k:Nat):Int)] by unfold A0; rw [Qo]; simp]
      exact e9
    ·rintro ys σ' H5 hys ⟨kv,rfl,al5,s5⟩
     rw [Pi,Te] at al5
     have al5:=al5.mono (WtAt.mono (B:=L.A) fun b hb _=>.inl hb)
     walk_at "r"
     have hyl:ys.length<=2:=by rw [al5.1,Pi]; omega
     refine ⟨L.wd,D,_,ys,rfl,rfl,s5 _ _ ew4,hys,by rw [Pc,Ph]; omega,?_⟩
     have M5:=M4.new s5
     obtain ⟨wv5,ew5,aw5⟩:=M5.wait
     have ew5':wv5=wv++[.ref r]:=by rw [s5 _ _ ew4] at ew5; cases ew5; rfl
     subst ew5'
     have M6:=M5.setWait (aw5.append al5)
     walk_at "r"
     exact q _ (m04.trans ((s5.m L).trans (SameM.upd (.inr (.inr (.inl rfl)))))) M6
  ·walk_at "r"
   by_cases hg:wd = "gap"
   ·rw [decide_eq_true (by rw [hg])]
    walk_at "r"
    exact hY _ ⟨SameM.refl _ _,by rw [hS1,if_pos hg]; exact M1⟩
   ·rw [decide_eq_false (fun h=>hg (V.str.inj h))]
    walk_at "r"
    refine ⟨_,rfl,L.m,C,L.dx,_,_,rfl,M1.ins,(C1 L S.steps).1,MS_,?_⟩
    walk_at "r"
    refine ⟨1,HB,kvs,L,S,rfl,M1,z4 hg,fun H2 e2 M2=>?_⟩
    walk_at "r"
    exact hY _ ⟨e2,by rw [hS1,if_neg hg]; exact M2⟩
noncomputable def Zd5 (K:O7) (C TL:Addr):Sp:=fun vs H _ E=>∃ (p e:Addr) (pl:List Nat) (ev:List V) (ar:List (Str×Str×V)) (HB:Hp) (kvs:List (List Ao×V)) (L:Ml) (S:MS) (v:V) (wd:Str) (d:Dt) (ts:List Tr),vs=[.ref L.m,.ref p,.ref e]/\MAt K HB C kvs L H S/\H p=some (.tup (A0 pl))/\H e=some (.lst ev)/\Al (PrAt K H) ev ar/\¬ L.A e/\Bx kvs (Db pl)=some v/\TrAt K H v (.mk wd d ts)/\wd ≠ "gap" /\ 500 < S.steps + 1 /\
 ∀ H',SameM L H H'->E (.ref TL) none H'
theorem Zml {C TL:Addr} {f:Addr} {fd:FuncData} (F:Fun K "come_to" "Machine.come_to" Ix f fd) (T:Txt K mg) (O:Mc K C) {ap:Addr} {pk:List (Str×V)} (G_PARTS_AWAITED:Ea mg "PARTS_AWAITED" (.ref ap)) (hpa:Fs P w K ap pk) (hpk:∀ wd,(C9 pk wd).isSome=(Bf wd).isSome/\∀ ns,Bf wd=some ns->∃ b,C9 pk wd=some (.ref b)/\∀ H,SqT K H b (ns.map V.int))
  (MS_:Ck (Bl P w) P w K mg base 1 C "make_steps" ["self", "many"] (Zcl K C TL)) (MLf:Ck An P w K mg base 2 C "thing_of_leaf" ["self", "word", "note", "place", "around"] (Od K C)):FnOk P w K mg base (Bl P w) 3 f fd ["self", "place", "around"] (Zd5 K C TL):=by
 refine F.okx sc_Machine_come_to (fun vs H Q E h=>?_) (fun cdv A outer s H vs Q E hr h=>?_)
 ·obtain ⟨p,e,pl,ev,ar,HB,kvs,L,S,v,wd,d,ts,rfl,_⟩:=h
  rfl
 ·obtain ⟨p,e,pl,ev,ar,HB,kvs,L,S,v,wd,d,ts,rfl,M,hp,he,ale,nA,hv,ht,hg,h5,q⟩:=h
  refine ⟨_,Ad (Ij (Fk (Iy K) (Kp hr.u1 (Bt K (qv 0)) (qv 1) (fun _ _=>rfl)) (Fw) (Fy Ac)) (Ep K (n:=2) rfl (Cb (Bb (i:=3) sc_Machine_come_to.nd rfl (Or.inl rfl)) (Cb (Bb (i:=4) sc_Machine_come_to.nd rfl (Or.inl rfl)) (Ev)))))
   (Ad (A7 (A6 (E2 K hr.u200) (qv 3) Ar (A5 _)) (Ag (Be (C7 (k:=1) K (Bl P w) ["self", "many"] (qv 0) hr.m (J2 (fun _ _ _ h=>h)) (Aa Ac Ab)))) Ba)
   (Ag (A7 (A6 (Zbt P w K) (qv 3) (Fb G_PARTS_AWAITED) (by rfl)) (Ad (Be (B2 K Po Py Pz B6 (Bt K (qv 0)) (Aa (Ah (Aa (qv 1) (Aa (qv 2) (Aa Cz Ab)))) Ab)))
   (Ag (Be (B2 K Po Vf Vg Ng (Bt K (qv 0)) (Aa (Zbj (N:=["number", "around", "place"]) (σ0:=Ew 1 [2,1]) rfl (Jb rfl (by decide +kernel) (by decide +kernel) (by decide +kernel)) (Fj K (Lv (Zb0 P w K) (Fb G_PARTS_AWAITED) (qv 3) (fun _ _=>rfl))) (Hx rfl (by rfl)) (fun _ _ _ _=>Bb (i:=0) Zdv rfl (Or.inl rfl)) (fun _ _ _ _=>Ig) (fun _ _ _ _=>Ah (Aa (Au (Gs K) (qv 2) (Ah (Aa (qv 0) Ab))) (Aa (qv 1) (Aa Cz Ab))))) Ab))))) (Ag (Be (B2 K Po Py Pz B6 (Bt K (qv 0)) (Aa (C7 (k:=2) K An ["self", "word", "note", "place", "around"] (qv 0) hr.m Cw (Aa (qv 3) (Aa (qv 4) (Aa (qv 1) (Aa (qv 2) Ab))))) Ab))))))),?_⟩
  have bg:=big
  cases ht with
  | @mk b pp _ nv _ vs _ qb hn qpp hl hch =>
  walk_at "r"
  refine ⟨_,rfl,L.m,C,L.dx,_,_,rfl,M.ins,O.cl,O.nf,Lh L S.steps,_,rfl,L.fd,.ref b,rfl,?_,?_⟩
  ·rw [<- hv]
   refine DGet.t M.frm ?_
   rw [K8]
   exact hp
  walk_at "r"
  refine .inr (.inr ⟨b,_,rfl,qb,by show ¬(HT.sIx 3 0 none=0/\HT.sIx 3 3 (some 2)=3); decide,fun p1 h1=>?_⟩)
  rw [show Cf [V.str wd,nv,.ref pp] none (some 2)=[V.str wd,nv] from rfl]
  have s1:Same H (upd H p1 (.tup [.str wd,nv])):=Same.upd h1
  have e1:upd H p1 (.tup [.str wd,nv]) p1=some (.tup [.str wd,nv]):=Ae
  have hp1:=s1 _ _ hp
  have he1:=s1 _ _ he
  have M1:=M.new s1
  have hn1:IsN K (upd H p1 (.tup [.str wd,nv])) nv d:=hn.same s1.t
  revert s1 e1 hp1 he1 M1 hn1
  generalize upd H p1 (.tup [.str wd,nv])=H1
  intro s1 e1 hp1 he1 M1 hn1
  refine Ec (SqT.of e1) rfl ?_
  refine s_gcons ?_
  refine s_gname ?_
  refine s_gcons ?_
  refine s_gname ?_
  refine s_gnil ?_
  with_reducible refine s_seq ?_
  walk_at "r"
  rw [decide_eq_false (fun h=>hg (V.str.inj h))]
  walk_at "r"
  refine ⟨_,rfl,L.m,C,L.dx,_,_,rfl,M1.ins,(C1 L S.steps).1,MS_,?_⟩
  walk_at "r"
  exact ⟨1,HB,kvs,L,S,rfl,M1,h5,fun H2 e2=>q _ ((s1.m L).trans e2)⟩
theorem Bs (a b:Str):decide (V.str a=V.str b)=decide (a=b):=by
 by_cases h:a=b
 ·rw [decide_eq_true h,decide_eq_true (by rw [h])]
 ·rw [decide_eq_false h,decide_eq_false (fun x=>h (V.str.inj x))]
noncomputable def Hc (ops:List (Str×V)):Bool:=ops.all fun x=>decide (x.1=("num" : Str))
noncomputable def Zfx (K:O7):Sp:=fun vs H Q _=>∃ (o:Addr) (ov:List V) (ops:List (Str×V)),vs=[.ref o]/\H o=some (.lst ov)/\Al (ThAt K H) ov ops/\ops.length<=1000/\∀ H',Same H H'->Q (.bl (Hc ops)) H'
theorem Zod:(["thing"]:List Str).Nodup:=by decide +kernel
theorem Zi2:A2 ["things"] ["things"] (Az Jo):=by walk_at "sc"
theorem Zqr {f:Addr} {fd:FuncData} (F:Fun K "are_numbers" "are_numbers" Jo f fd) (T:Txt K mg):FnOk P w K mg base An 1 f fd ["things"] (Zfx K):=by
 refine F.okq Zi2 (fun vs H Q E h=>?_) (fun cdv A outer s H vs Q E hr h=>?_)
 ·obtain ⟨o,ov,ops,rfl,_⟩:=h
  rfl
 ·obtain ⟨o,ov,ops,rfl,ho,al,hl,q⟩:=h
  refine ⟨_,Ag (Av (Bj (Zny K rfl) (by rfl) T.all (by decide +kernel) (Aa (Zbj (N:=["thing"]) (σ0:=Ew 1 []) rfl (Jb rfl (by decide +kernel) (by decide +kernel) (by decide +kernel)) (Fj K (qv 0)) (Hx rfl (by rfl)) (fun _ _ _ _=>Bb (i:=0) Zod rfl (Or.inl rfl)) (fun _ _ _ _=>Ig) (fun _ _ _ _=>E1 (Bu K hr.u200) (Ak K (qv 0) Ac) Ar (A5 _))) Ab))),?_⟩
  have bg:=big
  have hlen:=al.1
  walk_at "r"
  refine .inl ⟨o,rfl,⟨_,SqL.of ho⟩,fun D hD=>?_⟩
  refine Mq (K:=K) (a:=o) (xs:=ov) (Pv:=fun i ys σ' H'=>∃ kv,σ'=[kv]/\ys=((ops.take i).map fun x:Str×V=>decide (x.1=("num" : Str))).map V.bl/\Same H H') ⟨none,rfl,rfl,Same.upd hD⟩ ?_ ?_ ?_
  ·rintro i ys σ' H' _ ⟨kv,_,_,sm⟩
   exact SqL.of (sm _ _ ho)
  ·rintro i x ys σ' H' hx hys ⟨kv,rfl,rfl,sm⟩
   obtain ⟨y,hy,_,a,rfl,qa⟩:=al.get hx
   have hi:i < ov.length:=(Pj.mp hx).1
   walk_at "r"
   refine Aw (sm.tup qa) rfl ?_
   walk_at "r"
   rw [Bs]
   refine ⟨_,hys,by rw [Pi,Pi,Qi]; omega,_,Ae,_,rfl,?_,sm.over hD⟩
   rw [R0,hy,Ul,Qo,Qo]
   rfl
  ·rintro ys σ' H' hys ⟨kv,rfl,rfl,sm⟩
   walk_at "r"
   refine ⟨D,_,rfl,SqL.of hys,?_⟩
   walk_at "r"
   have q':=q H' sm
   rw [hlen,Te]
   unfold Hc at q'
   rw [List.all_map]
   exact q'
noncomputable def Ef (rs:List Rx) (x:Str×V):Bool:=match x with
 | (w,.int k)=>decide (w = "row") && (match rs[k.toNat]? with | some r=>decide (r.wd∈(["fn", "rec"]:List Str)) | none=>false)
 | _=>false
noncomputable def RowOk (rs:List Rx) (x:Str×V):Prop:=x.1 = "row" -> ∃ k:Nat,x.2=.int (k:Nat)/\k < rs.length
noncomputable def Zg1 (K:O7):Sp:=fun vs H Q _=>∃ (v:V) (x:Str×V) (r:Addr) (rv:List V) (A:Addr->Prop) (rs:List Rx),vs=[v,.ref r]/\ThAt K H v x/\x.1 = "row" /\ RowOk rs x/\H r=some (.lst rv)/\Al (RwAt K A H) rv rs/\∀ H',Same H H'->Q (.bl (Ef rs x)) H'
theorem Zq2:A2 ["thing", "rows"] ["thing", "rows"] (Az Kq):=by walk_at "sc"
theorem Zm1 {f:Addr} {fd:FuncData} (F:Fun K "is_finished" "is_finished" Kq f fd) (T:Txt K mg):FnOk P w K mg base An 1 f fd ["thing", "rows"] (Zg1 K):=by
 refine F.okq Zq2 (fun vs H Q E h=>?_) (fun cdv A outer s H vs Q E hr h=>?_)
 ·obtain ⟨v,x,r,rv,A,rs,rfl,_⟩:=h
  rfl
 ·obtain ⟨v,x,r,rv,B,rs,rfl,hx,hw,ok,er,al,q⟩:=h
  refine ⟨_,Ag (Av (Zqh (E1 (E2 K hr.u200) (Ak K (qv 0) Ac) Ar (A5 _)) (Eu (E1 (Hf K) (Ak K (Ak K (qv 1) (Ak K (qv 0) Ac)) Ac) (Ah (Aa Ar (Aa Ar Ab))) (by rfl))))),?_⟩
  obtain ⟨hf,a,rfl,qa⟩:=hx
  obtain ⟨k,ek,hk⟩:=ok hw
  obtain ⟨xw,xv⟩:=x
  have hw:xw = "row" := hw
  have ek:xv=.int (k:Nat):=ek
  subst hw ek
  have hkr:k < rv.length:=by rw [al.1]; exact hk
  obtain ⟨y,hy,a2,p2,o2,e2,ov,ev,h1,h2,_⟩:=al.get (Pb hkr)
  have ef:Ef rs ("row",.int (k:Nat))=decide (y.wd∈(["fn", "rec"]:List Str)):=by
   unfold Ef
   simp only [Rf,hy,decide_true,Bool.true_and]
  rw [ef] at q
  walk_at "r"
  refine Aw qa rfl ?_
  walk_at "r"
  rw [decide_eq_true (Eq.refl _)]
  walk_at "r"
  refine Aw qa rfl ?_
  walk_at "r"
  refine Bp (SqL.of er) (Bc (Pb hkr)) ?_
  rw [h1]
  walk_at "r"
  refine Aw h2 rfl ?_
  walk_at "r"
  refine ⟨A3,fun p1 hp1=>?_⟩
  refine Gk (.inr (SqT.of Ae)) rfl rfl ?_
  rw [if_neg Pk,show Eg (.str y.wd) [.str "fn",.str "rec"]=decide (y.wd∈(["fn", "rec"]:List Str)) from Hv (ws:=["fn", "rec"])]
  exact q _ (Same.upd hp1)
noncomputable def Zg3 (K:O7) (C:Addr):Sp:=fun vs H Q _=>∃ (v:V) (x:Str×V) (HB:Hp) (kvs:List (List Ao×V)) (L:Ml) (S:MS),vs=[.ref L.m,v]/\MAt K HB C kvs L H S/\ThAt K H v x/\RowOk S.rows x/\∀ H',Same H H'->Q (.bl (Ef S.rows x)) H'
theorem Zo4:A2 ["self", "thing"] ["self", "thing"] (Az Jy):=by walk_at "sc"
theorem Ziq {C:Addr} {f:Addr} {fd:FuncData} (F:Fun K "is_function" "Machine.is_function" Jy f fd) (T:Txt K mg) (O:Mc K C) (C_is_finished:A8 P w K mg base 1 "is_finished" ["thing", "rows"] (Zg1 K)):FnOk P w K mg base An 2 f fd ["self", "thing"] (Zg3 K C):=by
 refine F.okq Zo4 (fun vs H Q E h=>?_) (fun cdv A outer s H vs Q E hr h=>?_)
 ·obtain ⟨v,x,HB,kvs,L,S,rfl,_⟩:=h
  rfl
 ·obtain ⟨v,x,HB,kvs,L,S,rfl,M,hx,ok,q⟩:=h
  refine ⟨_,Ag (Av (Ek (E1 (Bu K hr.u200) (Ak K (qv 1) Ac) Ar (A5 _)) (Eu (A1 C_is_finished hr.m (Aa (qv 1) (Aa (Bt K (qv 0)) Ab)))))),?_⟩
  obtain ⟨hf,a,rfl,qa⟩:=id hx
  obtain ⟨rv,er,ar,spr⟩:=M.rows
  walk_at "r"
  refine Aw qa rfl ?_
  walk_at "r"
  rw [Bs]
  by_cases hw:x.1 = "row"
  ·rw [decide_eq_true hw]
   walk_at "r"
   refine ⟨_,rfl,L.m,C,L.dx,_,_,rfl,M.ins,O.cl,O.nr,Kg L S.steps,?_⟩
   walk_at "r"
   exact ⟨_,x,L.rd,rv,_,S.rows,rfl,hx,hw,ok,er,ar.mono fun v x h=>h.1,q⟩
  ·rw [decide_eq_false hw]
   have e:Ef S.rows x=false:=by
    unfold Ef
    split
    ·simp only at hw
     rw [decide_eq_false hw]
     rfl
    ·rfl
   rw [e] at q
   walk_at "r"
   exact q H (Same.refl _)
noncomputable def D8 (wd:Str) (d:Dt) (n:Int):List Str :=
 if wd = "fn" then (match d with | .flat (.str z)=>[z] | _=>[])
 else if wd = "rec" then (match d with | .tup [.flat (.str y),.flat (.str z)]=>[y,z] | _=>[])
 else if wd = "let" /\ n=1 then (match d with | .flat (.str z)=>[z] | _=>[])
 else []
noncomputable def Ja (wd:Str) (d:Dt):Prop:=(wd = "fn" \/ wd = "let" -> ∃ z,d=.flat (.str z))/\(wd = "rec" -> ∃ y z,d=.tup [.flat (.str y),.flat (.str z)])
noncomputable def Zdq (K:O7):Sp:=fun vs H Q _=>∃ (v:V) (wd:Str) (d:Dt) (ts:List Tr) (n:Int),vs=[v,.int n]/\TrAt K H v (.mk wd d ts)/\Ja wd d/\∀ l H',Same H H'->H l=none->H' l=some (.lst ((D8 wd d n).map V.str))->Q (.ref l) H'
theorem Zrt:A2 ["form", "number"] ["form", "number"] (Az K4):=by walk_at "sc"
theorem Zk2 {f:Addr} {fd:FuncData} (F:Fun K "names_bound" "names_bound" K4 f fd) (T:Txt K mg):FnOk P w K mg base An 1 f fd ["form", "number"] (Zdq K):=by
 refine F.okq Zrt (fun vs H Q E h=>?_) (fun cdv A outer s H vs Q E hr h=>?_)
 ·obtain ⟨v,wd,d,ts,n,rfl,_⟩:=h
  rfl
 ·obtain ⟨v,wd,d,ts,n,rfl,ht,ok,q⟩:=h
  refine ⟨_,Ad (A7 (A6 (Bu K hr.u200) (Ak K (qv 0) Ac) Ar (A5 _)) (Ag (Av (Bm (Aa (Ak K (qv 0) Ac) Ab)))) Ba)
   (Ad (A7 (A6 (Bu K hr.u200) (Ak K (qv 0) Ac) Ar (A5 _)) (Ag (Av (Fc (Hz K) (by rfl) T.list (by decide +kernel) (Aa (Ak K (qv 0) Ac) Ab)))) Ba)
   (Ad (A7 (QW.qt (E5 (A6 (Bu K hr.u200) (Ak K (qv 0) Ac) Ar (A5 _)) (Fn (A6 (Bu K hr.u200) (qv 1) Ac (A5 _))))) (Ag (Av (Bm (Aa (Ak K (qv 0) Ac) Ab)))) Ba)
   (Ag (Av (Bm Ab))))),?_⟩
  cases ht with
  | @mk b pp _ nv _ vs _ qb hn qpp hl hch =>
  have flat:∀ z,d=.flat (.str z)->nv=.str z:=by
   intro z e
   rcases hn with ⟨_,h⟩ | ⟨_,_,_,_,_,h⟩
   ·rw [e] at h; injection h with h; exact h.symm
   ·rw [e] at h; cases h
  unfold D8 at q
  walk_at "r"
  refine Aw qb rfl ?_
  walk_at "r"
  rw [Bs]
  refine C2 (fun h=>?_) (fun h=>?_)
  ·have h:wd = "fn" := of_decide_eq_true h
   obtain ⟨z,rfl⟩:=ok.1 (.inl h)
   have:=flat z rfl
   subst this
   rw [if_pos h] at q
   walk_at "r"
   refine Aw qb rfl ?_
   walk_at "r"
   refine ⟨Cj,fun l hl'=>?_⟩
   exact q l _ (Same.upd hl') hl' Ae
  have h:¬ wd = "fn" := fun x=>h (decide_eq_true x)
  rw [if_neg h] at q
  walk_at "r"
  refine Aw qb rfl ?_
  walk_at "r"
  rw [Bs]
  refine C2 (fun h=>?_) (fun h=>?_)
  ·have h:wd = "rec" := of_decide_eq_true h
   obtain ⟨y,z,rfl⟩:=ok.2 h
   rw [if_pos h] at q
   obtain ⟨a,us,rfl,qa,hus⟩:∃ a us,nv=.ref a/\SqT K H a us/\us=[.str y,.str z]:=by
    rcases hn with ⟨_,h⟩ | ⟨a,us,e,qa,_,h⟩
    ·cases h
    ·refine ⟨a,us,e,qa,?_⟩
     injection h with h
     match us,h with
     | [u1,u2],h =>
      simp only [Qq,List.map_nil,V7,Dt.flat.injEq,and_true] at h
      rw [h.1,h.2]
   subst hus
   walk_at "r"
   refine Aw qb rfl ?_
   walk_at "r"
   refine ⟨a,_,rfl,.inr qa,fun l hl'=>?_⟩
   exact q l _ (Same.upd hl') hl' Ae
  have h:¬ wd = "rec" := fun x=>h (decide_eq_true x)
  rw [if_neg h] at q
  walk_at "r"
  refine Aw qb rfl ?_
  walk_at "r"
  rw [Bs]
  by_cases hlet:wd = "let"
  ·rw [decide_eq_true hlet]
   walk_at "r"
   by_cases hn1:n=1
   ·rw [decide_eq_true (by rw [hn1])]
    obtain ⟨z,rfl⟩:=ok.1 (.inr hlet)
    have:=flat z rfl
    subst this
    rw [if_pos ⟨hlet,hn1⟩] at q
    walk_at "r"
    refine Aw qb rfl ?_
    walk_at "r"
    refine ⟨Cj,fun l hl'=>?_⟩
    exact q l _ (Same.upd hl') hl' Ae
   ·rw [decide_eq_false (fun h=>hn1 (V.int.inj h))]
    rw [if_neg (fun h=>hn1 h.2)] at q
    walk_at "r"
    refine ⟨A9,fun l hl'=>?_⟩
    exact q l _ (Same.upd hl') hl' Ae
  ·rw [decide_eq_false hlet]
   rw [if_neg (fun h=>hlet h.1)] at q
   walk_at "r"
   refine ⟨A9,fun l hl'=>?_⟩
   exact q l _ (Same.upd hl') hl' Ae
noncomputable def Gu (ns:List Str) (xs:List (Str×V)):List (Str×Str×V):=ns.zip xs
noncomputable def Fh (S:MS) (wd:Str) (d:Dt) (pl:List Nat) (n:Nat) (ar:List (Str×Str×V)) (xs:List (Str×V)):MS:={ S with wait:=S.wait++[⟨pl++[n],ar++Gu (D8 wd d n) xs,false⟩] }
noncomputable def Lp (K:O7) (C:Addr):Sp:=fun vs H Q _=>∃ (p e o:Addr) (n:Nat) (pl:List Nat) (ev ov:List V) (ar:List (Str×Str×V)) (xs:List (Str×V)) (HB:Hp) (kvs:List (List Ao×V)) (L:Ml) (S:MS) (v:V) (wd:Str) (d:Dt) (ts:List Tr),vs=[.ref L.m,.ref p,.int (n:Nat),.ref e,.ref o]/\MAt K HB C kvs L H S/\H p=some (.tup (A0 pl))/\H e=some (.lst ev)/\Al (PrAt K H) ev ar/\H o=some (.lst ov)/\Al (ThAt K H) ov xs/\Bx kvs (Db pl)=some v/\TrAt K H v (.mk wd d ts)/\Ja wd d/\pl.length<=2000/\ar.length<=9000/\S.wait.length < 9000 /\
 ∀ H',SameM L H H'->MAt K HB C kvs L H' (Fh S wd d pl n ar xs)->Q .non H'
theorem Zdz:A2 ["self", "place", "number", "around", "things", "names"] ["self", "place", "number", "around", "things"] (Az Jj):=by walk_at "sc"
theorem Zmi (wd:Str) (d:Dt) (n:Int):(D8 wd d n).length<=2:=by
 unfold D8
 repeat' split
 all_goals simp
theorem Zi4 {C:Addr} {f:Addr} {fd:FuncData} (F:Fun K "go_within" "Machine.go_within" Jj f fd) (T:Txt K mg) (O:Mc K C) (C_names_bound:A8 P w K mg base 1 "names_bound" ["form", "number"] (Zdq K)):FnOk P w K mg base An 2 f fd ["self", "place", "number", "around", "things"] (Lp K C):=by
 refine F.okq Zdz (fun vs H Q E h=>?_) (fun cdv A outer s H vs Q E hr h=>?_)
 ·obtain ⟨p,e,o,n,pl,ev,ov,ar,xs,HB,kvs,L,S,v,wd,d,ts,rfl,_⟩:=h
  rfl
 ·obtain ⟨p,e,o,n,pl,ev,ov,ar,xs,HB,kvs,L,S,v,wd,d,ts,rfl,M,hp,he,ale,ho,alo,hv,ht,bk,hpl,hal,hwl,q⟩:=h
  refine ⟨_,Ad (Ay 5 Zdz (A1 C_names_bound hr.m (Aa (Kp hr.u1 (Bt K (qv 0)) (qv 1) (fun _ _=>rfl)) (Aa (qv 2) Ab))))
   (Ag (Be (B2 K Po Py Pz B6 (Bt K (qv 0)) (Aa (Ah (Aa (Au (Gs K) (qv 1) (Ah (Aa (qv 2) Ab))) (Aa (Au (B8 K) (qv 3) (Zqq K (by rfl) T.list (by rfl) T.zip (Aa (qv 5) (Aa (qv 4) Ab)))) (Aa Cz Ab)))) Ab)))),?_⟩
  have bg:=big
  have bn:=Zmi wd d n
  walk_at "r"
  refine ⟨_,rfl,L.m,C,L.dx,_,_,rfl,M.ins,O.cl,O.nf,Lh L S.steps,_,rfl,L.fd,v,rfl,?_,?_⟩
  ·rw [<- hv]
   refine DGet.t M.frm ?_
   rw [K8]
   exact hp
  walk_at "r"
  refine ⟨v,wd,d,ts,n,rfl,ht,bk,fun l H1 s1 hl e1=>?_⟩
  have M1:=M.new s1
  obtain ⟨wv,ew,aw⟩:=M1.wait
  have hwv:=aw.1
  walk_at "r"
  refine ⟨_,rfl,L.m,C,L.dx,_,_,rfl,M1.ins,O.cl,O.nw,Fe L S.steps,?_⟩
  refine Br (SqL.of ew) ?_
  walk_at "r"
  refine ⟨Cj,fun p2 hp2=>?_⟩
  obtain ⟨H2,s2,e2,z9⟩:=Aj hp2 (.tup [.int (n:Nat)])
  rw [z9]
  refine Hr (s2 _ _ (s1 _ _ hp)) e2 (by unfold A0; rw [Pi,Ph]; omega) fun p3 H3 s3 e3=>?_
  have s03:=s1.trans (s2.trans s3)
  walk_at "r"
  refine Zpr ?_
  walk_at "r"
  refine ⟨l,o,_,ov,rfl,SqL.of (s3 _ _ (s2 _ _ e1)),SqL.of (s03 _ _ ho),fun z zs H4 hz0 s4 hzl hzp ez=>?_⟩
  have s04:=s03.trans s4
  have he4:=s04 _ _ he
  have alz:Al (PrAt K H4) zs (Gu (D8 wd d n) xs):=by
   have hlo:=alo.1
   refine ⟨by unfold Gu; rw [hzl,Pi,List.length_zip,hlo],fun j y x f1 f2=>?_⟩
   obtain ⟨t,u1,u2,rfl,g1,g2,g3⟩:=hzp j y f1
   unfold Gu at f2
   rw [List.getElem?_zip_eq_some] at f2
   rw [Qn,f2.1] at g1
   cases g1
   exact ⟨t,u2,rfl,SqT.of g3,ThAt.same s04.t _ _ (alo.2 j _ _ g2 f2.2)⟩
  have hzl2:zs.length<=2:=by rw [hzl,Pi]; omega
  have hel:=ale.1
  refine Ld he4 ez (by omega) fun e5 he5=>?_
  have s5:Same H4 (upd H4 e5 (.lst (ev++zs))):=Same.upd he5
  have ee5:upd H4 e5 (.lst (ev++zs)) e5=some (.lst (ev++zs)):=Ae
  have nA5:¬ L.A e5:=by
   have M4:=M.new s04
   obtain ⟨rv,er,_⟩:=M4.rows
   obtain ⟨wv',ew',_⟩:=M4.wait
   obtain ⟨tv,et,_⟩:=M4.things
   rintro (y | y | y)
   ·rw [y,er] at he5; cases he5
   ·rw [y,ew'] at he5; cases he5
   ·rw [y,et] at he5; cases he5
  revert s5 ee5
  generalize upd H4 e5 (.lst (ev++zs))=H5
  intro s5 ee5
  have s05:=s04.trans s5
  walk_at "r"
  refine ⟨Bd,fun r hr'=>?_⟩
  obtain ⟨H6,s6,e6,z9⟩:=Aj hr' (.tup [.ref p3,.ref e5,.bl false])
  rw [z9]
  have s06:=s05.trans s6
  have s16:=s2.trans (s3.trans (s4.trans (s5.trans s6)))
  walk_at "r"
  refine B4 (s16 _ _ ew) (by omega) ?_
  have M6:=M.new s06
  have M7:=M6.setWait (wv:=wv++[.ref r]) (ws:=S.wait++[⟨pl++[n],ar++Gu (D8 wd d n) xs,false⟩]) ((aw.mono (WtAt.same s16.a)).snoc ⟨r,p3,e5,ev++zs,rfl,SqT.of e6,?_,s6 _ _ ee5,?_,nA5⟩)
  ·walk_at "r"
   exact q _ ((s06.m L).trans (SameM.upd (.inr (.inr (.inl rfl))))) M7
  ·have e9:=s6 _ _ (s5 _ _ (s4 _ _ e3))
   rw [e9]
   unfold A0
   rw [Qo]
   rfl
  ·exact (ale.mono (PrAt.same s06.t)).append (alz.mono (PrAt.same (s5.trans s6).t))
theorem Iw (L:Ml) (n:Int):(L.fs n).lookup ("go_within" : Str)=none/\(L.fs n).lookup ("is_function" : Str)=none/\(L.fs n).lookup ("call" : Str)=none:=⟨rfl,rfl,rfl⟩
noncomputable def Zew (K:O7) (C:Addr):Sp:=fun vs H Q _=>∃ (o:Addr) (ov:List V) (k:Nat) (xs:List (Str×V)) (r:Rx) (pl:List Nat) (HB:Hp) (kvs:List (List Ao×V)) (L:Ml) (S:MS) (v:V) (wd:Str) (d:Dt) (ts:List Tr),vs=[.ref L.m,.ref o]/\MAt K HB C kvs L H S/\H o=some (.lst ov)/\Al (ThAt K H) ov (("row",.int (k:Nat)) :: xs)/\S.rows[k]?=some r/\r.pl=As pl/\Bx kvs (Db pl)=some v/\TrAt K H v (.mk wd d ts)/\Ja wd d/\pl.length<=2000/\r.ar.length<=9000/\S.wait.length < 9000/\xs.length<=1000 /\
 ∀ H',SameM L H H'->MAt K HB C kvs L H' (Fh S wd d pl 0 r.ar (if r.wd = "rec" then ("row",.int (k:Nat)) :: xs else xs))->Q .non H'
theorem Zdx:A2 ["self", "operands", "row"] ["self", "operands"] (Az K0):=by walk_at "sc"
theorem Zof {C:Addr} {f:Addr} {fd:FuncData} (F:Fun K "call" "Machine.call" K0 f fd) (T:Txt K mg) (O:Mc K C) (MW:Ck An P w K mg base 2 C "go_within" ["self", "place", "number", "around", "things"] (Lp K C)):FnOk P w K mg base An 3 f fd ["self", "operands"] (Zew K C):=by
 refine F.okq Zdx (fun vs H Q E h=>?_) (fun cdv A outer s H vs Q E hr h=>?_)
 ·obtain ⟨o,ov,k,xs,r,pl,HB,kvs,L,S,v,wd,d,ts,rfl,_⟩:=h
  rfl
 ·obtain ⟨o,ov,k,xs,r,pl,HB,kvs,L,S,v,wd,d,ts,rfl,M,ho,alo,hr1,hpl,hv,ht,bk,hpn,har,hwl,hxl,q⟩:=h
  refine ⟨_,Ad (Ay 2 Zdx (Ak K (Bt K (qv 0)) (Ak K (Ak K (qv 1) Ac) Ac)))
   (Ag (Be (C7 (k:=2) K An ["self", "place", "number", "around", "things"] (qv 0) hr.m Cw (Aa (Ak K (qv 2) Ac) (Aa Ac (Aa (Ak K (qv 2) Ac) (Aa (Ll (A6 (Bu K hr.u200) (Ak K (qv 2) Ac) Ar (A5 _)) (qv 1) (Fk (Iy K) (qv 1) (Fy Ac) (Fw))) Ab))))))),?_⟩
  have bg:=big
  obtain ⟨rv,er,ar,spr⟩:=M.rows
  obtain ⟨u,hu⟩:∃ u,rv[k]?=some u:=⟨_,Pb (by rw [ar.1]; exact (Pj.mp hr1).1)⟩
  obtain ⟨r',hr',xr⟩:=ar.get hu
  rw [hr1] at hr'
  cases hr'
  obtain ⟨⟨a,p',o',e,ops',ev,rfl,qa,_,_,_,he,ale,_,nAe⟩,a2,p,o2,e2,ea,qa2,hp⟩:=xr
  cases ea
  obtain ⟨u0,us,rfl⟩:∃ u0 us,ov=u0 :: us:=by
   have hl:=alo.1
   match ov,hl with
   | u0 :: us,_=>exact ⟨u0,us,rfl⟩
  obtain ⟨_,ax,rfl,qx⟩:=alo.2 0 u0 _ rfl rfl
  have hp':H p=some (.tup (A0 pl)):=by rw [hp,hpl,Cv]
  walk_at "r"
  refine ⟨_,rfl,L.m,C,L.dx,_,_,rfl,M.ins,O.cl,O.nr,Kg L S.steps,?_⟩
  walk_at "r"
  refine Bp (SqL.of ho) (Bc (j:=0) rfl) ?_
  walk_at "r"
  refine Aw qx rfl ?_
  refine Bp (SqL.of er) (Bc hu) ?_
  walk_at "r"
  refine ⟨_,rfl,L.m,C,L.dx,_,_,rfl,M.ins,(Iw L S.steps).1,MW,?_⟩
  walk_at "r"
  refine Aw qa2 rfl ?_
  walk_at "r"
  refine Aw qa rfl ?_
  walk_at "r"
  unfold Ip
  walk_at "r"
  refine Aw qa rfl ?_
  walk_at "r"
  rw [Bs]
  by_cases hw:r.wd = "rec"
  ·rw [if_pos hw] at q
   rw [decide_eq_true hw]
   walk_at "r"
   exact ⟨p,e,o,0,pl,ev,_,r.ar,_,HB,kvs,L,S,v,wd,d,ts,rfl,M,hp',he,ale,ho,alo,hv,ht,bk,hpn,har,hwl,fun H2 e2 M2=>by walk_at "r"; exact q _ e2 M2⟩
  ·rw [if_neg hw] at q
   rw [decide_eq_false hw]
   walk_at "r"
   refine Nq (SqL.of ho) fun l hl=>?_
   have ec:Cf (V.ref ax :: us) (some 1) none=us:=Zcj _ 1
   rw [ec]
   obtain ⟨H2,s2,e2,z9⟩:=Aj hl (.lst us)
   rw [z9]
   have alu:Al (ThAt K H2) us xs:=⟨by have:=alo.1; simpa using this,fun j y x f1 f2=>ThAt.same s2.t _ _ (alo.2 (j + 1) y x (by simpa using f1) (by simpa using f2))⟩
   exact ⟨p,e,l,0,pl,ev,us,r.ar,xs,HB,kvs,L,S,v,wd,d,ts,rfl,M.new s2,s2 _ _ hp',s2 _ _ he,ale.mono (PrAt.same s2.t),e2,alu,hv,ht.same s2,bk,hpn,har,hwl,fun H3 e3 M3=>by walk_at "r"; exact q _ ((s2.m L).trans e3) M3⟩
theorem Zk0 (xs:List V) (n:Nat) (h0:0 < n) (h:n<=xs.length):Cf xs (some (-(n:Int))) none=xs.drop (xs.length - n)/\Cf xs none (some (-(n:Int)))=xs.take (xs.length - n):=by
 unfold Cf
 have e:∀ d,HT.sIx xs.length d (some (-(n:Int)))=xs.length - n:=by
  intro d
  show (if (-(n:Int)) < 0 then ((-(n:Int)) + (xs.length:Int)).toNat else min (-(n:Int)).toNat xs.length)=_
  rw [if_pos (by omega)]
  omega
 rw [e,e,HT.sIx_none,HT.sIx_none,Tp,List.drop_zero]
 refine ⟨?_,rfl⟩
 rw [Rv (by rw [Se]; omega)]
noncomputable def Zev (K:O7) (C:Addr):Sp:=fun vs H Q _=>∃ (n:Nat) (th last:List (Str×V)) (HB:Hp) (kvs:List (List Ao×V)) (L:Ml) (S:MS),vs=[.ref L.m,.int (n:Nat)]/\MAt K HB C kvs L H S/\0 < n/\S.things=th++last/\last.length=n /\
 ∀ (l t:Addr) (lv:List V) (H':Hp),SameM L H H'->MAt K HB C kvs (L.with t) H' { S with things:=th }->H t=none->H' l=some (.lst lv)->Al (ThAt K H') lv last->H l=none->l≠t->Q (.ref l) H'
theorem Zc8:A2 ["self", "many", "taken"] ["self", "many"] (Az Ji):=by walk_at "sc"
theorem Zmp {C:Addr} {f:Addr} {fd:FuncData} (F:Fun K "taken_things" "Machine.taken_things" Ji f fd) (T:Txt K mg) (O:Mc K C):FnOk P w K mg base An 1 f fd ["self", "many"] (Zev K C):=by
 refine F.okq Zc8 (fun vs H Q E h=>?_) (fun cdv A outer s H vs Q E hr h=>?_)
 ·obtain ⟨n,th,last,HB,kvs,L,S,rfl,_⟩:=h
  rfl
 ·obtain ⟨n,th,last,HB,kvs,L,S,rfl,M,n0,hS,hln,q⟩:=h
  refine ⟨_,Ad (Ay 2 Zc8 (Fk (Iy K) (Bt K (qv 0)) (Fy (Hd Hl (qv 1))) (Fw)))
   (Ad (Ih K (qv 0) (Fk (Iy K) (Bt K (qv 0)) (Fw) (Fy (Hd Hl (qv 1)))))
   (Ag (Av (qv 2)))),?_⟩
  obtain ⟨tv,et,att⟩:=M.things
  have hlt:tv.length=th.length + n:=by rw [att.1,hS,Pc,hln]
  obtain ⟨c1,c2⟩:=Zk0 tv n n0 (by omega)
  have e0:tv.length - n=th.length:=by omega
  rw [e0] at c1 c2
  rw [hS] at att
  walk_at "r"
  refine ⟨_,rfl,L.m,C,L.dx,_,_,rfl,M.ins,O.cl,O.nt,Ft L S.steps,?_⟩
  walk_at "r"
  refine Nq (SqL.of et) fun l hl=>?_
  rw [c1]
  obtain ⟨H1,s1,e1,z9⟩:=Aj hl (.lst (tv.drop th.length))
  rw [z9]
  have M1:=M.new s1
  walk_at "r"
  refine ⟨_,rfl,L.m,C,L.dx,_,_,rfl,M1.ins,O.cl,O.nt,Ft L S.steps,?_⟩
  walk_at "r"
  refine Nq (SqL.of (s1 _ _ et)) fun t ht=>?_
  rw [c2]
  obtain ⟨H2,s2,e2,z9⟩:=Aj ht (.lst (tv.take th.length))
  rw [z9]
  have s02:=s1.trans s2
  have M2:=M.new s02
  have hlt':l≠t:=fun z=>by rw [<- z,e1] at ht; cases ht
  have ht0:=s1.free ht
  have a1:Al (ThAt K H2) (tv.take th.length) th:=⟨by rw [Qi]; omega,fun j v x f1 f2=>by
   have hj:j < th.length:=(Pj.mp f2).1
   rw [List.getElem?_take_of_lt hj] at f1
   exact ThAt.same s02.t _ _ (att.2 j v x f1 (by rw [P0 hj]; exact f2))⟩
  have a2:Al (ThAt K H2) (tv.drop th.length) last:=⟨by rw [Se]; omega,fun j v x f1 f2=>by
   rw [List.getElem?_drop] at f1
   exact ThAt.same s02.t _ _ (att.2 (th.length + j) v x f1 (by rw [Rb (by omega),Nat.add_sub_cancel_left]; exact f2))⟩
  obtain ⟨M3,e3⟩:=M.swap s02 ht0 e2 a1
  refine ⟨_,rfl,L.m,C,L.dx,_,rfl,M2.ins,O.cl,O.nt,by show 5 < 1000; decide,?_⟩
  rw [Zne]
  have nlm:l≠L.m:=fun z=>by rw [z,M.ins] at hl; cases hl
  walk_at "r"
  refine q l t _ _ e3 M3 ht0 ((Af nlm).trans (s2 _ _ e1)) (a2.mono (ThAt.same ?_)) hl hlt'
  exact M2.t (SameM.upd (.inl rfl))
noncomputable def Er (wd:Str) (i j:Int):Str×V:=if wd = "plus" then ("num",.int (i + j)) else if wd = "minus" then ("num",.int (i - j)) else ("truth",.bl (decide (i < j)))
noncomputable def Zgw (K:O7):Sp:=fun vs H Q _=>∃ (wd:Str) (i j:Int),vs=[.str wd,.int i,.int j]/\∀ v H',Same H H'->ThAt K H' v (Er wd i j)->Q v H'
theorem Zm6:A2 ["word", "left", "right"] ["word", "left", "right"] (Az Jn):=by walk_at "sc"
theorem Zii {f:Addr} {fd:FuncData} (F:Fun K "reckoned" "reckoned" Jn f fd) (T:Txt K mg):FnOk P w K mg base An 1 f fd ["word", "left", "right"] (Zgw K):=by
 refine F.okq Zm6 (fun vs H Q E h=>?_) (fun cdv A outer s H vs Q E hr h=>?_)
 ·obtain ⟨wd,i,j,rfl,_⟩:=h
  rfl
 ·obtain ⟨wd,i,j,rfl,q⟩:=h
  refine ⟨_,Ad (A7 (A6 (Bu K hr.u200) (qv 0) Ar (A5 _)) (Ag (Av (Ah (Aa Ar (Aa (Au (B8 K) (qv 1) (qv 2)) Ab))))) Ba)
   (Ad (A7 (A6 (Bu K hr.u200) (qv 0) Ar (A5 _)) (Ag (Av (Ah (Aa Ar (Aa (Au El (qv 1) (qv 2)) Ab))))) Ba)
   (Ag (Av (Ah (Aa Ar (Aa (E1 Jr (qv 1) (qv 2) (A5 _)) Ab)))))),?_⟩
  unfold Er at q
  walk_at "r"
  rw [Bs]
  refine C2 (fun h=>?_) (fun h=>?_)
  ·have h:wd = "plus" := of_decide_eq_true h
   rw [if_pos h] at q
   walk_at "r"
   refine ⟨A3,fun p hp=>?_⟩
   exact q _ _ (Same.upd hp) ⟨rfl,p,rfl,SqT.of Ae⟩
  have h:¬ wd = "plus" := fun x=>h (decide_eq_true x)
  rw [if_neg h] at q
  walk_at "r"
  rw [Bs]
  refine C2 (fun h=>?_) (fun h=>?_)
  ·have h:wd = "minus" := of_decide_eq_true h
   rw [if_pos h] at q
   walk_at "r"
   refine ⟨A3,fun p hp=>?_⟩
   exact q _ _ (Same.upd hp) ⟨rfl,p,rfl,SqT.of Ae⟩
  have h:¬ wd = "minus" := fun x=>h (decide_eq_true x)
  rw [if_neg h] at q
  walk_at "r"
  refine ⟨A3,fun p hp=>?_⟩
  exact q _ _ (Same.upd hp) ⟨rfl,p,rfl,SqT.of Ae⟩
noncomputable def Ht:V->Int
 | .int i=>i
 | _=>0
noncomputable def Cr (x:Str×V):Prop:=x.1 = "num" -> ∃ i,x.2=.int i
noncomputable def Dp:List Str:=["plus", "minus", "less"]
noncomputable def Es (S:MS) (wd:Str) (pl:List Nat) (th:List (Str×V)) (x y:Str×V):MS :=
 if wd∈Dp/\x.1 = "num" /\ y.1 = "num" then { S with things:=th++[Er wd (Ht x.2) (Ht y.2)] }
 else { S with rows:=S.rows++[⟨wd,As pl,[x,y],[]⟩],things:=th++[(("row" : Str),V.int (S.rows.length:Nat))] }
noncomputable def FormsAt (K:O7) (H:Hp) (kvs:List (List Ao×V)) (sub:List Nat->Option (Str×Dt)):Prop:=∀ pl wd d,sub pl=some (wd,d)->pl.length<=2000/\∃ v ts,Bx kvs (Db pl)=some v/\TrAt K H v (.mk wd d ts)
theorem FormsAt.same {K:O7} {H H':Hp} {kvs:List (List Ao×V)} {sub:List Nat->Option (Str×Dt)} (h:FormsAt K H kvs sub) (e:SameT H H'):FormsAt K H' kvs sub:=fun pl wd d hs=>by
 obtain ⟨h1,v,ts,h2,h3⟩:=h pl wd d hs
 exact ⟨h1,v,ts,h2,h3.sameT e⟩
inductive F6 (sub:List Nat->Option (Str×Dt)) (wd:Str) (d:Dt) (pl:List Nat) (ar:List (Str×Str×V)) (S:MS):MS->Prop where
 | two {th:List (Str×V)} {x y:Str×V} (h:wd∈Dp\/wd = "call" /\ Ef S.rows x=false) (hS:S.things=th++[x,y]) (ok:RowOk S.rows x) (ox:Cr x) (oy:Cr y):F6 sub wd d pl ar S (Es S wd pl th x y)
 | calls {th:List (Str×V)} {k:Nat} {y:Str×V} {r:Rx} {pl':List Nat} {wd':Str} {d':Dt} (h:wd = "call") (hS:S.things=th++[(("row" : Str),V.int (k:Nat)),y]) (hr:S.rows[k]?=some r) (hf:r.wd∈(["fn", "rec"]:List Str)) (hp:r.pl=As pl') (hs:sub pl'=some (wd',d')) (bk:Ja wd' d') (ha:r.ar.length<=9000):F6 sub wd d pl ar S (Fh { S with things:=th } wd' d' pl' 0 r.ar (if r.wd = "rec" then [(("row" : Str),V.int (k:Nat)),y] else [y]))
 | ifs {th:List (Str×V)} {b:Bool} (h:wd = "if") (hS:S.things=th++[(("truth" : Str),V.bl b)]) (bk:Ja wd d):F6 sub wd d pl ar S (Fh { S with things:=th } wd d pl (if b then 1 else 2) ar [])
 | lets {th:List (Str×V)} {x:Str×V} (h:wd = "let") (hS:S.things=th++[x]) (bk:Ja wd d):F6 sub wd d pl ar S (Fh { S with things:=th } wd d pl 1 ar [x])
noncomputable def Zed (K:O7) (C:Addr):Sp:=fun vs H Q _=>∃ (p e:Addr) (pl:List Nat) (ev:List V) (ar:List (Str×Str×V)) (HB:Hp) (kvs:List (List Ao×V)) (L:Ml) (S S2:MS) (v:V) (wd:Str) (d:Dt) (ts:List Tr),vs=[.ref L.m,.ref p,.ref e]/\MAt K HB C kvs L H S/\H p=some (.tup (A0 pl))/\H e=some (.lst ev)/\Al (PrAt K H) ev ar/\¬ L.A e/\Bx kvs (Db pl)=some v/\TrAt K H v (.mk wd d ts)/\∃ sub:List Nat->Option (Str×Dt),FormsAt K H kvs sub/\F6 sub wd d pl ar S S2/\S.rows.length < 9000/\S.things.length < 9000/\S.wait.length < 9000/\pl.length<=2000/\ar.length<=9000 /\
 ∀ H' t,SameM L H H'->MAt K HB C kvs (L.with t) H' S2->H t=none->Q .non H'
theorem Nz:A2 ["self", "place", "around", "word", "operands"] ["self", "place", "around"] (Az Jw):=by walk_at "sc"
theorem Zpd {C:Addr} {f:Addr} {fd:FuncData} (F:Fun K "go_further" "Machine.go_further" Jw f fd) (T:Txt K mg) (O:Mc K C) {ap:Addr} {pk:List (Str×V)} (G_PARTS_AWAITED:Ea mg "PARTS_AWAITED" (.ref ap)) (hpa:Fs P w K ap pk) (hpk:∀ wd,(C9 pk wd).isSome=(Bf wd).isSome/\∀ ns,Bf wd=some ns->∃ b,C9 pk wd=some (.ref b)/\∀ H,SqT K H b (ns.map V.int))
  (MT:Ck An P w K mg base 1 C "taken_things" ["self", "many"] (Zev K C)) (MR:Ck An P w K mg base 1 C "new_row" ["self", "word", "place", "operands", "around"] (Ka K C)) (MW:Ck An P w K mg base 2 C "go_within" ["self", "place", "number", "around", "things"] (Lp K C)) (MC:Ck An P w K mg base 3 C "call" ["self", "operands"] (Zew K C)) (MI:Ck An P w K mg base 2 C "is_function" ["self", "thing"] (Zg3 K C)) (C_are_numbers:A8 P w K mg base 1 "are_numbers" ["things"] (Zfx K)) (C_reckoned:A8 P w K mg base 1 "reckoned" ["word", "left", "right"] (Zgw K)):FnOk P w K mg base An 4 f fd ["self", "place", "around"] (Zed K C):=by
 refine F.okq Nz (fun vs H Q E h=>?_) (fun cdv A outer s H vs Q E hr h=>?_)
 ·obtain ⟨p,e,pl,ev,ar,HB,kvs,L,S,S2,v,wd,d,ts,rfl,_⟩:=h
  rfl
 ·obtain ⟨p,e,pl,ev,ar,HB,kvs,L,S,S2,v,wd,d,ts,rfl,M,hp,he,ale,nA,hv,ht,sub,FA,fur,z1,z3,z2,hpl,har,q⟩:=h
  refine ⟨_,Ad (Ay 3 Nz (Ak K (Kp hr.u1 (Bt K (qv 0)) (qv 1) (fun _ _=>rfl)) Ac))
   (Ad (Ay 4 Nz (C7 (k:=1) K An ["self", "many"] (qv 0) hr.m Cw (Aa (Bj (Df K) (by rfl) T.len (by decide +kernel) (Aa (Lv (Zb0 P w K) (Fb G_PARTS_AWAITED) (qv 3) (fun _ _=>rfl)) Ab)) Ab)))
   (Ag (A7 (A6 (Bu K hr.u200) (qv 3) Ar (A5 _)) (Ag (Be (C7 (k:=2) K An ["self", "place", "number", "around", "things"] (qv 0) hr.m Cw (Aa (qv 1) (Aa Ac (Aa (qv 2) (Aa (qv 4) Ab))))))) (Ag (A7 (QW.qt (E5 (A6 (Bu K hr.u200) (qv 3) Ar (A5 _)) (Fn (A6 (Bu K hr.u200) (Ak K (Ak K (qv 4) Ac) Ac) Ar (A5 _))))) (Ag (Be (C7 (k:=2) K An ["self", "place", "number", "around", "things"] (qv 0) hr.m Cw (Aa (qv 1) (Aa (Ll (Da (Ak K (Ak K (qv 4) Ac) Ac)) Ac Ac) (Aa (qv 2) (Aa (Bm Ab) Ab))))))) (Ag (A7 (QW.qt (E5 (A6 (Bu K hr.u200) (qv 3) Ar (A5 _)) (Fn (Da (C7 (k:=2) K An ["self", "thing"] (qv 0) hr.m Cw (Aa (Ak K (qv 4) Ac) Ab)))))) (Ag (Be (C7 (k:=3) K An ["self", "operands"] (qv 0) hr.m Cw (Aa (qv 4) Ab)))) (Ag (A7 (QW.qt (E5 (A6 (Hf K) (qv 3) (Ah (Aa Ar (Aa Ar (Aa Ar Ab)))) (by rfl)) (Fn (Da (A1 C_are_numbers hr.m (Aa (qv 4) Ab)))))) (Ag (Be (B2 K Po Py Pz B6 (Bt K (qv 0)) (Aa (A1 C_reckoned hr.m (Aa (qv 3) (Aa (Ak K (Ak K (qv 4) Ac) Ac) (Aa (Ak K (Ak K (qv 4) Ac) Ac) Ab)))) Ab)))) (Ag (Be (B2 K Po Py Pz B6 (Bt K (qv 0)) (Aa (C7 (k:=1) K An ["self", "word", "place", "operands", "around"] (qv 0) hr.m Cw (Aa (qv 3) (Aa (qv 1) (Aa (qv 4) (Aa (qv 2) Ab))))) Ab))))))))))))),?_⟩
  have bg:=big
  have htr:=ht
  cases ht with
  | @mk b pp _ nv _ vs _ qb hn qpp hl hch =>
  walk_at "r"
  refine ⟨_,rfl,L.m,C,L.dx,_,_,rfl,M.ins,O.cl,O.nf,Lh L S.steps,_,rfl,L.fd,.ref b,rfl,?_,?_⟩
  ·rw [<- hv]
   refine DGet.t M.frm ?_
   rw [K8]
   exact hp
  walk_at "r"
  refine Aw qb rfl ?_
  walk_at "r"
  refine ⟨_,rfl,L.m,C,L.dx,_,_,rfl,M.ins,(C1 L S.steps).2.2.2.2.2.1,MT,?_⟩
  cases fur with
  | @lets th x hwl hS bk =>
   subst hwl
   obtain ⟨bt,hbt,qbt⟩:=(hpk "let").2 [0] (by decide +kernel)
   walk_at "r"
   refine ⟨ap,pk, "let",.ref bt,rfl,rfl,hpa,hbt,?_⟩
   walk_at "r"
   refine Fl (qbt _) ?_
   walk_at "r"
   refine ⟨1,th,[x],HB,kvs,L,S,rfl,M,by decide,hS,rfl,fun o t ov H1 e1 M1 ht0 ho alo ho0 hot=>?_⟩
   have t1:=M.t e1
   walk_at "r"
   rw [decide_eq_true (Eq.refl _)]
   refine iteT ?_
   walk_at "r"
   refine ⟨_,rfl,L.m,C,L.dx,_,_,rfl,M1.ins,(Iw (L.with t) S.steps).1,MW,?_⟩
   walk_at "r"
   refine ⟨p,e,o,1,pl,ev,ov,ar,[x],HB,kvs,L.with t,_,.ref b, "let",d,ts,rfl,M1,(t1 p).1 _ hp,(M.a e1).2 _ _ nA he,ale.mono (PrAt.same t1),ho,alo,hv,htr.sameT t1,bk,hpl,har,z2,fun H2 e2 M2=>?_⟩
   walk_at "r"
   exact q _ t (e1.trans' (L':=L.with t) e2 rfl rfl rfl (.inr ht0)) M2 ht0
  | @ifs th b2 hwi hS bk =>
   subst hwi
   obtain ⟨bt,hbt,qbt⟩:=(hpk "if").2 [0] (by decide +kernel)
   walk_at "r"
   refine ⟨ap,pk, "if",.ref bt,rfl,rfl,hpa,hbt,?_⟩
   walk_at "r"
   refine Fl (qbt _) ?_
   walk_at "r"
   refine ⟨1,th,[("truth",.bl b2)],HB,kvs,L,S,rfl,M,by decide,hS,rfl,fun o t ov H1 e1 M1 ht0 ho alo ho0 hot=>?_⟩
   have t1:=M.t e1
   obtain ⟨u1,us,rfl⟩:∃ u1 us,ov=u1 :: us:=by
    have hl:=alo.1
    match ov,hl with
    | u1 :: us,_=>exact ⟨u1,us,rfl⟩
   obtain ⟨_,ax,rfl,qx⟩:=alo.2 0 u1 _ rfl rfl
   walk_at "r"
   rw [Bs,decide_eq_false (by decide +kernel)]
   walk_at "r"
   rw [Bs,decide_eq_true (Eq.refl _)]
   walk_at "r"
   refine Bp (SqL.of ho) (Bc (j:=0) rfl) ?_
   walk_at "r"
   refine Aw qx rfl ?_
   walk_at "r"
   rw [Bs,decide_eq_true (Eq.refl _)]
   walk_at "r"
   refine ⟨_,rfl,L.m,C,L.dx,_,_,rfl,M1.ins,(Iw (L.with t) S.steps).1,MW,?_⟩
   walk_at "r"
   unfold Ip
   walk_at "r"
   refine Bp (SqL.of ho) (Bc (j:=0) rfl) ?_
   walk_at "r"
   refine Aw qx rfl ?_
   have fin:∀ l H2,H1 l=none->H2=upd H1 l (.lst [])->Lp K C [.ref L.m,.ref p,.int ((if b2 then 1 else 2:Nat):Nat),.ref e,.ref l] H2 (fun v H'=>Q .non H') E0:=by
    intro l H2 hl hH2
    have s2:Same H1 H2:=by rw [hH2]; exact Same.upd hl
    have e2:H2 l=some (.lst []):=by rw [hH2]; exact Ae
    refine ⟨p,e,l,(if b2 then 1 else 2),pl,ev,[],ar,[],HB,kvs,L.with t,_,.ref b, "if",d,ts,rfl,M1.new s2,s2 _ _ ((t1 p).1 _ hp),s2 _ _ ((M.a e1).2 _ _ nA he),(ale.mono (PrAt.same t1)).mono (PrAt.same s2.t),e2,.nil,hv,(htr.sameT t1).same s2,bk,hpl,har,z2,fun H3 e3 M3=>?_⟩
    exact q _ t (e1.trans' (L':=L.with t) ((s2.m _).trans e3) rfl rfl rfl (.inr ht0)) M3 ht0
   refine ⟨b2,rfl,?_⟩
   cases b2 with
   | true =>
    rw [if_pos rfl]
    walk_at "r"
    refine ⟨A9,fun l hl=>?_⟩
    exact fin l _ hl rfl
   | false =>
    rw [if_neg Pk]
    walk_at "r"
    refine ⟨A9,fun l hl=>?_⟩
    exact fin l _ hl rfl
  | @calls th k y r pl' wd' d' hwc hS hrk hf hpl' hs bk har' =>
   subst hwc
   obtain ⟨bt,hbt,qbt⟩:=(hpk "call").2 [1,0] (by decide +kernel)
   walk_at "r"
   refine ⟨ap,pk, "call",.ref bt,rfl,rfl,hpa,hbt,?_⟩
   walk_at "r"
   refine Fl (qbt _) ?_
   walk_at "r"
   refine ⟨2,th,[("row",.int (k:Nat)),y],HB,kvs,L,S,rfl,M,by decide,hS,rfl,fun o t ov H1 e1 M1 ht0 ho alo ho0 hot=>?_⟩
   have t1:=M.t e1
   have hfn:Ef S.rows ("row",.int (k:Nat))=true:=by
    show (decide (("row" : Str) = "row") && (match S.rows[((k:Nat):Int).toNat]? with | some r=>decide (r.wd∈(["fn", "rec"]:List Str)) | none=>false))=true
    rw [Rf,hrk]
    simp only [decide_eq_true hf,decide_true,Bool.and_self]
   have rok:RowOk S.rows ("row",.int (k:Nat)):=fun _=>⟨k,rfl,(Pj.mp hrk).1⟩
   obtain ⟨u1,us,rfl⟩:∃ u1 us,ov=u1 :: us:=by
    have hl:=alo.1
    match ov,hl with
    | u1 :: us,_=>exact ⟨u1,us,rfl⟩
   have hx1:=alo.2 0 u1 _ rfl rfl
   walk_at "r"
   rw [Bs,decide_eq_false (by decide +kernel)]
   walk_at "r"
   rw [Bs,decide_eq_false (by decide +kernel)]
   walk_at "r"
   rw [Bs,decide_eq_true (Eq.refl _)]
   walk_at "r"
   refine ⟨_,rfl,L.m,C,L.dx,_,_,rfl,M1.ins,(Iw (L.with t) S.steps).2.1,MI,?_⟩
   walk_at "r"
   refine Bp (SqL.of ho) (Bc (j:=0) rfl) ?_
   walk_at "r"
   refine ⟨_,("row",.int (k:Nat)),HB,kvs,L.with t,_,rfl,M1,hx1,rok,fun H2 s2=>?_⟩
   rw [show Ef ({ S with things:=th }:MS).rows ("row",.int (k:Nat))=true from hfn]
   refine ⟨true,rfl,?_⟩
   refine iteT ?_
   walk_at "r"
   have M2:=M1.new s2
   obtain ⟨hpl2,v',ts',hv',ht'⟩:=(FA.same t1).same s2.t pl' wd' d' hs
   refine ⟨_,rfl,L.m,C,L.dx,_,_,rfl,M2.ins,(Iw (L.with t) S.steps).2.2,MC,?_⟩
   walk_at "r"
   refine ⟨o,_,k,[y],r,pl',HB,kvs,L.with t,_,v',wd',d',ts',rfl,M2,s2 _ _ ho,alo.mono (ThAt.same s2.t),hrk,hpl',hv',ht',bk,hpl2,har',z2,by show 1<=1000; decide,fun H3 e3 M3=>?_⟩
   walk_at "r"
   exact q _ t (e1.trans' (L':=L.with t) ((s2.m _).trans e3) rfl rfl rfl (.inr ht0)) M3 ht0
  | @two th x y hw3 hS ok ox oy =>
  have hwd:Bf wd=some [1,0]/\¬ wd = "let" /\ ¬ wd = "if" /\ ¬ wd∈WA:=by
   rcases hw3 with h | ⟨rfl,_⟩
   ·unfold Dp at h
    simp only [Pm,P9,or_false] at h
    rcases h with rfl | rfl | rfl <;> exact ⟨by decide +kernel,by decide +kernel,by decide +kernel,by decide +kernel⟩
   ·exact ⟨by decide +kernel,by decide +kernel,by decide +kernel,by decide +kernel⟩
  obtain ⟨pw,w1,w2,w4⟩:=hwd
  obtain ⟨bt,hbt,qbt⟩:=(hpk wd).2 _ pw
  walk_at "r"
  refine ⟨ap,pk,wd,.ref bt,rfl,rfl,hpa,hbt,?_⟩
  walk_at "r"
  refine Fl (qbt _) ?_
  walk_at "r"
  refine ⟨2,th,[x,y],HB,kvs,L,S,rfl,M,by decide,hS,rfl,fun o t ov H1 e1 M1 ht0 ho alo ho0 hot=>?_⟩
  have t1:=M.t e1
  have hp1:=(t1 p).1 _ hp
  have he1:=(M.a e1).2 _ _ nA he
  have ale1:Al (PrAt K H1) ev ar:=ale.mono (PrAt.same t1)
  have nAo:¬ (L.with t).A o:=by
   obtain ⟨rv,er,_⟩:=M.rows
   obtain ⟨wv,ew,_⟩:=M.wait
   rintro (z | z | z)
   ·rw [z] at ho0; rw [show (L.with t).rd=L.rd from rfl,er] at ho0; cases ho0
   ·rw [z] at ho0; rw [show (L.with t).wd=L.wd from rfl,ew] at ho0; cases ho0
   ·exact hot z
  have hx:∃ ax ay,ov=[.ref ax,.ref ay]/\SqT K H1 ax [.str x.1,x.2]/\SqT K H1 ay [.str y.1,y.2]:=by
   have hl:=alo.1
   match ov,hl with
   | [u1,u2],_ =>
    obtain ⟨_,ax,e3,q3⟩:=alo.2 0 u1 x rfl rfl
    obtain ⟨_,ay,e4,q4⟩:=alo.2 1 u2 y rfl rfl
    exact ⟨ax,ay,by rw [e3,e4],q3,q4⟩
  obtain ⟨ax,ay,rfl,qx,qy⟩:=hx
  walk_at "r"
  rw [Bs,decide_eq_false w1]
  walk_at "r"
  rw [Bs,decide_eq_false w2]
  walk_at "r"
  rw [Bs]
  by_cases w3:wd = "call"
  ·have hfn:Ef S.rows x=false:=by
    rcases hw3 with h | h
    ·rw [w3] at h; exact absurd h (by decide +kernel)
    ·exact h.2
   rw [decide_eq_true w3]
   walk_at "r"
   refine ⟨_,rfl,L.m,C,L.dx,_,_,rfl,M1.ins,(Iw (L.with t) S.steps).2.1,MI,?_⟩
   walk_at "r"
   refine Bp (SqL.of ho) rfl ?_
   walk_at "r"
   refine ⟨_,x,HB,kvs,L.with t,_,rfl,M1,⟨(alo.2 0 _ x rfl rfl).1,ax,rfl,qx⟩,ok,fun H2 s2=>?_⟩
   rw [show Ef ({ S with things:=th }:MS).rows x=false from hfn]
   refine ⟨false,rfl,?_⟩
   refine iteF ?_
   walk_at "r"
   refine ⟨Bd,fun p2 h2=>?_⟩
   refine Gk (.inr (SqT.of Ae)) rfl rfl ?_
   have s3:Same H2 (upd H2 p2 (.tup [.str "plus",.str "minus",.str "less"])):=Same.upd h2
   rw [if_neg Pk,show Eg (.str wd) [.str "plus",.str "minus",.str "less"]=decide (wd∈(["plus", "minus", "less"]:List Str)) from Hv (ws:=["plus", "minus", "less"]),decide_eq_false (by rw [w3]; decide +kernel)]
   revert s3
   generalize upd H2 p2 (.tup [.str "plus",.str "minus",.str "less"])=H3
   intro s3
   have s13:=s2.trans s3
   have M3:=M1.new s13
   obtain ⟨tv,et,att⟩:=M3.things
   have htl:tv.length=th.length:=att.1
   have hthl:th.length + 2=S.things.length:=by rw [hS,Pc]; rfl
   have ho3:=s13 _ _ ho
   have ef:Es S wd pl th x y={ S with rows:=S.rows++[⟨wd,As pl,[x,y],[]⟩],things:=th++[(("row" : Str),V.int (S.rows.length:Nat))] }:=by
    unfold Es
    rw [if_neg fun h=>absurd h.1 (by rw [w3]; decide +kernel)]
   rw [ef] at q
   refine ⟨false,rfl,?_⟩
   refine iteF ?_
   walk_at "r"
   refine ⟨_,rfl,L.m,C,L.dx,_,_,rfl,M3.ins,O.cl,O.nt,Ft (L.with t) S.steps,?_⟩
   refine Br (SqL.of et) ?_
   walk_at "r"
   refine ⟨_,rfl,L.m,C,L.dx,_,_,rfl,M3.ins,(C1 (L.with t) S.steps).2.1,MR,?_⟩
   walk_at "r"
   refine ⟨wd,p,o,e,pl,_,ev,[x,y],ar,HB,kvs,L.with t,_,rfl,M3,s13 _ _ hp1,SqL.of ho3,alo.mono (ThAt.same s13.t),SqL.of (s13 _ _ he1),ale1.mono (PrAt.same s13.t),by show S.rows.length < 10000; omega,fun v4 H4 e4 M4 t4=>?_⟩
   rw [if_neg w4] at M4
   obtain ⟨tv4,et4,at4⟩:=M4.things
   have htl4:tv4.length=th.length:=at4.1
   walk_at "r"
   refine B4 et4 (by omega) ?_
   have M5:=M4.setThings (at4.snoc t4)
   walk_at "r"
   refine q _ t (e1.trans' (L':=L.with t) ((s13.m _).trans (e4.trans (SameM.upd (.inr (.inr (.inr rfl)))))) rfl rfl rfl (.inr ht0)) M5 ht0
  have hw3':wd∈(["plus", "minus", "less"]:List Str):=by
   rcases hw3 with h | h
   ·exact h
   ·exact absurd h.1 w3
  rw [decide_eq_false w3]
  walk_at "r"
  refine ⟨Bd,fun p2 h2=>?_⟩
  refine Gk (.inr (SqT.of Ae)) rfl rfl ?_
  have s2:Same H1 (upd H1 p2 (.tup [.str "plus",.str "minus",.str "less"])):=Same.upd h2
  rw [if_neg Pk,show Eg (.str wd) [.str "plus",.str "minus",.str "less"]=decide (wd∈(["plus", "minus", "less"]:List Str)) from Hv (ws:=["plus", "minus", "less"]),decide_eq_true hw3']
  revert s2
  generalize upd H1 p2 (.tup [.str "plus",.str "minus",.str "less"])=H2
  intro s2
  walk_at "r"
  refine ⟨o,_,[x,y],rfl,s2 _ _ ho,alo.mono (ThAt.same s2.t),by show 2<=1000; decide,fun H3 s3=>?_⟩
  have s13:=s2.trans s3
  have M3:=M1.new s13
  obtain ⟨tv,et,att⟩:=M3.things
  have htl:tv.length=th.length:=att.1
  have hthl:th.length + 2=S.things.length:=by rw [hS,Pc]; rfl
  have ho3:=s13 _ _ ho
  by_cases hnum:x.1 = "num" /\ y.1 = "num"
  ·have en:Hc [x,y]=true:=by
    unfold Hc
    rw [Q7,Q7,List.all_nil,decide_eq_true hnum.1,decide_eq_true hnum.2]
    rfl
   rw [en]
   obtain ⟨i,ei⟩:=ox hnum.1
   obtain ⟨j,ej⟩:=oy hnum.2
   rw [ei] at qx
   rw [ej] at qy
   have ef:Es S wd pl th x y={ S with things:=th++[Er wd i j] }:=by
    unfold Es
    rw [if_pos ⟨hw3',hnum⟩,ei,ej]
    rfl
   rw [ef] at q
   refine ⟨true,rfl,?_⟩
   refine iteT ?_
   walk_at "r"
   refine ⟨_,rfl,L.m,C,L.dx,_,_,rfl,M3.ins,O.cl,O.nt,Ft (L.with t) S.steps,?_⟩
   refine Br (SqL.of et) ?_
   walk_at "r"
   refine Bp (SqL.of ho3) rfl ?_
   walk_at "r"
   refine Aw (s13.tup qx) rfl ?_
   walk_at "r"
   refine Bp (SqL.of ho3) rfl ?_
   walk_at "r"
   refine Aw (s13.tup qy) rfl ?_
   walk_at "r"
   refine ⟨wd,i,j,rfl,fun v4 H4 s4 t4=>?_⟩
   have M4:=M3.new s4
   walk_at "r"
   refine B4 (s4 _ _ et) (by omega) ?_
   have M5:=M4.setThings ((att.mono (ThAt.same s4.t)).snoc t4)
   walk_at "r"
   refine q _ t (e1.trans' (L':=L.with t) (((s13.trans s4).m _).trans (SameM.upd (.inr (.inr (.inr rfl))))) rfl rfl rfl (.inr ht0)) M5 ht0
  ·have en:Hc [x,y]=false:=by
    unfold Hc
    rw [Q7,Q7,List.all_nil,Bool.and_true,<- Bool.not_eq_true,Q5,decide_eq_true_iff,decide_eq_true_iff]
    exact hnum
   rw [en]
   have ef:Es S wd pl th x y={ S with rows:=S.rows++[⟨wd,As pl,[x,y],[]⟩],things:=th++[(("row" : Str),V.int (S.rows.length:Nat))] }:=by
    unfold Es
    rw [if_neg fun h=>hnum h.2]
   rw [ef] at q
   refine ⟨false,rfl,?_⟩
   refine iteF ?_
   walk_at "r"
   refine ⟨_,rfl,L.m,C,L.dx,_,_,rfl,M3.ins,O.cl,O.nt,Ft (L.with t) S.steps,?_⟩
   refine Br (SqL.of et) ?_
   walk_at "r"
   refine ⟨_,rfl,L.m,C,L.dx,_,_,rfl,M3.ins,(C1 (L.with t) S.steps).2.1,MR,?_⟩
   walk_at "r"
   refine ⟨wd,p,o,e,pl,_,ev,[x,y],ar,HB,kvs,L.with t,_,rfl,M3,s13 _ _ hp1,SqL.of ho3,alo.mono (ThAt.same s13.t),SqL.of (s13 _ _ he1),ale1.mono (PrAt.same s13.t),by show S.rows.length < 10000; omega,fun v4 H4 e4 M4 t4=>?_⟩
   rw [if_neg w4] at M4
   obtain ⟨tv4,et4,at4⟩:=M4.things
   have htl4:tv4.length=th.length:=at4.1
   walk_at "r"
   refine B4 et4 (by omega) ?_
   have M5:=M4.setThings (at4.snoc t4)
   walk_at "r"
   refine q _ t (e1.trans' (L':=L.with t) ((s13.m _).trans (e4.trans (SameM.upd (.inr (.inr (.inr rfl)))))) rfl rfl rfl (.inr ht0)) M5 ht0
inductive Jk (sub:List Nat->Option (Str×Dt)):MS->MS->Prop where
 | come {S:MS} {w:List Wt} {x:Wt} {wd:Str} {d:Dt} (hw:S.wait=w++[x]) (hc:x.came=false) (hs:sub x.pl=some (wd,d)) (hn:Ho wd d) (h5:wd ≠ "gap" -> S.steps + 1<=500):Jk sub S (Dh { S with wait:=w } wd d x.pl x.ar)
 | further {S S2:MS} {w:List Wt} {x:Wt} {wd:Str} {d:Dt} (hw:S.wait=w++[x]) (hc:x.came=true) (hs:sub x.pl=some (wd,d)) (hf:F6 sub wd d x.pl x.ar { S with wait:=w } S2) (hr:x.ar.length<=9000):Jk sub S S2
structure E6 (S:MS):Prop where
 r:S.rows.length < 9000
 w:S.wait.length < 9000
 t:S.things.length < 9000
inductive RunM (sub:List Nat->Option (Str×Dt)):Nat->MS->MS->Prop where
 | nil {S:MS} (h:S.wait=[]):RunM sub 0 S S
 | cons {n:Nat} {S S1 S2:MS} (hs:E6 S) (h1:Jk sub S S1) (h2:RunM sub n S1 S2):RunM sub (n + 1) S S2
noncomputable def Zas (K:O7) (C:Addr):Sp:=fun vs H Q _=>∃ (HB:Hp) (kvs:List (List Ao×V)) (L:Ml) (S S':MS) (sub:List Nat->Option (Str×Dt)) (n:Nat) (th:List (Str×V)) (x:Str×V),vs=[.ref L.m]/\MAt K HB C kvs L H S/\FormsAt K H kvs sub/\RunM sub n S S'/\S'.things=th++[x] /\
 ∀ v H' t,SameM L H H'->MAt K HB C kvs (L.with t) H' { S' with things:=th }->ThAt K H' v x->Q v H'
inductive RunL (sub:List Nat->Option (Str×Dt)):Nat->MS->Prop where
 | last {S:MS} {w:List Wt} {x:Wt} {wd:Str} {d:Dt} (hs:E6 S) (hw:S.wait=w++[x]) (hc:x.came=false) (hsub:sub x.pl=some (wd,d)) (hg:wd ≠ "gap") (h5:500 < S.steps + 1):RunL sub 0 S
 | cons {n:Nat} {S S1:MS} (hs:E6 S) (h1:Jk sub S S1) (h2:RunL sub n S1):RunL sub (n + 1) S
noncomputable def Zca (K:O7) (C TL:Addr):Sp:=fun vs H _ E=>∃ (HB:Hp) (kvs:List (List Ao×V)) (L:Ml) (S:MS) (sub:List Nat->Option (Str×Dt)) (n:Nat),vs=[.ref L.m]/\MAt K HB C kvs L H S/\FormsAt K H kvs sub/\RunL sub n S/\∀ H',Same HB H'->E (.ref TL) none H'
inductive En (sub:List Nat->Option (Str×Dt)):Nat->MS->Option MS->Prop where
 | nil {S:MS} (h:S.wait=[]):En sub 0 S (some S)
 | last {S:MS} {w:List Wt} {x:Wt} {wd:Str} {d:Dt} (hs:E6 S) (hw:S.wait=w++[x]) (hc:x.came=false) (hsub:sub x.pl=some (wd,d)) (hg:wd ≠ "gap") (h5:500 < S.steps + 1):En sub 0 S none
 | cons {n:Nat} {S S1:MS} {o:Option MS} (hs:E6 S) (h1:Jk sub S S1) (h2:En sub n S1 o):En sub (n + 1) S o
theorem RunM.x {sub:List Nat->Option (Str×Dt)} {n:Nat} {S S':MS} (h:RunM sub n S S'):En sub n S (some S'):=by
 induction h with
 | nil h=>exact .nil h
 | cons a b _ ih=>exact .cons a b ih
theorem RunL.x {sub:List Nat->Option (Str×Dt)} {n:Nat} {S:MS} (h:RunL sub n S):En sub n S none:=by
 induction h with
 | last a b c d e f=>exact .last a b c d e f
 | cons a b _ ih=>exact .cons a b ih
noncomputable def Zbz (K:O7) (C TL:Addr):Sp:=fun vs H Q E=>∃ (HB:Hp) (kvs:List (List Ao×V)) (L:Ml) (S:MS) (sub:List Nat->Option (Str×Dt)) (n:Nat) (o:Option MS),vs=[.ref L.m]/\MAt K HB C kvs L H S/\FormsAt K H kvs sub/\En sub n S o/\(∀ S',o=some S'->∃ (th:List (Str×V)) (x:Str×V),S'.things=th++[x]/\∀ v H' t,SameM L H H'->MAt K HB C kvs (L.with t) H' { S' with things:=th }->ThAt K H' v x->Q v H')/\(o=none->∀ H',Same HB H'->E (.ref TL) none H')
theorem sc_Machine_thing_at_the_end:A2 ["self", "place", "around", "parts_came"] ["self"] (Az Ii):=by walk_at "sc"
theorem Zoa {C TL:Addr} {f:Addr} {fd:FuncData} (F:Fun K "thing_at_the_end" "Machine.thing_at_the_end" Ii f fd) (T:Txt K mg) (O:Mc K C) (MC:Ck (Bl P w) P w K mg base 3 C "come_to" ["self", "place", "around"] (fun vs H Q E=>Zfm K C vs H Q E\/Zd5 K C TL vs H Q E)) (MG:Ck An P w K mg base 4 C "go_further" ["self", "place", "around"] (Zed K C)):FnOk P w K mg base (Bl P w) 5 f fd ["self"] (Zbz K C TL):=by
 refine F.okx sc_Machine_thing_at_the_end (fun vs H Q E h=>?_) (fun cdv A outer s H vs Q E hr h=>?_)
 ·obtain ⟨HB,kvs,L,S,sub,n,oo,rfl,_⟩:=h
  rfl
 ·obtain ⟨HB,kvs,L,S,sub,n,oo,rfl,M,FA,R,qS,qN⟩:=h
  refine ⟨_,Ad (Zec PassesOwn.leaving (Zar K (Bt K (qv 0)) (by intro _; rfl)) (Ad (Ij (Oz K Po Vj Vk N4 (Bt K (qv 0))) (Ep K (n:=3) rfl (Cb (Bb (i:=1) sc_Machine_thing_at_the_end.nd rfl (Or.inl rfl)) (Cb (Bb (i:=2) sc_Machine_thing_at_the_end.nd rfl (Or.inl rfl)) (Cb (Bb (i:=3) sc_Machine_thing_at_the_end.nd rfl (Or.inl rfl)) (Ev))))))
   (Ag (A7 (Zar K (qv 3) (by intro _; rfl)) (Ag (Be (C7 (k:=4) K An ["self", "place", "around"] (qv 0) hr.m Cw (Aa (qv 1) (Aa (qv 2) Ab))))) (Ag (Be (C7 (k:=3) K (Bl P w) ["self", "place", "around"] (qv 0) hr.m (J2 (fun _ _ _ h=>h)) (Aa (qv 1) (Aa (qv 2) Ab)))))))))
   (Ag (Av (Oz K Po Vj Vk N4 (Bt K (qv 0))))),?_⟩
  have bg:=big
  walk_at "r"
  refine ⟨fun m σ' H'=>∃ v1 v2 v3 S1 t,σ'=[some (.ref L.m),v1,v2,v3]/\MAt K HB C kvs (L.with t) H' S1/\En sub m S1 oo/\SameM L H H'/\(t=L.td\/H t=none),⟨n,none,none,none,S,L.td,rfl,M,R,SameM.refl _ _,.inl rfl⟩,?_⟩
  rintro m σ' H1 ⟨v1,v2,v3,S1,t,rfl,M1,R1,e1,ht⟩
  obtain ⟨wv,ew,aw⟩:=M1.wait
  have FA1:=FA.same (M.t e1)
  walk_at "r"
  refine ⟨_,rfl,L.m,C,L.dx,_,_,rfl,M1.ins,O.cl,O.nw,Fe (L.with t) S1.steps,?_⟩
  refine Zeu (SqL.of ew) ?_
  cases R1 with
  | nil hw =>
   have hwv:wv=[]:=Ss (by rw [aw.1,hw]; rfl)
   subst hwv
   refine iteF ?_
   walk_at "r"
   obtain ⟨tv,et,att⟩:=M1.things
   obtain ⟨th,x,hx,q⟩:=qS _ rfl
   rw [hx] at att
   obtain ⟨tv',v,th',x',rfl,exx,at',hv⟩:=att.last (by intro z; rw [z] at att; have:=att.1; simp at this)
   obtain ⟨rfl,e2⟩:=R3 exx rfl
   cases e2
   refine ⟨_,rfl,L.m,C,L.dx,_,_,rfl,M1.ins,O.cl,O.nt,Ft (L.with t) S1.steps,?_⟩
   refine Br (SqL.of et) ?_
   refine Lj et ?_
   have M2:=M1.setThings at'
   have e2:SameM (L.with t) H1 (upd H1 (L.with t).td (.lst tv')):=SameM.upd (.inr (.inr (.inr rfl)))
   refine q v _ t (e1.trans' (L':=L.with t) e2 rfl rfl rfl ht) M2 (ThAt.same (M1.t e2) _ _ hv)
  | @last _ w0 xw wd d hs hw hc hsub hg h5 =>
   rw [hw] at aw
   obtain ⟨wv',v,wl',xw',rfl,exx,aw',hvw⟩:=aw.last (by intro z; rw [z] at aw; have:=aw.1; simp at this)
   obtain ⟨rfl,e2⟩:=R3 exx rfl
   cases e2
   have hne:(!(wv'++[v]).isEmpty)=true:=by simp
   rw [hne]
   refine iteT ?_
   refine ⟨fun σ2 H2=>∃ m2,m2 < 0/\∃ v1 v2 v3 S1 t,σ2=[some (.ref L.m),v1,v2,v3]/\MAt K HB C kvs (L.with t) H2 S1/\En sub m2 S1 none/\SameM L H H2/\(t=L.td\/H t=none),fun _ _ h=>h,?_⟩
   walk_at "r"
   refine ⟨_,rfl,L.m,C,L.dx,_,_,rfl,M1.ins,O.cl,O.nw,Fe (L.with t) S1.steps,?_⟩
   refine Br (SqL.of ew) ?_
   refine Lj ew ?_
   have M2:=M1.setWait aw'
   have e12:SameM (L.with t) H1 (upd H1 (L.with t).wd (.lst wv')):=SameM.upd (.inr (.inr (.inl rfl)))
   have hv2:=WtAt.same (M1.a e12) _ _ hvw
   have FA2:=FA1.same (M1.t e12)
   revert M2 e12 hv2 FA2
   generalize upd H1 (L.with t).wd (.lst wv')=H2
   intro M2 e12 hv2 FA2
   obtain ⟨a,p,e,ev,rfl,qa,hp,he,ale,nA⟩:=hv2
   have e02:SameM L H H2:=e1.trans' (L':=L.with t) e12 rfl rfl rfl ht
   walk_at "r"
   refine Ec qa rfl ?_
   walk_at "r"
   refine ⟨xw.came,rfl,?_⟩
   rw [hc]
   refine iteF ?_
   walk_at "r"
   obtain ⟨hpl,vv,ts,hval,htr⟩:=FA2 _ _ _ hsub
   refine ⟨_,rfl,L.m,C,L.dx,_,_,rfl,M2.ins,(C1 (L.with t) S1.steps).2.2.2.1,MC,?_⟩
   walk_at "r"
   exact .inr ⟨p,e,xw.pl,ev,xw.ar,HB,kvs,L.with t,_,vv,wd,d,ts,rfl,M2,hp,he,ale,nA,hval,htr,hg,h5,fun H3 e3=>qN rfl _ (M2.outer e3)⟩
  | @cons m' _ S2 _ hs h1 h2 =>
   have key:∃ w x,S1.wait=w++[x]:=by
    cases h1 with
    | come hw=>exact ⟨_,_,hw⟩
    | further hw=>exact ⟨_,_,hw⟩
   obtain ⟨wl,xw,hwx⟩:=key
   rw [hwx] at aw
   obtain ⟨wv',v,wl',xw',rfl,exx,aw',hvw⟩:=aw.last (by intro z; rw [z] at aw; have:=aw.1; simp at this)
   obtain ⟨rfl,e2⟩:=R3 exx rfl
   cases e2
   have hne:(!(wv'++[v]).isEmpty)=true:=by simp
   rw [hne]
   refine iteT ?_
   refine ⟨fun σ2 H2=>∃ m2,m2 < m' + 1/\∃ v1 v2 v3 S1 t,σ2=[some (.ref L.m),v1,v2,v3]/\MAt K HB C kvs (L.with t) H2 S1/\En sub m2 S1 oo/\SameM L H H2/\(t=L.td\/H t=none),fun _ _ h=>h,?_⟩
   walk_at "r"
   refine ⟨_,rfl,L.m,C,L.dx,_,_,rfl,M1.ins,O.cl,O.nw,Fe (L.with t) S1.steps,?_⟩
   refine Br (SqL.of ew) ?_
   refine Lj ew ?_
   have M2:=M1.setWait aw'
   have e12:SameM (L.with t) H1 (upd H1 (L.with t).wd (.lst wv')):=SameM.upd (.inr (.inr (.inl rfl)))
   have hv2:=WtAt.same (M1.a e12) _ _ hvw
   have FA2:=FA1.same (M1.t e12)
   revert M2 e12 hv2 FA2
   generalize upd H1 (L.with t).wd (.lst wv')=H2
   intro M2 e12 hv2 FA2
   obtain ⟨a,p,e,ev,rfl,qa,hp,he,ale,nA⟩:=hv2
   have e02:SameM L H H2:=e1.trans' (L':=L.with t) e12 rfl rfl rfl ht
   walk_at "r"
   refine Ec qa rfl ?_
   walk_at "r"
   have hwl:wl.length < 9000:=by have:=hs.w; rw [hwx,Pc] at this; omega
   refine ⟨xw.came,rfl,?_⟩
   cases h1 with
   | @come w2 x2 wd d hw hc hsub hn h5 =>
    rw [hwx] at hw
    obtain ⟨rfl,e2⟩:=R3 hw rfl
    cases e2
    rw [hc]
    refine iteF ?_
    walk_at "r"
    obtain ⟨hpl,vv,ts,hval,htr⟩:=FA2 _ _ _ hsub
    refine ⟨_,rfl,L.m,C,L.dx,_,_,rfl,M2.ins,(C1 (L.with t) S1.steps).2.2.2.1,MC,?_⟩
    walk_at "r"
    refine .inl ⟨p,e,xw.pl,ev,xw.ar,HB,kvs,L.with t,_,vv,wd,d,ts,rfl,M2,hp,he,ale,nA,hval,htr,hn,hpl,hs.r,hwl,hs.t,h5,fun H3 e3 M3=>?_⟩
    walk_at "r"
    exact ⟨m',by omega,_,_,_,_,t,rfl,M3,h2,e02.trans' (L':=L.with t) e3 rfl rfl rfl ht,ht⟩
   | @further _ w2 x2 wd d hw hc hsub hf har =>
    rw [hwx] at hw
    obtain ⟨rfl,e2⟩:=R3 hw rfl
    cases e2
    rw [hc]
    refine iteT ?_
    walk_at "r"
    obtain ⟨hpl,vv,ts,hval,htr⟩:=FA2 _ _ _ hsub
    refine ⟨_,rfl,L.m,C,L.dx,_,_,rfl,M2.ins,(C1 (L.with t) S1.steps).2.2.2.2.1,MG,?_⟩
    walk_at "r"
    refine ⟨p,e,xw.pl,ev,xw.ar,HB,kvs,L.with t,_,_,vv,wd,d,ts,rfl,M2,hp,he,ale,nA,hval,htr,sub,FA2,hf,hs.r,hs.t,hwl,hpl,har,fun H3 t3 e3 M3 ht3=>?_⟩
    walk_at "r"
    refine ⟨m',by omega,_,_,_,_,t3,rfl,M3,h2,e02.trans' (L':=L.with t) e3 rfl rfl rfl ht,?_⟩
    by_cases z:t3=L.td
    ·exact .inl z
    ·refine .inr ?_
     cases hH:H t3 with
     | none=>rfl
     | some o =>
      exfalso
      obtain ⟨rv2,er2,_⟩:=M2.rows
      have n1:t3≠L.m:=fun y=>by rw [y,show H2 L.m=_ from M2.ins] at ht3; cases ht3
      have n2:¬ L.A t3:=by
       rintro (y | y | y)
       ·rw [y,show H2 L.rd=_ from er2] at ht3; cases ht3
       ·obtain ⟨wv2,ew2,_⟩:=M2.wait
        rw [y,show H2 L.wd=_ from ew2] at ht3; cases ht3
       ·exact z y
      rw [e02 _ _ n1 n2 hH] at ht3
      cases ht3
theorem Zq0 {C TL:Addr} {k:Nat} {f:Addr} {fd:FuncData} (F:FnOk P w K mg base (Bl P w) k f fd ["self"] (Zbz K C TL)):FnOk P w K mg base An k f fd ["self"] (Zas K C):=Zff F fun vs H Q E h=>by
 obtain ⟨HB,kvs,L,S,S',sub,n,th,x,rfl,M,FA,R,hx,q⟩:=h
 exact ⟨HB,kvs,L,S,sub,n,_,rfl,M,FA,R.x,fun S2 e=>by cases e; exact ⟨th,x,hx,q⟩,fun e=>nomatch e⟩
theorem Zm3 {C TL:Addr} {k:Nat} {f:Addr} {fd:FuncData} (F:FnOk P w K mg base (Bl P w) k f fd ["self"] (Zbz K C TL)):FnOk P w K mg base (Bl P w) k f fd ["self"] (Zca K C TL):=F.imp fun vs H Q E h=>by
 obtain ⟨HB,kvs,L,S,sub,n,rfl,M,FA,R,q⟩:=h
 exact ⟨HB,kvs,L,S,sub,n,_,rfl,M,FA,R.x,fun S2 e=>(nomatch e),fun _=>q⟩
noncomputable def Zgn (K:O7) (C:Addr):Sp:=fun vs H Q _=>∃ (p e:Addr) (pl:List Nat) (ev:List V) (ar:List (Str×Str×V)) (HB:Hp) (kvs:List (List Ao×V)) (L:Ml) (S S':MS) (sub:List Nat->Option (Str×Dt)) (n:Nat) (th:List (Str×V)) (x:Str×V),vs=[.ref L.m,.ref p,.ref e]/\MAt K HB C kvs L H S/\H p=some (.tup (A0 pl))/\H e=some (.lst ev)/\Al (PrAt K H) ev ar/\¬ L.A e/\FormsAt K H kvs sub/\S.wait.length < 9000/\RunM sub n { S with wait:=S.wait++[⟨pl,ar,false⟩] } S'/\S'.things=th++[x] /\
 ∀ v H' t,SameM L H H'->MAt K HB C kvs (L.with t) H' { S' with things:=th }->ThAt K H' v x->Q v H'
theorem Zhd:A2 ["self", "place", "around"] ["self", "place", "around"] (Az G9):=by walk_at "sc"
theorem Zq6 {C:Addr} {f:Addr} {fd:FuncData} (F:Fun K "thing_of_form" "Machine.thing_of_form" G9 f fd) (T:Txt K mg) (O:Mc K C) (ME:Ck An P w K mg base 5 C "thing_at_the_end" ["self"] (Zas K C)):FnOk P w K mg base An 6 f fd ["self", "place", "around"] (Zgn K C):=by
 refine F.okq Zhd (fun vs H Q E h=>?_) (fun cdv A outer s H vs Q E hr h=>?_)
 ·obtain ⟨p,e,pl,ev,ar,HB,kvs,L,S,S',sub,n,th,x,rfl,_⟩:=h
  rfl
 ·obtain ⟨p,e,pl,ev,ar,HB,kvs,L,S,S',sub,n,th,x,rfl,M,hp,he,ale,nA,FA,hwl,R,hx,q⟩:=h
  refine ⟨_,Ad (Be (B2 K Po Py Pz B6 (Bt K (qv 0)) (Aa (Ah (Aa (qv 1) (Aa (qv 2) (Aa Cz Ab)))) Ab)))
   (Ag (Av (Zai (k:=5) K An ["self"] (qv 0) hr.m Cw))),?_⟩
  have bg:=big
  obtain ⟨wv,ew,aw⟩:=M.wait
  have hwv:=aw.1
  walk_at "r"
  refine ⟨_,rfl,L.m,C,L.dx,_,_,rfl,M.ins,O.cl,O.nw,Fe L S.steps,?_⟩
  refine Br (SqL.of ew) ?_
  walk_at "r"
  refine ⟨Bd,fun r hr'=>?_⟩
  obtain ⟨H1,s1,e1,z9⟩:=Aj hr' (.tup [.ref p,.ref e,.bl false])
  rw [z9]
  walk_at "r"
  refine B4 (s1 _ _ ew) (by omega) ?_
  have M1:=M.new s1
  have M2:=M1.setWait (wv:=wv++[.ref r]) (ws:=S.wait++[⟨pl,ar,false⟩]) ((aw.mono (WtAt.same s1.a)).snoc ⟨r,p,e,ev,rfl,SqT.of e1,s1 _ _ hp,s1 _ _ he,ale.mono (PrAt.same s1.t),nA⟩)
  have m12:SameM L H1 (upd H1 L.wd (.lst (wv++[.ref r]))):=SameM.upd (.inr (.inr (.inl rfl)))
  have m02:SameM L H (upd H1 L.wd (.lst (wv++[.ref r]))):=(s1.m L).trans m12
  have FA2:=FA.same (M.t m02)
  walk_at "r"
  refine ⟨_,rfl,L.m,C,L.dx,_,_,rfl,M2.ins,(C1 L S.steps).2.2.2.2.2.2.1,ME,?_⟩
  walk_at "r"
  exact ⟨HB,kvs,L,_,S',sub,n,th,x,rfl,M2,FA2,R,hx,fun v H' t e' M' t'=>q v H' t (m02.trans e') M' t'⟩
noncomputable def Zce (K:O7) (C TL:Addr):Sp:=fun vs H _ E=>∃ (p e:Addr) (pl:List Nat) (ev:List V) (ar:List (Str×Str×V)) (HB:Hp) (kvs:List (List Ao×V)) (L:Ml) (S:MS) (sub:List Nat->Option (Str×Dt)) (n:Nat),vs=[.ref L.m,.ref p,.ref e]/\MAt K HB C kvs L H S/\H p=some (.tup (A0 pl))/\H e=some (.lst ev)/\Al (PrAt K H) ev ar/\¬ L.A e/\FormsAt K H kvs sub/\S.wait.length < 9000/\RunL sub n { S with wait:=S.wait++[⟨pl,ar,false⟩] }/\∀ H',Same HB H'->E (.ref TL) none H'
theorem Zk9 {C TL:Addr} {f:Addr} {fd:FuncData} (F:Fun K "thing_of_form" "Machine.thing_of_form" G9 f fd) (T:Txt K mg) (O:Mc K C) (ME:Ck (Bl P w) P w K mg base 5 C "thing_at_the_end" ["self"] (Zca K C TL)):FnOk P w K mg base (Bl P w) 6 f fd ["self", "place", "around"] (Zce K C TL):=by
 refine F.okx Zhd (fun vs H Q E h=>?_) (fun cdv A outer s H vs Q E hr h=>?_)
 ·obtain ⟨p,e,pl,ev,ar,HB,kvs,L,S,sub,n,rfl,_⟩:=h
  rfl
 ·obtain ⟨p,e,pl,ev,ar,HB,kvs,L,S,sub,n,rfl,M,hp,he,ale,nA,FA,hwl,R,q⟩:=h
  refine ⟨_,Ad (Be (B2 K Po Py Pz B6 (Bt K (qv 0)) (Aa (Ah (Aa (qv 1) (Aa (qv 2) (Aa Cz Ab)))) Ab)))
   (Ag (Av (Zai (k:=5) K (Bl P w) ["self"] (qv 0) hr.m (J2 (fun _ _ _ h=>h))))),?_⟩
  have bg:=big
  obtain ⟨wv,ew,aw⟩:=M.wait
  have hwv:=aw.1
  walk_at "r"
  refine ⟨_,rfl,L.m,C,L.dx,_,_,rfl,M.ins,O.cl,O.nw,Fe L S.steps,?_⟩
  refine Br (SqL.of ew) ?_
  walk_at "r"
  refine ⟨Bd,fun r hr'=>?_⟩
  obtain ⟨H1,s1,e1,z9⟩:=Aj hr' (.tup [.ref p,.ref e,.bl false])
  rw [z9]
  walk_at "r"
  refine B4 (s1 _ _ ew) (by omega) ?_
  have M1:=M.new s1
  have M2:=M1.setWait (wv:=wv++[.ref r]) (ws:=S.wait++[⟨pl,ar,false⟩]) ((aw.mono (WtAt.same s1.a)).snoc ⟨r,p,e,ev,rfl,SqT.of e1,s1 _ _ hp,s1 _ _ he,ale.mono (PrAt.same s1.t),nA⟩)
  have m12:SameM L H1 (upd H1 L.wd (.lst (wv++[.ref r]))):=SameM.upd (.inr (.inr (.inl rfl)))
  have m02:SameM L H (upd H1 L.wd (.lst (wv++[.ref r]))):=(s1.m L).trans m12
  have FA2:=FA.same (M.t m02)
  walk_at "r"
  refine ⟨_,rfl,L.m,C,L.dx,_,_,rfl,M2.ins,(C1 L S.steps).2.2.2.2.2.2.1,ME,?_⟩
  walk_at "r"
  exact ⟨HB,kvs,L,_,sub,n,rfl,M2,FA2,R,q⟩
noncomputable def Cc (bc:List (Str×V)) (x:Str×V):Str×V:=if x.1 = "row" then (match x.2 with | .int k=>(bc[k.toNat]?).getD x | _=>x) else x
noncomputable def NowOk (n:Nat) (x:Str×V):Prop:=x.1 = "row" -> ∃ k:Nat,x.2=.int (k:Nat)/\k < n
noncomputable def Za2 (K:O7):Sp:=fun vs H Q _=>∃ (tv:V) (b:Addr) (bv:List V) (x:Str×V) (bc:List (Str×V)),vs=[tv,.ref b]/\ThAt K H tv x/\SqL K H b bv/\Al (ThAt K H) bv bc/\NowOk bc.length x/\∀ v,ThAt K H v (Cc bc x)->Q v H
theorem Zjs:A2 ["thing", "became"] ["thing", "became"] (Az K7):=by walk_at "sc"
theorem Ziv {f:Addr} {fd:FuncData} (F:Fun K "thing_now" "thing_now" K7 f fd) (T:Txt K mg):FnOk P w K mg base An 1 f fd ["thing", "became"] (Za2 K):=by
 refine F.okq Zjs (fun vs H Q E h=>?_) (fun cdv A outer s H vs Q E hr h=>?_)
 ·obtain ⟨tv,b,bv,x,bc,rfl,_⟩:=h
  rfl
 ·obtain ⟨tv,b,bv,x,bc,rfl,ht,hb,al,ok,q⟩:=h
  refine ⟨_,Ag (Av (Ll (A6 (Bu K hr.u200) (Ak K (qv 0) Ac) Ar (A5 _)) (Ak K (qv 1) (Ak K (qv 0) Ac)) (qv 0))),?_⟩
  obtain ⟨hf,a,rfl,qa⟩:=ht
  walk_at "r"
  unfold Ip
  walk_at "r"
  refine Aw qa rfl ?_
  walk_at "r"
  rw [Bs]
  by_cases hw:x.1 = "row"
  ·obtain ⟨k,ek,hk⟩:=ok hw
   have hkb:k < bv.length:=by rw [al.1]; exact hk
   have hx:=al.2 k bv[k] bc[k] (Pb hkb) (Pb hk)
   have en:Cc bc x=bc[k]:=by
    unfold Cc
    rw [if_pos hw,ek]
    simp [Pb hk]
   rw [decide_eq_true hw]
   walk_at "r"
   refine Aw qa rfl ?_
   rw [ek]
   refine Bp hb (Bc (Pb hkb)) ?_
   exact q _ (by rw [en]; exact hx)
  ·rw [decide_eq_false hw]
   walk_at "r"
   refine q _ ?_
   unfold Cc
   rw [if_neg hw]
   exact ⟨hf,a,rfl,qa⟩
noncomputable def Zdt (K:O7) (C:Addr):Sp:=fun vs H Q _=>∃ (p o e:Addr) (pl:List Nat) (ov ev:List V) (ops:List (Str×V)) (ar:List (Str×Str×V)) (HB:Hp) (kvs:List (List Ao×V)) (L:Ml) (S S':MS) (sub:List Nat->Option (Str×Dt)) (n:Nat) (th:List (Str×V)) (x:Str×V),vs=[.ref L.m,.ref p,.ref o,.ref e]/\MAt K HB C kvs L H S/\H p=some (.tup (A0 pl))/\H o=some (.lst ov)/\Al (ThAt K H) ov ops/\H e=some (.lst ev)/\Al (PrAt K H) ev ar/\¬ L.A e/\FormsAt K H kvs sub/\S.wait.length < 9000/\S.things.length + ops.length < 9000/\RunM sub n { S with things:=S.things++ops,wait:=S.wait++[⟨pl,ar,true⟩] } S'/\S'.things=th++[x] /\
 ∀ v H' t,SameM L H H'->MAt K HB C kvs (L.with t) H' { S' with things:=th }->ThAt K H' v x->Q v H'
theorem Zjh:A2 ["self", "place", "operands", "around"] ["self", "place", "operands", "around"] (Az Kt):=by walk_at "sc"
theorem Zqa {C:Addr} {f:Addr} {fd:FuncData} (F:Fun K "thing_of_parts" "Machine.thing_of_parts" Kt f fd) (T:Txt K mg) (O:Mc K C) (ME:Ck An P w K mg base 5 C "thing_at_the_end" ["self"] (Zas K C)):FnOk P w K mg base An 6 f fd ["self", "place", "operands", "around"] (Zdt K C):=by
 refine F.okq Zjh (fun vs H Q E h=>?_) (fun cdv A outer s H vs Q E hr h=>?_)
 ·obtain ⟨p,o,e,pl,ov,ev,ops,ar,HB,kvs,L,S,S',sub,n,th,x,rfl,_⟩:=h
  rfl
 ·obtain ⟨p,o,e,pl,ov,ev,ops,ar,HB,kvs,L,S,S',sub,n,th,x,rfl,M,hp,ho,alo,he,ale,nA,FA,hwl,htl,R,hx,q⟩:=h
  refine ⟨_,Ad (Be (B2 K Po Vf Vg Ng (Bt K (qv 0)) (Aa (qv 2) Ab)))
   (Ad (Be (B2 K Po Py Pz B6 (Bt K (qv 0)) (Aa (Ah (Aa (qv 1) (Aa (qv 3) (Aa Cz Ab)))) Ab)))
   (Ag (Av (Zai (k:=5) K An ["self"] (qv 0) hr.m Cw)))),?_⟩
  have bg:=big
  obtain ⟨tv,et,att⟩:=M.things
  have hta:=att.1
  have hoa:=alo.1
  walk_at "r"
  refine ⟨_,rfl,L.m,C,L.dx,_,_,rfl,M.ins,O.cl,O.nt,Ft L S.steps,?_⟩
  refine Br (SqL.of et) ?_
  walk_at "r"
  refine ⟨L.td,o,_,ov,rfl,rfl,et,ho,by omega,?_⟩
  have M0:=M.setThings (att.append alo)
  have m0:SameM L H (upd H L.td (.lst (tv++ov))):=SameM.upd (.inr (.inr (.inr rfl)))
  revert M0 m0
  generalize upd H L.td (.lst (tv++ov))=H0
  intro M0 m0
  have t0:=M.t m0
  have hp0:=(t0 p).1 _ hp
  have he0:=(M.a m0).2 _ _ nA he
  have ale0:Al (PrAt K H0) ev ar:=ale.mono (PrAt.same t0)
  obtain ⟨wv,ew,aw⟩:=M0.wait
  have hwv:=aw.1
  walk_at "r"
  refine ⟨_,rfl,L.m,C,L.dx,_,_,rfl,M0.ins,O.cl,O.nw,Fe L S.steps,?_⟩
  refine Br (SqL.of ew) ?_
  walk_at "r"
  refine ⟨Bd,fun r hr'=>?_⟩
  obtain ⟨H1,s1,e1,z9⟩:=Aj hr' (.tup [.ref p,.ref e,.bl true])
  rw [z9]
  walk_at "r"
  refine B4 (s1 _ _ ew) (by rw [hwv]; show S.wait.length + 1<=_; omega) ?_
  have M1:=M0.new s1
  have M2:=M1.setWait (wv:=wv++[.ref r]) (ws:=S.wait++[⟨pl,ar,true⟩]) ((aw.mono (WtAt.same s1.a)).snoc ⟨r,p,e,ev,rfl,SqT.of e1,s1 _ _ hp0,s1 _ _ he0,ale0.mono (PrAt.same s1.t),nA⟩)
  have m12:SameM L H1 (upd H1 L.wd (.lst (wv++[.ref r]))):=SameM.upd (.inr (.inr (.inl rfl)))
  have m02:SameM L H (upd H1 L.wd (.lst (wv++[.ref r]))):=m0.trans ((s1.m L).trans m12)
  have FA2:=FA.same (M.t m02)
  walk_at "r"
  refine ⟨_,rfl,L.m,C,L.dx,_,_,rfl,M2.ins,(C1 L S.steps).2.2.2.2.2.2.1,ME,?_⟩
  walk_at "r"
  exact ⟨HB,kvs,L,_,S',sub,n,th,x,rfl,M2,FA2,R,hx,fun v H' t e' M' t'=>q v H' t (m02.trans e') M' t'⟩
noncomputable def Gb (bc ops:List (Str×V)):List (Str×V):=ops.map (Cc bc)
noncomputable def C4 (bc:List (Str×V)) (ar:List (Str×Str×V)):List (Str×Str×V):=ar.map fun y=>(y.1,Cc bc y.2)
inductive RowG (sub:List Nat->Option (Str×Dt)) (fl:List Nat) (bc:List (Str×V)) (r:Rx) (S:MS):MS->Str×V->Prop where
 | fill {n:Nat} {S':MS} {th:List (Str×V)} {x:Str×V} (hp:r.pl=As fl) (R:RunM sub n { S with wait:=S.wait++[⟨fl,C4 bc r.ar,false⟩] } S') (hx:S'.things=th++[x]):RowG sub fl bc r S { S' with things:=th } x
 | parts {pl:List Nat} {n:Nat} {S':MS} {th:List (Str×V)} {x:Str×V} (hp:r.pl=As pl) (hn:r.pl≠As fl) (hw:(Bf r.wd).isSome=true) (R:RunM sub n { S with things:=S.things++Gb bc r.ops,wait:=S.wait++[⟨pl,C4 bc r.ar,true⟩] } S') (hx:S'.things=th++[x]):RowG sub fl bc r S { S' with things:=th } x
 | new {pl:List Nat} (hp:r.pl=As pl) (hn:r.pl≠As fl) (hw:(Bf r.wd).isSome=false):RowG sub fl bc r S { S with rows:=S.rows++[⟨r.wd,As pl,Gb bc r.ops,if r.wd∈WA then C4 bc r.ar else []⟩] } ("row",.int (S.rows.length:Nat))
structure F0 (n:Nat) (r:Rx):Prop where
 o:∀ y∈r.ops,NowOk n y
 a:∀ y∈r.ar,NowOk n y.2
 lo:r.ops.length<=1000
 la:r.ar.length<=1000
inductive J3 (sub:List Nat->Option (Str×Dt)) (fl:List Nat) (bc:List (Str×V)) (r:Rx) (S:MS):Option (MS×(Str×V))->Prop where
 | ok {S2:MS} {x:Str×V} (h:RowG sub fl bc r S S2 x):J3 sub fl bc r S (some (S2,x))
 | lateF {n:Nat} (hp:r.pl=As fl) (R:RunL sub n { S with wait:=S.wait++[⟨fl,C4 bc r.ar,false⟩] }):J3 sub fl bc r S none
noncomputable def Zd0 (K:O7) (C TL:Addr):Sp:=fun vs H Q E=>∃ (a:V) (p b:Addr) (r:Rx) (fl:List Nat) (bv:List V) (bc:List (Str×V)) (HB:Hp) (kvs:List (List Ao×V)) (L:Ml) (S:MS) (sub:List Nat->Option (Str×Dt)) (o:Option (MS×(Str×V))),vs=[.ref L.m,a,.ref p,.ref b]/\MAt K HB C kvs L H S/\RwX K (fun _=>False) HB a r/\SqT K HB p (A0 fl)/\HB b=some (.lst bv)/\Al (ThAt K H) bv bc/\F0 bc.length r/\FormsAt K H kvs sub/\S.rows.length < 9000/\S.wait.length < 8000/\S.things.length < 8000/\J3 sub fl bc r S o /\
 (∀ S2 x,o=some (S2,x)->∀ v H' t,SameM L H H'->MAt K HB C kvs (L.with t) H' S2->ThAt K H' v x->Q v H')/\(o=none->∀ H',Same HB H'->E (.ref TL) none H')
theorem Zkr (L:Ml) (n:Int):(L.fs n).lookup ("thing_of_parts" : Str)=none:=rfl
theorem Zj5:(["thing", "became"]:List Str).Nodup:=by decide +kernel
theorem Zdi:(["name", "thing", "became"]:List Str).Nodup:=by decide +kernel
theorem sc_thing_of_row:A2 ["machine", "row", "filled", "became", "word", "place", "operands", "around"] ["machine", "row", "filled", "became"] (Az K6):=by walk_at "sc"
theorem Zq8 {C TL:Addr} {f:Addr} {fd:FuncData} (F:Fun K "thing_of_row" "thing_of_row" K6 f fd) (T:Txt K mg) (O:Mc K C) {ap:Addr} {pk:List (Str×V)} (G_PARTS_AWAITED:Ea mg "PARTS_AWAITED" (.ref ap)) (hpa:Fs P w K ap pk) (hpk:∀ wd,(C9 pk wd).isSome=(Bf wd).isSome/\∀ ns,Bf wd=some ns->∃ b,C9 pk wd=some (.ref b)/\∀ H,SqT K H b (ns.map V.int))
  (C_thing_now:A8 P w K mg base 1 "thing_now" ["thing", "became"] (Za2 K)) (MR:Ck An P w K mg base 1 C "new_row" ["self", "word", "place", "operands", "around"] (Ka K C)) (MF:Ck (Bl P w) P w K mg base 6 C "thing_of_form" ["self", "place", "around"] (fun vs H Q E=>Zgn K C vs H Q E\/Zce K C TL vs H Q E)) (MP:Ck An P w K mg base 6 C "thing_of_parts" ["self", "place", "operands", "around"] (Zdt K C)):FnOk P w K mg base (Bl P w) 7 f fd ["machine", "row", "filled", "became"] (Zd0 K C TL):=by
 refine F.okx sc_thing_of_row (fun vs H Q E h=>?_) (fun cdv A outer s H vs Q E hr h=>?_)
 ·obtain ⟨a,p,b,r,fl,bv,bc,HB,kvs,L,S,sub,oo,rfl,_⟩:=h
  rfl
 ·obtain ⟨av,p,b,r,fl,bv,bc,HB,kvs,L,S,sub,oo,rfl,M,xr,hp,hb,alb,rok,FA,z1,z2,z3,G,q,qL⟩:=h
  refine ⟨_,Ad (Ij (Fk (Iy K) (qv 1) (Fw) (Fy Ac)) (Ep K (n:=2) rfl (Cb (Bb (i:=4) sc_thing_of_row.nd rfl (Or.inl rfl)) (Cb (Bb (i:=5) sc_thing_of_row.nd rfl (Or.inl rfl)) (Ev)))))
   (Ad (Zb4 (i:=6) (N:=["thing", "became"]) (σ0:=Ew 1 [3]) rfl (Jb rfl (by decide +kernel) (by decide +kernel) (by decide +kernel)) (Fj K (Ak K (qv 1) Ac)) (Hx rfl (by rfl)) (fun _ _ _ _=>Bb (i:=0) Zj5 rfl (Or.inl rfl)) (fun _ _ _ _=>Ig) (fun _ _ _ _=>A1 C_thing_now hr.m (Aa (qv 0) (Aa (qv 1) Ab))) sc_thing_of_row.nd rfl (Or.inl rfl))
   (Ad (Zb4 (i:=7) (N:=["name", "thing", "became"]) (σ0:=Ew 2 [3]) rfl (Jb rfl (by decide +kernel) (by decide +kernel) (by decide +kernel)) (Fj K (Ak K (qv 1) Ac)) (Hx rfl (by rfl)) (fun _ _ _ _=>Ep K (n:=2) rfl (Cb (Bb (i:=0) Zdi rfl (Or.inl rfl)) (Cb (Bb (i:=1) Zdi rfl (Or.inl rfl)) (Ev)))) (fun _ _ _ _=>Ig) (fun _ _ _ _=>Ah (Aa (qv 0) (Aa (A1 C_thing_now hr.m (Aa (qv 1) (Aa (qv 2) Ab))) Ab))) sc_thing_of_row.nd rfl (Or.inl rfl))
   (Ad (A7 (A6 (Ziz K hr.u200) (qv 5) (qv 2) (A5 _)) (Ag (Av (C7 (k:=6) K (Bl P w) ["self", "place", "around"] (qv 0) hr.m (J2 (fun _ _ _ h=>h)) (Aa (qv 5) (Aa (qv 7) Ab))))) Ba)
   (Ad (A7 (A6 (Zbt P w K) (qv 4) (Fb G_PARTS_AWAITED) (by rfl)) (Ag (Av (C7 (k:=6) K An ["self", "place", "operands", "around"] (qv 0) hr.m Cw (Aa (qv 5) (Aa (qv 6) (Aa (qv 7) Ab)))))) Ba)
   (Ag (Av (C7 (k:=1) K An ["self", "word", "place", "operands", "around"] (qv 0) hr.m Cw (Aa (qv 4) (Aa (qv 5) (Aa (qv 6) (Aa (qv 7) Ab))))))))))),?_⟩
  have bg:=big
  have sB:=M.base
  obtain ⟨⟨a,p',o',e,ov,ev,rfl,qa,_,ho,alo,he,ale,_,_⟩,a2,p2,o2,e2,ea,qa2,hp2⟩:=RwX.same sB.a _ _ xr
  cases ea
  have hb1:=sB _ _ hb
  have lo:=rok.lo
  have la:=rok.la
  have hol:=alo.1
  have hel:=ale.1
  walk_at "r"
  refine .inr (.inr ⟨a,_,rfl,qa2,by show ¬(HT.sIx 4 0 none=0/\HT.sIx 4 4 (some 2)=4); decide,fun k1 h1=>?_⟩)
  rw [show Cf [V.str r.wd,.ref p2,.ref o2,.ref e2] none (some 2)=[V.str r.wd,.ref p2] from rfl]
  obtain ⟨H1,s1,e1,z9⟩:=Aj h1 (.tup [.str r.wd,.ref p2])
  rw [z9]
  walk_at "r"
  refine Ec (SqT.of e1) rfl ?_
  walk_at "r"
  refine Aw (s1.tup qa) rfl ?_
  refine .inl ⟨o',rfl,⟨_,SqL.of (s1 _ _ ho)⟩,fun D hD=>?_⟩
  refine Mq (K:=K) (a:=o') (xs:=ov) (Pv:=fun i ys σ' H'=>∃ kv,σ'=[kv,some (.ref b)]/\Al (ThAt K H') ys ((r.ops.take i).map (Cc bc))/\Same H1 H') ⟨none,rfl,.nil,Same.upd hD⟩ (fun i ys σ' H' _ ⟨_,_,_,s'⟩=>SqL.of (s' _ _ (s1 _ _ ho))) ?_ ?_
  ·rintro i y ys σ' H2 hy hys ⟨kv,rfl,al2,s2⟩
   obtain ⟨xo,hxo,txo⟩:=alo.get hy
   have s02:=s1.trans s2
   walk_at "r"
   refine ⟨y,b,bv,xo,bc,rfl,ThAt.same s02.t _ _ txo,SqL.of (s02 _ _ hb1),alb.mono (ThAt.same s02.t),rok.o _ (Rl hxo),fun v tv=>?_⟩
   have hyl:ys.length<=1000:=by rw [al2.1,Pi,Qi]; omega
   refine ⟨_,hys,by omega,_,Ae,?_⟩
   have sA:SameT H2 (upd H2 D (.lst (ys++[v]))):=SameT.set hys
   refine ⟨_,rfl,?_,s2.over hD⟩
   rw [R0,hxo,Ul,Qo,Vo]
   exact (al2.mono (ThAt.same sA)).snoc (ThAt.same sA _ _ tv)
  ·rintro ys σ' H2 hys ⟨kv,rfl,al2,s2⟩
   rw [Rv (by omega)] at al2
   have al2:Al (ThAt K H2) ys (Gb bc r.ops):=al2
   have s02:=s1.trans s2
   walk_at "r"
   refine Aw (s02.tup qa) rfl ?_
   refine .inl ⟨e,rfl,⟨_,SqL.of (s02 _ _ he)⟩,fun D2 hD2=>?_⟩
   refine Mq (K:=K) (a:=e) (xs:=ev) (Pv:=fun i zs σ' H'=>∃ k1 k2,σ'=[k1,k2,some (.ref b)]/\Al (PrAt K H') zs ((r.ar.take i).map fun y=>(y.1,Cc bc y.2))/\Same H2 H') ⟨none,none,rfl,.nil,Same.upd hD2⟩ (fun i zs σ' H' _ ⟨_,_,_,_,s'⟩=>SqL.of (s' _ _ (s02 _ _ he))) ?_ ?_
   ·rintro i y zs σ' H3 hy hzs ⟨k1,k2,rfl,al3,s3⟩
    obtain ⟨xa,hxa,pa,u,rfl,qp,tu⟩:=ale.get hy
    have s03:=s02.trans s3
    walk_at "r"
    refine Ec (s03.tup qp) rfl ?_
    walk_at "r"
    refine ⟨u,b,bv,xa.2,bc,rfl,ThAt.same s03.t _ _ tu,SqL.of (s03 _ _ hb1),alb.mono (ThAt.same s03.t),rok.a _ (Rl hxa),fun v tv=>?_⟩
    walk_at "r"
    refine ⟨A3,fun k hk=>?_⟩
    obtain ⟨H4,s4,e4,z9⟩:=Aj hk (.tup [.str xa.1,v])
    rw [z9]
    have hyl:zs.length<=1000:=by rw [al3.1,Pi,Qi]; omega
    refine ⟨_,s4 _ _ hzs,by omega,_,Ae,?_⟩
    have sA:SameT H4 (upd H4 D2 (.lst (zs++[.ref k]))):=SameT.set (s4 _ _ hzs)
    refine ⟨_,_,rfl,?_,(s3.trans s4).over hD2⟩
    rw [R0,hxa,Ul,Qo,Vo]
    exact (al3.mono (PrAt.same (s4.t.trans sA))).snoc ⟨k,v,rfl,sA.tup (SqT.of e4),ThAt.same (s4.t.trans sA) _ _ tv⟩
   ·rintro zs σ' H3 hzs ⟨k1,k2,rfl,al3,s3⟩
    rw [Rv (by omega)] at al3
    have al3:Al (PrAt K H3) zs (C4 bc r.ar):=al3
    have s03:=s02.trans s3
    have M3:=M.new s03
    have FA3:=FA.same s03.t
    have hys3:=s3 _ _ hys
    have al23:=al2.mono (ThAt.same s3.t)
    have nA2:¬ L.A D2:=by
     have M2:=M.new s02
     obtain ⟨rv,er,_⟩:=M2.rows
     obtain ⟨wv',ew',_⟩:=M2.wait
     obtain ⟨tv,et,_⟩:=M2.things
     rintro (y | y | y)
     ·rw [y,er] at hD2; cases hD2
     ·rw [y,ew'] at hD2; cases hD2
     ·rw [y,et] at hD2; cases hD2
    walk_at "r"
    refine Zli (xs:=r.pl) (ys:=As fl) (SqT.of (s03 _ _ hp2)) (by rw [Cv]; exact (sB.trans s03).tup hp) ?_
    walk_at "r"
    cases G with
    | ok G =>
     cases G with
     | @fill n S' th x hpl R hx =>
      rw [decide_eq_true hpl]
      walk_at "r"
      have hp3:H3 p2=some (.tup (A0 fl)):=by rw [<- Cv,<- hpl]; exact s03 _ _ hp2
      refine ⟨_,rfl,L.m,C,L.dx,_,_,rfl,M3.ins,(C1 L S.steps).2.2.2.2.2.2.2,MF,?_⟩
      walk_at "r"
      exact Or.inl ⟨p2,D2,fl,zs,C4 bc r.ar,HB,kvs,L,S,S',sub,n,th,_,rfl,M3,hp3,hzs,al3,nA2,FA3,by omega,R,hx,fun v H' t e' M' t'=>q _ _ rfl v H' t ((s03.m L).trans e') M' t'⟩
     | @parts pl n S' th x hpl hn hw R hx =>
      rw [decide_eq_false hn]
      walk_at "r"
      have hp3:H3 p2=some (.tup (A0 pl)):=by rw [<- Cv,<- hpl]; exact s03 _ _ hp2
      refine ⟨r.wd,ap,pk,rfl,rfl,hpa,?_⟩
      rw [(hpk r.wd).1,hw]
      walk_at "r"
      refine ⟨_,rfl,L.m,C,L.dx,_,_,rfl,M3.ins,Zkr L S.steps,MP,?_⟩
      walk_at "r"
      exact ⟨p2,D,D2,pl,ys,zs,Gb bc r.ops,C4 bc r.ar,HB,kvs,L,S,S',sub,n,th,_,rfl,M3,hp3,hys3,al23,hzs,al3,nA2,FA3,by omega,by unfold Gb; rw [Pi]; omega,R,hx,fun v H' t e' M' t'=>q _ _ rfl v H' t ((s03.m L).trans e') M' t'⟩
     | @new pl hpl hn hw =>
      rw [decide_eq_false hn]
      walk_at "r"
      have hp3:H3 p2=some (.tup (A0 pl)):=by rw [<- Cv,<- hpl]; exact s03 _ _ hp2
      refine ⟨r.wd,ap,pk,rfl,rfl,hpa,?_⟩
      rw [(hpk r.wd).1,hw]
      walk_at "r"
      refine ⟨_,rfl,L.m,C,L.dx,_,_,rfl,M3.ins,(C1 L S.steps).2.1,MR,?_⟩
      walk_at "r"
      exact ⟨r.wd,p2,D,D2,pl,ys,zs,Gb bc r.ops,C4 bc r.ar,HB,kvs,L,S,rfl,M3,hp3,SqL.of hys3,al23,SqL.of hzs,al3,by omega,fun v H' e' M' t'=>q _ _ rfl v H' L.td ((s03.m L).trans e') M' t'⟩
    | @lateF n hpl R =>
     rw [decide_eq_true hpl]
     walk_at "r"
     have hp3:H3 p2=some (.tup (A0 fl)):=by rw [<- Cv,<- hpl]; exact s03 _ _ hp2
     refine ⟨_,rfl,L.m,C,L.dx,_,_,rfl,M3.ins,(C1 L S.steps).2.2.2.2.2.2.2,MF,?_⟩
     walk_at "r"
     exact Or.inr ⟨p2,D2,fl,zs,C4 bc r.ar,HB,kvs,L,S,sub,n,rfl,M3,hp3,hzs,al3,nA2,FA3,by omega,R,qL rfl⟩
noncomputable def Zet (K:O7):Sp:=fun vs H Q _=>∃ (v:V) (t:Tr),vs=[v]/\TrAt K H v t/\t.size<=2000/\∀ (p:Addr) (rows:List V) (H':Hp),Same H H'->H p=none->H' p=some (.lst rows)->Al (RowT K H') rows (walk [] t)->Q (.ref p) H'
theorem sc_placed_forms:A2 ["tree", "told", "waiting", "pair", "number", "part"] ["tree"] (Az Je):=by walk_at "sc"
noncomputable def PlJ (K:O7) (H:Hp) (v:V) (t:Tr) (pt pw:Addr) (m:Nat) (σ:St) (H':Hp):Prop:=∃ (v3 v4 v5:Option V) (tv wv:List V) (dn st:List (List Nat×Tr)),σ=[some v,some (.ref pt),some (.ref pw),v3,v4,v5]/\H' pt=some (.lst tv)/\H' pw=some (.lst wv) /\
 Al (RowT K H') tv dn/\Al (RowT K H') wv st/\dn++F3 st=walk [] t/\m=Ei st/\Same H H'
theorem Zrh {f:Addr} {fd:FuncData} (F:Fun K "placed_forms" "placed_forms" Je f fd) (T:Txt K mg):FnOk P w K mg base An 1 f fd ["tree"] (Zet K):=by
 refine F.okq sc_placed_forms (fun vs H Q E h=>?_) (fun cdv A outer s H vs Q E hr h=>?_)
 ·obtain ⟨v,t,rfl,_⟩:=h
  rfl
 ·obtain ⟨v,t,rfl,ht,hz,q⟩:=h
  refine ⟨_,Ad (Ay 1 sc_placed_forms (Bm Ab))
   (Ad (Ay 2 sc_placed_forms (Bm (Aa (Ah (Aa (Ah Ab) (Aa (qv 0) Ab))) Ab)))
   (Ad (Zec Qj (Zar K (qv 2) (by intro _; rfl)) (Ad (Ay 3 sc_placed_forms (Oz K Po Vj Vk N4 (qv 2)))
   (Ad (Be (B2 K Po Py Pz B6 (qv 1) (Aa (qv 3) Ab)))
   (Ag (Dr Qj rfl (N6 K rfl T.reversed (Aa (Zqe K (by rfl) T.list (by rfl) T.enumerate (Aa (Ak K (Ak K (qv 3) Ac) Ac) Ab)) Ab)) (Ep K (n:=2) rfl (Cb (Bb (i:=4) sc_placed_forms.nd rfl (Or.inl rfl)) (Cb (Bb (i:=5) sc_placed_forms.nd rfl (Or.inl rfl)) (Ev)))) (Ag (Be (B2 K Po Py Pz B6 (qv 2) (Aa (Ah (Aa (Au (Gs K) (Ak K (qv 3) Ac) (Ah (Aa (qv 4) Ab))) (Aa (qv 5) Ab))) Ab)))))))))
   (Ag (Av (qv 1))))),?_⟩
  have bg:=big
  walk_at "r"
  refine ⟨A9,fun pt hpt=>?_⟩
  walk_at "r"
  refine ⟨A9,fun p0 hp0=>?_⟩
  walk_at "r"
  refine ⟨A3,fun p1 hp1=>?_⟩
  walk_at "r"
  refine ⟨Cj,fun pw hpw=>?_⟩
  walk_at "r"
  have s0:Same (upd H pt (.lst [])) _:=((Same.upd (o:=.tup []) hp0).put (o:=.tup [.ref p0,v]) hp1).put (o:=.lst [.ref p1]) hpw
  have s1:Same (upd (upd H pt (.lst [])) p0 (.tup [])) _:=(Same.upd (o:=.tup [.ref p0,v]) hp1).put (o:=.lst [.ref p1]) hpw
  have s2:=Same.upd (o:=.lst [.ref p1]) hpw
  have sH:=(Same.upd (o:=.lst []) hpt).trans s0
  have ept:=s0 pt _ Ae
  have epw:upd (upd (upd (upd H pt (.lst [])) p0 (.tup [])) p1 (.tup [.ref p0,v])) pw (.lst [.ref p1]) pw=some (.lst [.ref p1]):=Ae
  have ep0:=s1 p0 _ Ae
  have ep1:=s2 p1 _ Ae
  have npw:pt≠pw:=fun z=>by rw [z] at ept; rw [Ae] at ept; cases ept
  have hpw0:H pw=none:=((Same.upd (o:=.lst []) hpt).trans ((Same.upd (o:=.tup []) hp0).put (o:=.tup [.ref p0,v]) hp1)).free hpw
  refine ⟨PlJ K H v t pt pw,⟨_,none,none,none,[],[.ref p1],[],[([],t)],rfl,ept,epw,.nil,Al.nil.snoc ⟨p1,p0,v,rfl,SqT.of ep1,ep0,ht.same sH⟩,by simp [F3],rfl,sH⟩,?_⟩
  rintro m σ' H' ⟨v3,v4,v5,tv,wv,dn,st,rfl,et,ew,al1,al2,hw,rfl,sm⟩
  have hdl:dn.length + Ei st=t.size:=by
   have:=congrArg U9 hw
   rw [Pc,Za0] at this
   exact this
  have htl:tv.length=dn.length:=al1.1
  walk_at "r"
  refine Zeu (SqL.of ew) ?_
  by_cases hwv:wv=[]
  ·subst hwv
   have hst:st=[]:=Ss al2.1.symm
   subst hst
   refine iteF ?_
   walk_at "r"
   rw [Zsm,P5] at hw
   rw [hw] at al1
   exact q pt tv H' sm hpt et al1
  obtain ⟨wv',tp,st',x,rfl,rfl,al3,hrow⟩:=al2.last hwv
  have hne:(!(wv'++[tp]).isEmpty)=true:=by simp
  rw [hne]
  refine iteT ?_
  obtain ⟨pl,tx⟩:=x
  have hx:(pl,tx)∈walk [] t:=by rw [<- hw,Og]; simp
  have hpl:pl.length<=2000:=by have:=Zbk [] t _ hx; simp at this; omega
  have hload:=Zn9 st' (pl,tx)
  have hll:=Zs6 (st'++(Ce pl 0 tx.ps).reverse)
  refine ⟨fun σ2 H2=>∃ m',m' < Ei (st'++[(pl,tx)])/\PlJ K H v t pt pw m' σ2 H2,fun _ _ h=>h,?_⟩
  walk_at "r"
  refine Br (SqL.of ew) ?_
  refine Lj ew ?_
  have t1:SameT H' (upd H' pw (.lst wv')):=SameT.set ew
  have et2:upd H' pw (.lst wv') pt=some (.lst tv):=by rw [Af npw]; exact et
  walk_at "r"
  refine Br (SqL.of et2) ?_
  walk_at "r"
  refine B4 et2 (by omega) ?_
  have t2:SameT H' (upd (upd H' pw (.lst wv')) pt (.lst (tv++[tp]))):=t1.trans (SameT.set et2)
  have et3:upd (upd H' pw (.lst wv')) pt (.lst (tv++[tp])) pt=some (.lst (tv++[tp])):=Ae
  have ew3:upd (upd H' pw (.lst wv')) pt (.lst (tv++[tp])) pw=some (.lst wv'):=by rw [Af npw.symm,Ae]
  have sm3:Same H (upd (upd H' pw (.lst wv')) pt (.lst (tv++[tp]))):=(sm.over hpw0).over hpt
  revert t2 et3 ew3 sm3
  generalize upd (upd H' pw (.lst wv')) pt (.lst (tv++[tp]))=H3
  intro t2 et3 ew3 sm3
  have hrow3:=RowT.same t2 _ _ hrow
  obtain ⟨a,p,u,rfl,qa,qp,hu⟩:=id hrow3
  cases hu with
  | @mk b pp wd nv n vs ts qb hn qpp hl hch =>
  walk_at "r"
  refine Aw qa rfl ?_
  walk_at "r"
  refine Aw qb rfl ?_
  walk_at "r"
  refine ⟨pp,vs,rfl,qpp,fun S ys H4 hS s4 hl4 hpairs hS4=>?_⟩
  walk_at "r"
  refine ⟨S,ys,rfl,SqL.of hS4,?_⟩
  have nSp:pw≠S:=Cg ew3 hS
  have nSt:pt≠S:=Cg et3 hS
  have al4:Al (RowT K H4) wv' st':=al3.mono (RowT.same (t2.trans s4.t))
  have hkl:(Ce pl 0 ts).length=ys.length:=by rw [Zge]; omega
  refine Om (K:=K) (a:=S) (xs:=ys) (fun j σ5 H5=>∃ (v4 v5:Option V) (wv5:List V),σ5=[some v,some (.ref pt),some (.ref pw),some (.ref a),v4,v5]/\H5 pt=some (.lst (tv++[.ref a]))/\H5 pw=some (.lst wv5)/\H5 S=some (.lst ys)/\Al (RowT K H5) wv5 (st'++((Ce pl 0 ts).drop (ys.length - j)).reverse)/\SameT H4 H5/\Same H H5)
   ⟨_,_,wv',rfl,s4 _ _ et3,s4 _ _ ew3,hS4,by rw [Tp,Ru (by omega)]; simpa using al4,SameT.refl _,sm3.trans s4⟩ ?_ ?_ ?_
  ·rintro j σ5 H5 _ ⟨_,_,_,_,_,_,e,_⟩
   exact SqL.of e
  ·rintro i y σ5 H5 hi hy ⟨v4',v5',wv5,rfl,e5t,e5w,e5s,al5,t5,sm5⟩
   obtain ⟨tt,xw,rfl,hxw,htt⟩:=hpairs _ _ hy
   have htt5:=(t5 tt).1 _ htt
   walk_at "r"
   refine Ec (SqT.of htt5) rfl ?_
   walk_at "r"
   refine Br (SqL.of e5w) ?_
   walk_at "r"
   have T5:SameT H3 H5:=s4.t.trans t5
   refine Aw (T5.tup qa) rfl ?_
   walk_at "r"
   refine ⟨Cj,fun p6 h6=>?_⟩
   refine Hr (((T5.trans (SameT.new h6)) p).1 _ qp) Ae (by show (A0 pl).length + 1<=sizeLine; unfold A0; rw [Pi]; omega) fun r H7 s7 q7=>?_
   walk_at "r"
   refine ⟨A3,fun p7 h7=>?_⟩
   walk_at "r"
   have s57:Same H5 H7:=(Same.upd h6).trans s7
   have s58:=s57.put (o:=.tup [.ref r,xw]) h7
   have hlw:wv5.length=st'.length + ((Ce pl 0 ts).drop (ys.length - i)).length:=by have:=al5.1; simp at this ⊢; omega
   have hlk:(st'++(Ce pl 0 ts).reverse).length=st'.length + ys.length:=by rw [Pc,List.length_reverse,hkl]
   have hll':(st'++(Ce pl 0 ts).reverse).length<=2000:=by
    have h1:Ei (st'++(Ce pl 0 (Tr.mk wd n ts).ps).reverse) < Ei (st'++[(pl,Tr.mk wd n ts)]):=hload
    have h2:(st'++(Ce pl 0 (Tr.mk wd n ts).ps).reverse).length<=Ei (st'++(Ce pl 0 (Tr.mk wd n ts).ps).reverse):=hll
    have h3:(Tr.mk wd n ts).ps=ts:=rfl
    rw [h3] at h1 h2
    omega
   have hdr:((Ce pl 0 ts).drop (ys.length - i)).length<=ys.length:=by rw [Se]; omega
   refine B4 (s58 _ _ e5w) (by omega) ?_
   have e8w:=s58 _ _ e5w
   have t9:SameT H5 (upd (upd H7 p7 (.tup [.ref r,xw])) pw (.lst (wv5++[.ref p7]))):=s58.t.trans (SameT.set e8w)
   obtain ⟨tk,htk,hat⟩:∃ tk,ts[ys.length - 1 - i]?=some tk/\TrAt K H3 xw tk:=by
    have hj:=(Pj.mp hxw).1
    have hj':ys.length - 1 - i < ts.length:=by omega
    exact ⟨_,Pb hj',hch _ _ _ hxw (Pb hj')⟩
   have hkid:(Ce pl 0 ts)[ys.length - 1 - i]?=some (pl++[ys.length - 1 - i],tk):=by
    rw [Zds,htk]
    simp
   refine ⟨_,_,wv5++[.ref p7],rfl,?_,Ae,?_,?_,t5.trans t9,(sm5.trans s58).over hpw0⟩
   ·rw [Af npw]; exact s58 _ _ e5t
   ·rw [Af nSp.symm]; exact s58 _ _ e5s
   ·rw [Zmx hkl hi hkid,<- Qe]
    refine (al5.mono (RowT.same t9)).snoc ⟨p7,r,xw,rfl,(SameT.set e8w).tup (SqT.of Ae),?_,hat.sameT (T5.trans t9)⟩
    have q9:=(((SameT.new (o:=.tup [.ref r,xw]) h7).trans (SameT.set (o:=.lst (wv5++[.ref p7])) e8w)) r).1 _ q7
    have e:A0 (pl++[ys.length - 1 - i])=A0 pl++[.int ((ys.length - 1 - i:Nat):Int)]:=by unfold A0; rw [Qo]; rfl
    show upd _ _ _ r=some (.tup (A0 (pl++[ys.length - 1 - i])))
    rw [e]
    exact q9
  ·rintro σ5 H5 ⟨v4',v5',wv5,rfl,e5t,e5w,e5s,al5,t5,sm5⟩
   rw [Rs,List.drop_zero] at al5
   refine ⟨_,hload,_,_,_,tv++[.ref a],wv5,dn++[(pl,.mk wd n ts)],_,rfl,e5t,e5w,?_,al5,?_,rfl,sm5⟩
   ·exact (al1.mono (RowT.same (t2.trans (s4.t.trans t5)))).snoc (RowT.same (s4.t.trans t5) _ _ hrow3)
   ·rw [<- hw,Og,Qe]
    rfl
noncomputable def B9 (t:Tr) (pl:List Nat):Option (Str×Dt):=(Ca (walk [] t) pl).map fun u=>(u.wd,Go u)
theorem Jp {H:Hp} {a C dx:Addr} {fs:List (Str×V)} (ha:H a=some (.ins C dx fs)) (o:HO):SameT H (upd H a o):=fun b=>⟨fun xs h=>by
 have:b≠a:=fun z=>by rw [z,ha] at h; cases h
 rw [Af this]; exact h,fun o u h=>by
 have:b≠a:=fun z=>by rw [z,ha] at h; cases h
 rw [Af this]; exact h⟩
noncomputable def Nm (K:O7) (C:Addr):Sp:=fun vs H Q _=>∃ (m dx:Addr) (HB:Hp) (tv:V) (t:Tr) (n:Int),vs=[.ref m,tv,.int n]/\n<=500/\HB m=none/\HB dx=none/\dx≠m/\H=upd (upd HB dx (.own m)) m (.ins C dx [])/\TrAt K HB tv t/\t.size<=2000 /\
 ∀ H' L kvs,L.m=m->MAt K HB C kvs L H' ⟨[],[],[],n⟩->FormsAt K H' kvs (B9 t)->Q .non H'
theorem Zjq:A2 ["self", "tree", "steps"] ["self", "tree", "steps"] (Az Jx):=by walk_at "sc"
theorem Js {K:O7} {ta tv:TE} {f:Str} {D:Ends} {σ:St} {H:Hp} (h:tv σ H fun y H1=>ta σ H1 fun x H2=>∃ a C dx fs,x=.ref a/\H2 a=some (.ins C dx fs)/\Cls K C/\NoAttr K C f/\fs.length < 1000/\D.nx σ (upd H2 a (.ins C dx (Ai f y fs)))):L6 K ta tv f D σ H:=h
theorem Zig {C:Addr} {f:Addr} {fd:FuncData} (F:Fun K "__init__" "Machine.__init__" Jx f fd) (T:Txt K mg) (O:Mc K C) (C_placed_forms:A8 P w K mg base 1 "placed_forms" ["tree"] (Zet K)) (MS_:Ck An P w K mg base 1 C "make_steps" ["self", "many"] (Zaz K C)):FnOk P w K mg base An 2 f fd ["self", "tree", "steps"] (Nm K C):=by
 refine F.okq Zjq (fun vs H Q E h=>?_) (fun cdv A outer s H vs Q E hr h=>?_)
 ·obtain ⟨m,dx,HB,tv,t,n,rfl,_⟩:=h
  rfl
 ·obtain ⟨m,dx,HB,tv,t,n,rfl,hn5,bm,bd,ndm,hH,ht,hz,q⟩:=h
  refine ⟨_,Ad (Ih K (qv 0) (Fc (Ze1 K hr.u200 rfl) (by rfl) T.dict (by decide +kernel) (Aa (A1 C_placed_forms hr.m (Aa (qv 1) Ab)) Ab)))
   (Ad (Ih K (qv 0) (Bm Ab))
   (Ad (Ih K (qv 0) (Bm Ab))
   (Ad (Ih K (qv 0) (Bm Ab))
   (Ad (Ih K (qv 0) Ac)
   (Ag (Be (C7 (k:=1) K An ["self", "many"] (qv 0) hr.m Cw (Aa (qv 2) Ab)))))))),?_⟩
  have bg:=big
  have sB:Same HB H:=by
   rw [hH]
   exact (Same.upd bd).trans (Same.upd (by rw [Af (Pg ndm)]; exact bm))
  have im:H m=some (.ins C dx []):=by rw [hH]; exact Ae
  clear hH
  walk_at "r"
  refine Js ?_
  walk_at "r"
  refine ⟨tv,t,rfl,ht.same sB,hz,fun p rows H1 s1 hp1 e1 al1=>?_⟩
  walk_at "r"
  obtain ⟨kvs,alk,look⟩:=Zqi (K:=K) (H:=H1) rows _ al1
  refine ⟨p,rows,rfl,SqL.of e1,.inr ⟨kvs,alk,fun fd hfd=>?_⟩⟩
  have s2:Same H1 (upd H1 fd (.dT (Bv [] kvs))):=Same.upd hfd
  have e2:upd H1 fd (.dT (Bv [] kvs)) fd=some (.dT (Bv [] kvs)):=Ae
  have s02:=s1.trans s2
  have FA:FormsAt K (upd H1 fd (.dT (Bv [] kvs))) (Bv [] kvs) (B9 t):=by
   intro pl wd d hs
   unfold B9 at hs
   obtain ⟨u,hu,e⟩:=Sa.mp hs
   cases e
   rcases look pl with ⟨_,l2⟩ | ⟨v,u',l1,l2,tr⟩
   ·rw [hu] at l2; cases l2
   ·rw [hu] at l2
    cases l2
    have hm:=Zbk [] t _ (Zrm hu)
    simp only [Ut,Nat.zero_add] at hm
    refine ⟨by omega,v,u.ps,by rw [M8]; exact l1,?_⟩
    rw [<- Zk4]
    exact tr.same s2
  have nfm:fd≠m:=fun z=>by rw [z,s1 _ _ im] at hfd; cases hfd
  revert s02 e2 FA
  generalize upd H1 fd (.dT (Bv [] kvs))=H2
  intro e2 s02 FA
  generalize hkv:Bv [] kvs=kv at *
  have sB2:=sB.trans s02
  have im2:=s02 _ _ im
  refine ⟨_,rfl,m,C,dx,_,rfl,im2,O.cl,O.nf,by show 0 < 1000; decide,?_⟩
  have FA3:=FA.same (Jp im2 (.ins C dx (Ai "forms" (.ref fd) [])))
  have sB3:Same HB (upd H2 m (.ins C dx (Ai "forms" (.ref fd) []))):=sB2.over bm
  have im3:upd H2 m (.ins C dx (Ai "forms" (.ref fd) [])) m=some (.ins C dx (Ai "forms" (.ref fd) [])):=Ae
  have ef3:upd H2 m (.ins C dx (Ai "forms" (.ref fd) [])) fd=some (.dT kv):=(Af nfm).trans e2
  revert FA3 sB3 im3 ef3
  generalize upd H2 m (.ins C dx (Ai "forms" (.ref fd) []))=H3
  intro FA3 sB3 im3 ef3
  walk_at "r"
  refine Js ?_
  walk_at "r"
  refine ⟨A9,fun rd hrd=>?_⟩
  have s4:Same H3 (upd H3 rd (.lst [])):=Same.upd hrd
  have er4:upd H3 rd (.lst []) rd=some (.lst []):=Ae
  have nrm:rd≠m:=fun z=>by rw [z,im3] at hrd; cases hrd
  have nrf:fd≠rd:=fun z=>by rw [<- z,ef3] at hrd; cases hrd
  have br:HB rd=none:=sB3.free hrd
  revert s4 er4
  generalize upd H3 rd (.lst [])=H4
  intro s4 er4
  have FA4:=FA3.same s4.t
  have sB4:=sB3.trans s4
  have im4:=s4 _ _ im3
  have ef4:=s4 _ _ ef3
  refine ⟨_,rfl,m,C,dx,_,rfl,im4,O.cl,O.nr,by show 1 < 1000; decide,?_⟩
  have FA5:=FA4.same (Jp im4 (.ins C dx (Ai "rows" (.ref rd) (Ai "forms" (.ref fd) []))))
  have sB5:Same HB (upd H4 m (.ins C dx (Ai "rows" (.ref rd) (Ai "forms" (.ref fd) [])))):=sB4.over bm
  have im5:upd H4 m (.ins C dx (Ai "rows" (.ref rd) (Ai "forms" (.ref fd) []))) m=some (.ins C dx (Ai "rows" (.ref rd) (Ai "forms" (.ref fd) []))):=Ae
  have ef5:upd H4 m (.ins C dx (Ai "rows" (.ref rd) (Ai "forms" (.ref fd) []))) fd=some (.dT kv):=(Af nfm).trans ef4
  have er5:upd H4 m (.ins C dx (Ai "rows" (.ref rd) (Ai "forms" (.ref fd) []))) rd=some (.lst []):=(Af nrm).trans er4
  revert FA5 sB5 im5 ef5 er5
  generalize upd H4 m (.ins C dx (Ai "rows" (.ref rd) (Ai "forms" (.ref fd) [])))=H5
  intro FA5 sB5 im5 ef5 er5
  walk_at "r"
  refine Js ?_
  walk_at "r"
  refine ⟨A9,fun wd hwd=>?_⟩
  have s6:Same H5 (upd H5 wd (.lst [])):=Same.upd hwd
  have ew6:upd H5 wd (.lst []) wd=some (.lst []):=Ae
  have nwm:wd≠m:=fun z=>by rw [z,im5] at hwd; cases hwd
  have nwr:rd≠wd:=fun z=>by rw [<- z,er5] at hwd; cases hwd
  have bw:HB wd=none:=sB5.free hwd
  revert s6 ew6
  generalize upd H5 wd (.lst [])=H6
  intro s6 ew6
  have FA6:=FA5.same s6.t
  have sB6:=sB5.trans s6
  have im6:=s6 _ _ im5
  have ef6:=s6 _ _ ef5
  have er6:=s6 _ _ er5
  refine ⟨_,rfl,m,C,dx,_,rfl,im6,O.cl,O.nw,by show 2 < 1000; decide,?_⟩
  have FA7:=FA6.same (Jp im6 (.ins C dx (Ai "waiting" (.ref wd) (Ai "rows" (.ref rd) (Ai "forms" (.ref fd) [])))))
  have sB7:Same HB (upd H6 m (.ins C dx (Ai "waiting" (.ref wd) (Ai "rows" (.ref rd) (Ai "forms" (.ref fd) []))))):=sB6.over bm
  have im7:upd H6 m (.ins C dx (Ai "waiting" (.ref wd) (Ai "rows" (.ref rd) (Ai "forms" (.ref fd) [])))) m=some (.ins C dx (Ai "waiting" (.ref wd) (Ai "rows" (.ref rd) (Ai "forms" (.ref fd) [])))):=Ae
  have ef7:upd H6 m (.ins C dx (Ai "waiting" (.ref wd) (Ai "rows" (.ref rd) (Ai "forms" (.ref fd) [])))) fd=some (.dT kv):=(Af nfm).trans ef6
  have er7:upd H6 m (.ins C dx (Ai "waiting" (.ref wd) (Ai "rows" (.ref rd) (Ai "forms" (.ref fd) [])))) rd=some (.lst []):=(Af nrm).trans er6
  have ew7:upd H6 m (.ins C dx (Ai "waiting" (.ref wd) (Ai "rows" (.ref rd) (Ai "forms" (.ref fd) [])))) wd=some (.lst []):=(Af nwm).trans ew6
  revert FA7 sB7 im7 ef7 er7 ew7
  generalize upd H6 m (.ins C dx (Ai "waiting" (.ref wd) (Ai "rows" (.ref rd) (Ai "forms" (.ref fd) []))))=H7
  intro FA7 sB7 im7 ef7 er7 ew7
  walk_at "r"
  refine Js ?_
  walk_at "r"
  refine ⟨A9,fun td htd=>?_⟩
  have s8:Same H7 (upd H7 td (.lst [])):=Same.upd htd
  have et8:upd H7 td (.lst []) td=some (.lst []):=Ae
  have ntm:td≠m:=fun z=>by rw [z,im7] at htd; cases htd
  have ntr:rd≠td:=fun z=>by rw [<- z,er7] at htd; cases htd
  have ntw:wd≠td:=fun z=>by rw [<- z,ew7] at htd; cases htd
  have bt:HB td=none:=sB7.free htd
  revert s8 et8
  generalize upd H7 td (.lst [])=H8
  intro s8 et8
  have FA8:=FA7.same s8.t
  have sB8:=sB7.trans s8
  have im8:=s8 _ _ im7
  have ef8:=s8 _ _ ef7
  have er8:=s8 _ _ er7
  have ew8:=s8 _ _ ew7
  refine ⟨_,rfl,m,C,dx,_,rfl,im8,O.cl,O.nt,by show 3 < 1000; decide,?_⟩
  have FA9:=FA8.same (Jp im8 (.ins C dx (Ai "things" (.ref td) (Ai "waiting" (.ref wd) (Ai "rows" (.ref rd) (Ai "forms" (.ref fd) []))))))
  have sB9:Same HB (upd H8 m (.ins C dx (Ai "things" (.ref td) (Ai "waiting" (.ref wd) (Ai "rows" (.ref rd) (Ai "forms" (.ref fd) [])))))):=sB8.over bm
  have im9:upd H8 m (.ins C dx (Ai "things" (.ref td) (Ai "waiting" (.ref wd) (Ai "rows" (.ref rd) (Ai "forms" (.ref fd) []))))) m=some (.ins C dx (Ai "things" (.ref td) (Ai "waiting" (.ref wd) (Ai "rows" (.ref rd) (Ai "forms" (.ref fd) []))))):=Ae
  have ef9:upd H8 m (.ins C dx (Ai "things" (.ref td) (Ai "waiting" (.ref wd) (Ai "rows" (.ref rd) (Ai "forms" (.ref fd) []))))) fd=some (.dT kv):=(Af nfm).trans ef8
  have er9:upd H8 m (.ins C dx (Ai "things" (.ref td) (Ai "waiting" (.ref wd) (Ai "rows" (.ref rd) (Ai "forms" (.ref fd) []))))) rd=some (.lst []):=(Af nrm).trans er8
  have ew9:upd H8 m (.ins C dx (Ai "things" (.ref td) (Ai "waiting" (.ref wd) (Ai "rows" (.ref rd) (Ai "forms" (.ref fd) []))))) wd=some (.lst []):=(Af nwm).trans ew8
  have et9:upd H8 m (.ins C dx (Ai "things" (.ref td) (Ai "waiting" (.ref wd) (Ai "rows" (.ref rd) (Ai "forms" (.ref fd) []))))) td=some (.lst []):=(Af ntm).trans et8
  revert FA9 sB9 im9 ef9 er9 ew9 et9
  generalize upd H8 m (.ins C dx (Ai "things" (.ref td) (Ai "waiting" (.ref wd) (Ai "rows" (.ref rd) (Ai "forms" (.ref fd) [])))))=H9
  intro FA9 sB9 im9 ef9 er9 ew9 et9
  walk_at "r"
  refine Js ?_
  walk_at "r"
  refine ⟨m,C,dx,_,rfl,im9,O.cl,O.ns,by show 4 < 1000; decide,?_⟩
  obtain ⟨L,hL⟩:∃ L:Ml,L=⟨m,dx,fd,rd,wd,td⟩:=⟨_,rfl⟩
  have M:MAt K HB C kv L (upd H9 m (.ins C dx (L.fs 0))) ⟨[],[],[],0⟩:=by
   subst hL
   exact ⟨sB9.over bm,bm,br,bw,bt,Ae,(Af nfm).trans ef9,nwr,ntr,ntw,⟨[],(Af nrm).trans er9,.nil,SepR.nil⟩,⟨[],(Af nwm).trans ew9,.nil⟩,⟨[],(Af ntm).trans et9,.nil⟩⟩
  have FA10:=FA9.same (Jp im9 (.ins C dx (L.fs 0)))
  rw [show Ai "steps" (.int 0) (Ai "things" (.ref td) (Ai "waiting" (.ref wd) (Ai "rows" (.ref rd) (Ai "forms" (.ref fd) []))))=L.fs 0 by subst hL; rfl]
  revert M FA10
  generalize upd H9 m (.ins C dx (L.fs 0))=H10
  intro M FA10
  have hm:L.m=m:=by rw [hL]
  walk_at "r"
  refine ⟨_,rfl,m,C,L.dx,_,_,rfl,(by rw [<- hm]; exact M.ins),(C1 L 0).1,MS_,?_⟩
  walk_at "r"
  refine ⟨n,HB,kv,L,_,by rw [hm],M,by show (0:Int) + n<=500; omega,fun H' e' M'=>?_⟩
  walk_at "r"
  have M':MAt K HB C kv L H' ⟨[],[],[],(0:Int) + n⟩:=M'
  rw [Int.zero_add] at M'
  exact q H' L kv hm M' (FA10.same (M.t e'))
end
end K57
namespace K57
open PySem L2 K19
section
variable {P:Program} {w:World} {K:O7} {mg:Str->Option Value} {base:Heap}
noncomputable def Zcb:Sp:=fun vs H Q _=>∃ k:Int,vs=[.int k]/\Q (.bl true) H
theorem Zmc:A2 ["thing"] ["thing"] (Az K2):=by walk_at "sc"
theorem Zlg {f:Addr} {fd:FuncData} (F:Fun K "is_whole" "is_whole" K2 f fd) (T:Txt K mg):FnOk P w K mg base An 1 f fd ["thing"] Zcb:=by
 refine F.okq Zmc (fun vs H Q E h=>?_) (fun cdv A outer s H vs Q E hr h=>?_)
 ·obtain ⟨k,rfl,_⟩:=h
  rfl
 ·obtain ⟨k,rfl,q⟩:=h
  refine ⟨_,Ag (Av (Ek (Bj (Dc K "int") (by rfl) T.isinstance (by decide +kernel) (Aa (qv 0) (Aa (C8 (v:=.ty "int") (by rfl) T.int (by decide +kernel) rfl) Ab))) (Eu (Zgt (Bj (Dc K "bool") (by rfl) T.isinstance (by decide +kernel) (Aa (qv 0) (Aa (C8 (v:=.ty "bool") (by rfl) T.bool (by decide +kernel) rfl) Ab))))))),?_⟩
  walk_at "r"
  refine B5 (.int _) Zq3 ?_
  walk_at "r"
  refine B5 (.int _) Zmf ?_
  walk_at "r"
  exact q
end
end K57
namespace K57
open PySem L2 K19
section
variable {P:Program} {w:World} {K:O7} {mg:Str->Option Value} {base:Heap}
noncomputable def Ze6 (K:O7):Sp:=fun vs H Q _=>∃ (v:V) (w:Str) (n:Dt) (ps:List Tr) (k:Nat),vs=[v,.int (k:Nat)]/\TrAt K H v (.mk w n ps)/\k < ps.length/\Q (.bl true) H
theorem Zrp:A2 ["form", "number"] ["form", "number"] (Az Kz):=by walk_at "sc"
theorem Zky {f:Addr} {fd:FuncData} (F:Fun K "has_part" "has_part" Kz f fd) (T:Txt K mg) (C_is_whole:A8 P w K mg base 1 "is_whole" ["thing"] Zcb):FnOk P w K mg base An 2 f fd ["form", "number"] (Ze6 K):=by
 refine F.okq Zrp (fun vs H Q E h=>?_) (fun cdv A outer s H vs Q E hr h=>?_)
 ·obtain ⟨v,w,n,ps,k,rfl,_⟩:=h
  rfl
 ·obtain ⟨v,w,n,ps,k,rfl,ht,hk,q⟩:=h
  refine ⟨_,Ag (Av (Ek (A1 C_is_whole hr.m (Aa (qv 1) Ab)) (Eu (Zsu Zr7 Jr Ac (qv 1) (Bj (Df K) (by rfl) T.len (by decide +kernel) (Aa (Ak K (qv 0) Ac) Ab)))))),?_⟩
  cases ht with
  | @mk b pp _ nv _ us _ qb hn qp l hch =>
  walk_at "r"
  refine ⟨_,rfl,?_⟩
  walk_at "r"
  refine C2 (fun _=>?_) (fun c=>absurd (decide_eq_true (by omega)) c)
  walk_at "r"
  refine Aw qb rfl ?_
  walk_at "r"
  refine Fl qp ?_
  walk_at "r"
  have e:decide ((k:Int) < (us.length:Int))=true:=decide_eq_true (by omega)
  rw [e]
  exact q
end
end K57
namespace K57
open PySem L2 K19
section
variable {P:Program} {w:World} {K:O7} {mg:Str->Option Value} {base:Heap}
theorem Zd4 {α:Type} {xs:List α} {x:α} (h:xs[xs.length - 1]?=some x):Cm xs (-1)=some x:=by
 have hl:=(Pj.mp h).1
 unfold Cm Fd
 rw [if_neg (by omega),if_pos (by omega)]
 have e:((-1:Int) + (xs.length:Int)).toNat=xs.length - 1:=by omega
 simpa [e] using h
theorem Znb {α:Type} {xs:List α} {i:Int} {x:α} (j:Nat) (hj:(j:Int)=i) (h:xs[j]?=some x):Cm xs i=some x:=by
 have hl:=(Pj.mp h).1
 subst hj
 unfold Cm Fd
 rw [if_pos (by omega),if_pos (by omega)]
 simpa using h
theorem Zdj {pl:List Nat} {i:Nat} {v:V} (h:(A0 pl)[i]?=some v):∃ k,v=.int (k:Nat)/\pl[i]?=some k:=by
 unfold A0 at h
 rw [Qn] at h
 cases e:pl[i]? with
 | none=>rw [e] at h; cases h
 | some x=>rw [e] at h; exact ⟨x,(Qf h).symm,rfl⟩
theorem Zez (pl:List Nat):(A0 pl).length=pl.length:=by unfold A0; simp
noncomputable def M9 (K:O7):Sp:=fun vs H Q _=>∃ (v:V) (t:Tr) (p:Addr) (pl:List Nat),vs=[v,.ref p]/\TrAt K H v t/\SqT K H p (A0 pl)/\Sub t pl/\pl.length<=1000 /\
 ∀ (q:Addr) (ws:List V) (H':Hp),H q=none->Same H H'->H' q=some (.lst ws)->Al (TrAt K H') ws (path t pl)->Q (.ref q) H'
theorem sc_forms_down_to:A2 ["tree", "place", "passed", "number"] ["tree", "place"] (Az Kw):=by walk_at "sc"
theorem Zry {f:Addr} {fd:FuncData} (F:Fun K "forms_down_to" "forms_down_to" Kw f fd) (T:Txt K mg) (C_has_part:A8 P w K mg base 2 "has_part" ["form", "number"] (Ze6 K)):FnOk P w K mg base An 3 f fd ["tree", "place"] (M9 K):=by
 refine F.okq sc_forms_down_to (fun vs H Q E h=>?_) (fun cdv A outer s H vs Q E hr h=>?_)
 ·obtain ⟨v,t,p,pl,rfl,_⟩:=h
  rfl
 ·obtain ⟨v,t,p,pl,rfl,ht,hp,hs,hl,q⟩:=h
  refine ⟨_,Ad (Ay 2 sc_forms_down_to (Bm (Aa (qv 0) Ab)))
   (Ad (Dr Qj rfl (Fj K (qv 1)) (Bb (i:=3) sc_forms_down_to.nd rfl (Or.inl rfl)) (Ad (A7 (Fv (Da (A1 C_has_part hr.m (Aa (Ak K (qv 2) (Hd Hl Ac)) (Aa (qv 3) Ab))))) (Ag Zby) Ba)
   (Ag (Be (B2 K Po Py Pz B6 (qv 2) (Aa (Ak K (Ak K (Ak K (qv 2) (Hd Hl Ac)) Ac) (qv 3)) Ab))))))
   (Ag (Av (qv 2)))),?_⟩
  have bg:=big
  walk_at "r"
  refine ⟨Cj,fun q0 hq0=>?_⟩
  obtain ⟨H1,s1,e1,z9⟩:=Aj hq0 (.lst [v])
  rw [z9]
  walk_at "r"
  refine .inr (.inl ⟨p,rfl,⟨_,s1.tup hp⟩,?_⟩)
  have p0:(path t pl).take 1=[t]:=by
   have:=Oc t pl
   cases e:path t pl with
   | nil=>rw [e] at this; cases this
   | cons a r =>
    rw [e] at this
    have h:a=t:=by simpa using this
    rw [h]
    rfl
  refine Zkg (K:=K) (a:=p) (xs:=A0 pl) (fun i σ' H'=>∃ w3 ws,σ'=[some v,some (.ref p),some (.ref q0),w3]/\H' q0=some (.lst ws)/\Al (TrAt K H') ws ((path t pl).take (i + 1))/\Same H H') ⟨none,[v],rfl,e1,by rw [p0]; exact Al.nil.snoc (ht.same s1),s1⟩ ?_ ?_ ?_
  ·rintro i σ' H' _ ⟨_,_,_,_,_,sm⟩
   exact sm.tup hp
  ·rintro i x σ' H' hx ⟨w3,ws,rfl,e2,al,sm⟩
   obtain ⟨k,rfl,hk⟩:=Zdj hx
   obtain ⟨w',n',ps,u,a1,a2,a3⟩:=Zae hs i k hk
   have hi:=(Pj.mp hk).1
   have hpl:=Mf hs
   have hwl:ws.length=i + 1:=by rw [al.1,Qi]; omega
   have hx1:((path t pl).take (i + 1))[i]?=some (.mk w' n' ps):=by rw [List.getElem?_take,if_pos (by omega)]; exact a1
   obtain ⟨vi,hvi,hti⟩:=al.get' hx1
   have hlast:Cm ws (-1)=some vi:=Zd4 (by rw [hwl]; exact hvi)
   cases hti with
   | @mk b pp _ nv _ us _ qb hn qp l hch =>
   have hku:k < us.length:=by rw [l]; exact (Pj.mp a2).1
   walk_at "r"
   refine Bp (SqL.of e2) hlast ?_
   walk_at "r"
   refine ⟨_,w',n',ps,k,rfl,.mk qb hn qp l hch,by omega,?_⟩
   walk_at "r"
   refine Br (SqL.of e2) ?_
   walk_at "r"
   refine Bp (SqL.of e2) hlast ?_
   walk_at "r"
   refine Aw qb rfl ?_
   walk_at "r"
   refine Aw qp (Znb k rfl (Pb hku)) ?_
   walk_at "r"
   refine B4 e2 (by omega) ?_
   walk_at "r"
   have t3:SameT H' (upd H' q0 (.lst (ws++[us[k]]))):=SameT.set e2
   refine ⟨_,ws++[us[k]],rfl,Ae,?_,sm.over hq0⟩
   have e3:(path t pl).take (i + 1 + 1)=(path t pl).take (i + 1)++[u]:=by rw [R0,a3]; rfl
   rw [e3]
   exact (al.mono fun _ _ z=>z.sameT t3).snoc ((hch k _ u (Pb hku) a2).sameT t3)
  ·rintro σ' H' ⟨w3,ws,rfl,e2,al,sm⟩
   rw [Zez,Rv (by rw [Mf hs]; omega)] at al
   walk_at "r"
   exact q q0 ws H' hq0 sm e2 al
end
end K57
namespace K57
open PySem L2 K19
section
variable {P:Program} {w:World} {K:O7} {mg:Str->Option Value} {base:Heap}
noncomputable def Zcp (K:O7):Sp:=fun vs H Q _=>∃ (v u:V) (w:Str) (n:Dt) (ps:List Tr) (tu:Tr) (k:Nat),vs=[v,.int (k:Nat),u]/\TrAt K H v (.mk w n ps)/\TrAt K H u tu/\k < ps.length/\ps.length<=1000 /\
 ∀ (v':V) (H':Hp),Same H H'->TrAt K H' v' (.mk w n (ps.set k tu))->Q v' H'
theorem Zos {α:Type} {xs:List α} {k:Nat} {x:α} (h:k < xs.length):xs.take k++[x]++xs.drop (k + 1)=xs.set k x:=by
 rw [List.set_eq_take_append_cons_drop,if_pos h,Qe]
 rfl
theorem Zd3:A2 ["form", "number", "part", "parts"] ["form", "number", "part"] (Az Ju):=by walk_at "sc"
theorem Zit {f:Addr} {fd:FuncData} (F:Fun K "with_part" "with_part" Ju f fd) (T:Txt K mg):FnOk P w K mg base An 1 f fd ["form", "number", "part"] (Zcp K):=by
 refine F.okq Zd3 (fun vs H Q E h=>?_) (fun cdv A outer s H vs Q E hr h=>?_)
 ·obtain ⟨v,u,w,n,ps,tu,k,rfl,_⟩:=h
  rfl
 ·obtain ⟨v,u,w,n,ps,tu,k,rfl,ht,hu,hk,hl,q⟩:=h
  refine ⟨_,Ad (Ay 3 Zd3 (Ak K (qv 0) Ac))
   (Ag (Av (Ah (Aa (Ak K (qv 0) Ac) (Aa (Ak K (qv 0) Ac) (Aa (Au (B8 K) (Au (B8 K) (Fk (Zfy K) (qv 3) (Fw) (Fy (qv 1))) (Ah (Aa (qv 2) Ab))) (Fk (Zfy K) (qv 3) (Fy (Au (B8 K) (qv 1) Ac)) (Fw))) Ab)))))),?_⟩
  have bg:=big
  cases ht with
  | @mk b pp _ nv _ us _ qb hn qp l hch =>
  walk_at "r"
  refine Aw qb rfl ?_
  walk_at "r"
  refine Aw qb rfl ?_
  walk_at "r"
  refine Aw qb rfl ?_
  walk_at "r"
  refine Ze8 qp fun r1 H1 s1 q1=>?_
  rw [Zo6] at q1
  walk_at "r"
  refine ⟨Cj,fun p2 h2=>?_⟩
  have s2:=Same.upd (o:=.tup [u]) h2
  refine Zhq (s2.tup q1) (SqT.of Ae) (by rw [Qi]; show _ + 1<=sizeLine; omega) fun r3 H3 s3 q3=>?_
  have s13:=s1.trans (s2.trans s3)
  walk_at "r"
  refine Ze8 (s13.tup qp) fun r4 H4 s4 q4=>?_
  have ek:(k:Int) + 1=((k + 1:Nat):Int):=by omega
  rw [ek,Zcj] at q4
  refine Zhq (s4.tup q3) q4 (by rw [Pc,Qi,Se]; show _ + 1 + _<=sizeLine; omega) fun r5 H5 s5 q5=>?_
  rw [Zos (by omega)] at q5
  walk_at "r"
  refine ⟨Bd,fun p6 h6=>?_⟩
  have s6:=Same.upd (o:=.tup [.str w,nv,.ref r5]) h6
  have sm:=s13.trans (s4.trans (s5.trans s6))
  refine q (.ref p6) _ sm (.mk (SqT.of Ae) (hn.same sm.t) (s6.tup q5) (by rw [List.length_set,List.length_set]; exact l) fun j x y g1 g2=>?_)
  by_cases e:k=j
  ·subst e
   rw [Ub (by omega)] at g1 g2
   cases g1
   cases g2
   exact hu.same sm
  ·rw [Uf e] at g1 g2
   exact (hch j x y g1 g2).same sm
end
end K57
namespace K57
open PySem L2 K19
section
variable {P:Program} {w:World} {K:O7} {mg:Str->Option Value} {base:Heap}
noncomputable def Zdk (K:O7):Sp:=fun vs H Q _=>∃ (v u:V) (t tu:Tr) (p:Addr) (pl:List Nat),vs=[v,.ref p,u]/\TrAt K H v t/\SqT K H p (A0 pl)/\Sub t pl/\pl.length<=1000/\t.size<=1000/\TrAt K H u tu /\
 ∀ (v':V) (H':Hp),Same H H'->TrAt K H' v' (Ci t pl tu)->Q v' H'
theorem Zql {t:Tr} {pl:List Nat} (s:Sub t pl):∀ u∈path t pl,u.size<=t.size:=by
 induction s with
 | nil t=>intro u hu; cases t; rw [path,Qt] at hu; rw [hu]; exact Pa _
 | cons hj _ ih =>
  intro u hu
  rw [Zb3 hj] at hu
  rcases Pm.mp hu with rfl | hu
  ·exact Pa _
  ·have:=ih u hu
   have:=Zor hj
   rw [Tr.size]
   omega
theorem sc_with_at:A2 ["tree", "place", "form", "made", "number", "above"] ["tree", "place", "form"] (Az Jh):=by walk_at "sc"
theorem Zi1 {f:Addr} {fd:FuncData} (F:Fun K "with_at" "with_at" Jh f fd) (T:Txt K mg) (C_forms_down_to:A8 P w K mg base 3 "forms_down_to" ["tree", "place"] (M9 K)) (C_with_part:A8 P w K mg base 1 "with_part" ["form", "number", "part"] (Zcp K)):FnOk P w K mg base An 4 f fd ["tree", "place", "form"] (Zdk K):=by
 refine F.okq sc_with_at (fun vs H Q E h=>?_) (fun cdv A outer s H vs Q E hr h=>?_)
 ·obtain ⟨v,u,t,tu,p,pl,rfl,_⟩:=h
  rfl
 ·obtain ⟨v,u,t,tu,p,pl,rfl,ht,hp,hs,hl,hz,hu,q⟩:=h
  refine ⟨_,Ad (Ay 3 sc_with_at (qv 2))
   (Ad (Dr Qj rfl (N6 K rfl T.reversed (Aa (Zku K (by rfl) T.list (by rfl) T.zip (Aa (qv 1) (Aa (A1 C_forms_down_to hr.m (Aa (qv 0) (Aa (qv 1) Ab))) Ab))) Ab)) (Ep K (n:=2) rfl (Cb (Bb (i:=4) sc_with_at.nd rfl (Or.inl rfl)) (Cb (Bb (i:=5) sc_with_at.nd rfl (Or.inl rfl)) (Ev)))) (Ag (Ay 3 sc_with_at (A1 C_with_part hr.m (Aa (qv 5) (Aa (qv 4) (Aa (qv 3) Ab)))))))
   (Ag (Av (qv 3)))),?_⟩
  have hpl:=Mf hs
  walk_at "r"
  refine ⟨v,t,p,pl,rfl,ht,hp,hs,hl,fun q1 ws H1 hq1 s1 e1 al=>?_⟩
  walk_at "r"
  refine ⟨p,q1,_,ws,rfl,s1.tup hp,SqL.of e1,fun S zs H2 hS s2 hzl hpairs hS2=>?_⟩
  have hzl:zs.length=pl.length:=by rw [hzl,Zez,al.1,hpl]; omega
  walk_at "r"
  refine ⟨S,zs,rfl,SqL.of hS2,?_⟩
  have s12:=s1.trans s2
  have hlastp:(path t pl)[pl.length]?=some ((path t pl)[pl.length]'(by omega)):=Pb (by omega)
  refine Om (K:=K) (a:=S) (xs:=zs) (fun j σ' H'=>∃ w4 w5 m tm,σ'=[some v,some (.ref p),some u,some m,w4,w5]/\(path t pl)[pl.length - j]?=some tm/\TrAt K H' m (Ci tm (pl.drop (pl.length - j)) tu)/\Same H2 H') ⟨none,none,u,_,rfl,hlastp,by rw [Tp,Ru (Pa _),Zin]; exact hu.same s12,Same.refl _⟩ ?_ ?_ ?_
  ·rintro j σ' H' _ ⟨_,_,_,_,_,_,_,sm⟩
   exact SqL.of (sm _ _ hS2)
  ·rintro j z σ' H' hj hz1 ⟨w4,w5,m,tm,rfl,htm,hm,sm⟩
   obtain ⟨tt,x,y,rfl,hx,hy,htt⟩:=hpairs _ _ hz1
   obtain ⟨k,rfl,hk⟩:=Zdj hx
   obtain ⟨w',n',ps,u',a1,a2,a3⟩:=Zae hs _ k hk
   rw [hzl] at hk a1 a3 hy hj
   obtain ⟨ty,hty,hat⟩:=al.get hy
   rw [a1] at hty
   cases hty
   have e2:pl.length - 1 - j + 1=pl.length - j:=by omega
   rw [e2,htm] at a3
   cases a3
   have hps:ps.length<=1000:=by
    have:=Zql hs _ (Rl a1)
    rw [Tr.size] at this
    have:=Zmg ps
    omega
   walk_at "r"
   refine Ec (SqT.of (sm _ _ htt)) rfl ?_
   walk_at "r"
   refine ⟨y,m,w',n',ps,_,k,rfl,hat.same (s2.trans sm),hm,(Pj.mp a2).1,hps,fun v' H3 s3 hv'=>?_⟩
   walk_at "r"
   have e3:pl.length - (j + 1)=pl.length - 1 - j:=by omega
   refine ⟨_,_,v',_,rfl,by rw [e3]; exact a1,?_,sm.trans s3⟩
   rw [e3,Zn3 hs _ k w' n' ps tm hk a1 (by rw [e2]; exact htm),e2]
   exact hv'
  ·rintro σ' H' ⟨w4,w5,m,tm,rfl,htm,hm,sm⟩
   rw [hzl,Rs] at htm hm
   rw [Oc] at htm
   cases htm
   walk_at "r"
   exact q m H' (s12.trans sm) hm
end
end K57
namespace K57
open PySem L2 K19
section
variable {P:Program} {w:World} {K:O7} {mg:Str->Option Value} {base:Heap}
noncomputable def Zeb (K:O7):Sp:=fun vs H Q _=>∃ (v:V) (t:Tr) (p:Addr) (pl:List Nat) (tx:Tr),vs=[v,.ref p]/\TrAt K H v t/\SqT K H p (A0 pl)/\Sub t pl/\pl.length<=1000/\(path t pl)[pl.length]?=some tx /\
 ∀ (u:V) (H':Hp),Same H H'->TrAt K H' u tx->Q u H'
theorem Zqp:A2 ["tree", "place"] ["tree", "place"] (Az Jz):=by walk_at "sc"
theorem Zk5 {f:Addr} {fd:FuncData} (F:Fun K "form_at" "form_at" Jz f fd) (T:Txt K mg) (C_forms_down_to:A8 P w K mg base 3 "forms_down_to" ["tree", "place"] (M9 K)):FnOk P w K mg base An 4 f fd ["tree", "place"] (Zeb K):=by
 refine F.okq Zqp (fun vs H Q E h=>?_) (fun cdv A outer s H vs Q E hr h=>?_)
 ·obtain ⟨v,t,p,pl,tx,rfl,_⟩:=h
  rfl
 ·obtain ⟨v,t,p,pl,tx,rfl,ht,hp,hs,hl,hx,q⟩:=h
  refine ⟨_,Ag (Av (Ak K (A1 C_forms_down_to hr.m (Aa (qv 0) (Aa (qv 1) Ab))) (Hd Hl Ac))),?_⟩
  have hpl:=Mf hs
  walk_at "r"
  refine ⟨v,t,p,pl,rfl,ht,hp,hs,hl,fun q1 ws H1 hq1 s1 e1 al=>?_⟩
  obtain ⟨u,hu,hat⟩:=al.get' hx
  have hwl:ws.length - 1=pl.length:=by rw [al.1,hpl]; omega
  walk_at "r"
  refine Bp (SqL.of e1) (Zd4 (by rw [hwl]; exact hu)) ?_
  exact q u H1 s1 hat
noncomputable def Zf4 (K:O7):Sp:=fun vs H Q _=>∃ (v:V) (d:Dt) (ts:List Tr),vs=[v]/\TrAt K H v (.mk "gap" d ts)/\Q .non H
theorem Zq1:A2 ["form"] ["form"] (Az J6):=by walk_at "sc"
theorem Zs2 {f:Addr} {fd:FuncData} (F:Fun K "refuse_no_gap" "refuse_no_gap" J6 f fd) (T:Txt K mg):FnOk P w K mg base An 1 f fd ["form"] (Zf4 K):=by
 refine F.okq Zq1 (fun vs H Q E h=>?_) (fun cdv A outer s H vs Q E hr h=>?_)
 ·obtain ⟨v,d,ts,rfl,_⟩:=h
  rfl
 ·obtain ⟨v,d,ts,rfl,ht,q⟩:=h
  refine ⟨_,Ag (A7 (A6 (E2 K hr.u200) (Ak K (qv 0) Ac) Ar (A5 _)) (Ag Zby) Ba),?_⟩
  cases ht with
  | @mk b pp _ nv _ us _ qb hn qp l hch =>
  walk_at "r"
  refine Aw qb rfl ?_
  walk_at "r"
  rw [decide_eq_true (Eq.refl _)]
  walk_at "r"
  exact q
open K19 in
inductive GoG (sub:List Nat->Option (Str×Dt)) (fl:List Nat):List Rx->List (Str×V)->MS->List (Str×V)->MS->Prop where
 | nil {bc:List (Str×V)} {S:MS}:GoG sub fl [] bc S bc S
 | cons {r:Rx} {rs:List Rx} {bc bc':List (Str×V)} {S S1 S':MS} {x:Str×V} (hs:S.rows.length < 9000) (ht:S.things.length < 8000) (ok:F0 bc.length r) (h1:RowG sub fl bc r S S1 x) (h2:GoG sub fl rs (bc++[x]) S1 bc' S'):GoG sub fl (r :: rs) bc S bc' S'
inductive Fx (sub:List Nat->Option (Str×Dt)) (fl:List Nat):List Rx->List (Str×V)->MS->Option (List (Str×V)×MS)->Prop where
 | nil {bc:List (Str×V)} {S:MS}:Fx sub fl [] bc S (some (bc,S))
 | cons {r:Rx} {rs:List Rx} {bc:List (Str×V)} {S S1:MS} {x:Str×V} {o:Option (List (Str×V)×MS)} (hs:S.rows.length < 9000) (ht:S.things.length < 8000) (ok:F0 bc.length r) (h1:RowG sub fl bc r S S1 x) (h2:Fx sub fl rs (bc++[x]) S1 o):Fx sub fl (r :: rs) bc S o
 | late {r:Rx} {rs:List Rx} {bc:List (Str×V)} {S:MS} (hs:S.rows.length < 9000) (ht:S.things.length < 8000) (ok:F0 bc.length r) (h1:J3 sub fl bc r S none):Fx sub fl (r :: rs) bc S none
theorem RunM.wait {sub:List Nat->Option (Str×Dt)} {n:Nat} {S S':MS} (h:RunM sub n S S'):S'.wait=[]:=by
 induction h with
 | nil h=>exact h
 | cons _ _ _ ih=>exact ih
theorem RowG.wait {sub:List Nat->Option (Str×Dt)} {fl:List Nat} {bc:List (Str×V)} {r:Rx} {S S':MS} {x:Str×V} (h:RowG sub fl bc r S S' x) (hw:S.wait=[]):S'.wait=[]:=by
 cases h with
 | fill _ R _=>exact R.wait
 | parts _ _ _ R _=>exact R.wait
 | new _ _ _=>exact hw
theorem Gr (H:Hp) (b:Addr) (o o':HO):upd (upd H b o) b o'=upd H b o':=by
 funext c
 by_cases e:c=b
 ·rw [e,Ae,Ae]
 ·rw [Af e,Af e,Af e]
theorem _root_.L2.MAt.re {K:O7} {HB H:Hp} {C:Addr} {kvs:List (List Ao×V)} {L:Ml} {S:MS} (M:MAt K HB C kvs L H S) {b:Addr} {xs:List V} (hb:H b=none\/∃ ys,HB b=some (.lst ys)) (hw:S.wait=[]):MAt K (upd HB b (.lst xs)) C kvs L (upd H b (.lst xs)) S:=by
 obtain ⟨rv,er,ar,sp⟩:=M.rows
 obtain ⟨wv,ew,aw⟩:=M.wait
 obtain ⟨tv,et,att⟩:=M.things
 have ewv:wv=[]:=Ss (by rw [aw.1,hw]; rfl)
 subst ewv
 have n1:L.m≠b:=by
  rintro rfl
  rcases hb with h | ⟨ys,h⟩
  ·rw [M.ins] at h; cases h
  ·rw [M.nm] at h; cases h
 have n2:L.rd≠b:=by
  rintro rfl
  rcases hb with h | ⟨ys,h⟩
  ·rw [er] at h; cases h
  ·rw [M.nr] at h; cases h
 have n3:L.wd≠b:=by
  rintro rfl
  rcases hb with h | ⟨ys,h⟩
  ·rw [ew] at h; cases h
  ·rw [M.nw] at h; cases h
 have n4:L.td≠b:=by
  rintro rfl
  rcases hb with h | ⟨ys,h⟩
  ·rw [et] at h; cases h
  ·rw [M.nt] at h; cases h
 have n5:L.fd≠b:=by
  rintro rfl
  rcases hb with h | ⟨ys,h⟩
  ·rw [M.frm] at h; cases h
  ·have:=M.frm; rw [M.base _ _ h] at this; cases this
 have sA:SameA (fun c=>L.A c\/upd HB b (.lst xs) c≠none) H (upd H b (.lst xs)):=by
  rcases hb with h | ⟨ys,h⟩
  ·exact (Same.upd h).a
  ·exact SameA.set (M.base _ _ h) (.inr (by rw [Ae]; simp))
 have mo:∀ c,(L.A c\/upd HB b (.lst xs) c≠none)->H c≠none->(L.A c\/HB c≠none):=by
  intro c hc hn
  rcases hc with z | z
  ·exact .inl z
  ·refine .inr ?_
   by_cases e:c=b
   ·rcases hb with h | ⟨ys,h⟩
    ·rw [e,h] at hn; exact absurd rfl hn
    ·rw [e,h]; simp
   ·rw [Af e] at z; exact z
 refine ⟨fun c o h=>?_,(Af n1).trans M.nm,(Af n2).trans M.nr,(Af n3).trans M.nw,(Af n4).trans M.nt,(Af n1).trans M.ins,(Af n5).trans M.frm,M.rw,M.rt,M.wt,⟨rv,(Af n2).trans er,(ar.mono (RwX.mono mo)).mono (RwX.same sA),(sp.mono mo).same sA⟩,⟨[],(Af n3).trans ew,by rw [hw]; exact .nil⟩,⟨tv,(Af n4).trans et,att.mono (ThAt.same sA.1)⟩⟩
 by_cases e:c=b
 ·rw [e] at h ⊢
  rw [Ae] at h ⊢
  exact h
 ·rw [Af e] at h ⊢
  exact M.base _ _ h
open K19 in
noncomputable def Zbf (K:O7) (TL:Addr):Sp:=fun vs H Q E=>∃ (tv fv av:V) (t tf:Tr) (p q0 rd:Addr) (fl:List Nat) (d:Dt) (gs:List Tr) (n:Int) (rv:List V) (rs:List Rx) (xa:Str×V) (oo:Option (List (Str×V)×MS)),vs=[tv,.ref q0,.ref p,fv]/\TrAt K H tv t/\t.size<=1000/\SqT K H p (A0 fl)/\Sub t fl/\fl.length<=1000/\(path t fl)[fl.length]?=some (.mk "gap" d gs)/\TrAt K H fv tf/\(Ci t fl tf).size<=2000/\SqT K H q0 [av,.ref rd,.int n]/\n<=500/\H rd=some (.lst rv)/\Al (RwX K (fun b=>b=rd) H) rv rs/\rs.length<=9000/\Fx (B9 (Ci t fl tf)) fl rs [] ⟨[],[],[],n⟩ oo /\
 (∀ bc S',oo=some (bc,S')->ThAt K H av xa/\NowOk bc.length xa/\∀ (r' rd':Addr) (av':V) (rv':List V) (H':Hp),Same H H'->SqT K H' r' [av',.ref rd',.int S'.steps]->ThAt K H' av' (Cc bc xa)->H' rd'=some (.lst rv')->Al (RwX K (fun b=>b=rd'\/H b≠none) H') rv' S'.rows->SepR K (fun b=>b=rd'\/H b≠none) H' rv' S'.rows->H rd'=none->Q (.ref r') H')/\(oo=none->∀ H',Same H H'->E (.ref TL) none H')
theorem sc_go_on:A2 ["tree", "record", "place", "form", "answer", "rows", "steps", "machine", "became", "row"] ["tree", "record", "place", "form"] (Az Ic):=by walk_at "sc"
open K19 in
theorem Zn8 {C TL:Addr} {f:Addr} {fd:FuncData} (F:Fun K "go_on" "go_on" Ic f fd) (T:Txt K mg) (O:Mc K C) (C_refuse_no_gap:A8 P w K mg base 1 "refuse_no_gap" ["form"] (Zf4 K)) (C_form_at:A8 P w K mg base 4 "form_at" ["tree", "place"] (Zeb K)) (C_with_at:A8 P w K mg base 4 "with_at" ["tree", "place", "form"] (Zdk K)) (C_thing_now:A8 P w K mg base 1 "thing_now" ["thing", "became"] (Za2 K)) (C_thing_of_row:He P w K mg base 7 "thing_of_row" ["machine", "row", "filled", "became"] (Zd0 K C TL)) (MK_Machine:Oj An P w K mg base 2 "Machine" C ["self", "tree", "steps"] (Nm K C)):FnOk P w K mg base (Bl P w) 8 f fd ["tree", "record", "place", "form"] (Zbf K TL):=by
 refine F.okx sc_go_on (fun vs H Q E h=>?_) (fun cdv A outer s H vs Q E hr h=>?_)
 ·obtain ⟨tv,fv,av,t,tf,p,q0,rd,fl,d,gs,n,rv,rs,xa,oo,rfl,_⟩:=h
  rfl
 ·obtain ⟨tv,fv,av,t,tf,p,q0,rd,fl,d,gs,n,rv,rs,xa,oo,rfl,ht,hz,hp,hs,hl,hg,hf,hz2,hq,hn,hrd,alr,hrl,G,q,qL⟩:=h
  refine ⟨_,Ad (Be (A1 C_refuse_no_gap hr.m (Aa (A1 C_form_at hr.m (Aa (qv 0) (Aa (qv 2) Ab))) Ab)))
   (Ad (Ij (qv 1) (Ep K (n:=3) rfl (Cb (Bb (i:=4) sc_go_on.nd rfl (Or.inl rfl)) (Cb (Bb (i:=5) sc_go_on.nd rfl (Or.inl rfl)) (Cb (Bb (i:=6) sc_go_on.nd rfl (Or.inl rfl)) (Ev))))))
   (Ad (Ay 7 sc_go_on (Zop MK_Machine hr.m Cw (Aa (A1 C_with_at hr.m (Aa (qv 0) (Aa (qv 2) (Aa (qv 3) Ab)))) (Aa (qv 6) Ab))))
   (Ad (Ay 8 sc_go_on (Bm Ab))
   (Ad (Dr PassesOwn.leaving rfl (Fj K (qv 5)) (Bb (i:=9) sc_go_on.nd rfl (Or.inl rfl)) (Ag (Be (B2 K Po Py Pz B6 (qv 8) (Aa (Zm0 C_thing_of_row hr.m (J2 (fun _ _ _ h=>h)) (Aa (qv 7) (Aa (qv 9) (Aa (qv 2) (Aa (qv 8) Ab))))) Ab)))))
   (Ag (Av (Ah (Aa (A1 C_thing_now hr.m (Aa (qv 4) (Aa (qv 8) Ab))) (Aa (Bt K (qv 7)) (Aa (Bt K (qv 7)) Ab)))))))))),?_⟩
  have bg:=big
  walk_at "r"
  refine ⟨tv,t,p,fl,_,rfl,ht,hp,hs,hl,hg,fun u H1 s1 tu=>?_⟩
  walk_at "r"
  refine ⟨u,d,gs,rfl,tu,?_⟩
  walk_at "r"
  refine Ec (s1.tup hq) rfl ?_
  walk_at "r"
  unfold tNew
  walk_at "r"
  refine ⟨tv,fv,t,tf,p,fl,rfl,ht.same s1,s1.tup hp,hs,hl,hz,hf.same s1,fun v' H2 s2 hv'=>?_⟩
  have s02:=s1.trans s2
  walk_at "r"
  intro m dx h1 h2 h3
  refine ⟨m,dx,H2,v',_,n,rfl,hn,h1,h2,h3,rfl,hv',hz2,fun H3 L kvs hm M FA=>⟨rfl,?_⟩⟩
  subst hm
  walk_at "r"
  refine ⟨A9,fun b hb=>?_⟩
  have M0:=M.re (xs:=[]) (.inl hb) rfl
  have nb2:H2 b=none:=by
   cases h:H2 b with
   | none=>rfl
   | some o=>rw [M.base _ _ h] at hb; cases hb
  have sB:Same H2 (upd H2 b (.lst [])):=Same.upd nb2
  have FA0:=FA.same (Same.upd (o:=.lst []) hb).t
  have nrb:rd≠b:=fun z=>by rw [<- z,s02 _ _ hrd] at nb2; cases nb2
  have hpB:=s02.tup hp
  have alr2:=alr.mono (RwX.same s02.a)
  have alr2:Al (RwX K (fun _=>False) H2) rv rs:=alr2.mono (RwX.mono fun b hb _=>hb.elim)
  have hall:∀ xs,Al (RwX K (fun _=>False) (upd H2 b (.lst xs))) rv rs:=fun xs=>alr2.mono (RwX.same (Same.upd nb2).a)
  walk_at "r"
  refine .inl ⟨rd,rfl,⟨_,SqL.of (((M.base.trans (Same.upd hb))) _ _ (s02 _ _ hrd))⟩,?_⟩
  refine Zi9 (K:=K) (a:=rd) (xs:=rv) (fun i σ' H'=>∃ v9 bv bci Si t',σ'=[some tv,some (.ref q0),some (.ref p),some fv,some av,some (.ref rd),some (.int n),some (.ref L.m),some (.ref b),v9]/\MAt K (upd H2 b (.lst bv)) C kvs (L.with t') H' Si/\Al (ThAt K H') bv bci/\FormsAt K H' kvs (B9 (Ci t fl tf))/\Si.wait=[]/\bci.length=i/\Fx (B9 (Ci t fl tf)) fl (rs.drop i) bci Si oo) ⟨none,[],[],_,L.td,rfl,M0,.nil,FA0,rfl,rfl,G⟩ ?_ ?_ ?_
  ·rintro i σ' H' _ ⟨_,bv,_,_,_,_,M',_⟩
   exact SqL.of (M'.base _ _ ((Af nrb).trans (s02 _ _ hrd)))
  ·rintro i y σ' H4 hy ⟨v9,bv,bci,Si,t',rfl,Mi,albi,FAi,hwi,hli,Gi⟩
   obtain ⟨r,hr1,hr2⟩:=(hall bv).get hy
   have hri:=(Pj.mp hr1).1
   have dr:rs.drop i=r :: rs.drop (i + 1):=by
    rw [Rt hri]
    congr 1
    rw [Pb hri] at hr1
    exact Qf hr1
   rw [dr] at Gi
   have hbl:=albi.1
   have ex:∃ o,J3 (B9 (Ci t fl tf)) fl bci r Si o/\Si.rows.length < 9000/\Si.things.length < 8000/\F0 bci.length r/\(o=none->oo=none)/\∀ S1 x,o=some (S1,x)->S1.wait=[]/\Fx (B9 (Ci t fl tf)) fl (rs.drop (i + 1)) (bci++[x]) S1 oo:=by
    cases Gi with
    | @cons _ _ _ _ S1 x _ hs9 ht8 ok G1 G2 =>
     refine ⟨_,.ok G1,hs9,ht8,ok,⟨fun z=>?_,fun S2 x2 e=>?_⟩⟩
     ·cases z
     ·cases e; exact ⟨G1.wait hwi,G2⟩
    | late hs9 ht8 ok R1 =>
     refine ⟨_,R1,hs9,ht8,ok,⟨fun _=>rfl,fun S2 x2 e=>?_⟩⟩
     cases e
   obtain ⟨o,G1,hs9,ht8,ok,oN,oS⟩:=ex
   walk_at "r"
   refine Br (SqL.of (Mi.base _ _ Ae)) ?_
   walk_at "r"
   refine ⟨y,p,b,r,fl,bv,bci,_,kvs,L.with t',Si,_,o,rfl,Mi,hr2,(Same.upd nb2).tup hpB,Ae,albi,ok,FAi,hs9,by rw [hwi]; decide,ht8,G1,fun S1 x eo v H5 t5 e5 M5 tv5=>?_,fun eo H' e'=>qL (oN eo) H' (s02.trans ((Same.upd nb2).trans e'))⟩
   obtain ⟨hw1,G2⟩:=oS _ _ eo
   walk_at "r"
   refine B4 (M5.base _ _ Ae) (by omega) ?_
   have M6:=M5.re (b:=b) (xs:=bv++[v]) (.inr ⟨bv,Ae⟩) hw1
   rw [Gr] at M6
   have t56:SameT H5 (upd H5 b (.lst (bv++[v]))):=SameT.set (M5.base _ _ Ae)
   have t46:=(Mi.t e5).trans t56
   refine ⟨_,bv++[v],bci++[x],S1,t5,rfl,M6,(albi.mono (ThAt.same t46)).snoc (ThAt.same t56 _ _ tv5),FAi.same t46,hw1,by rw [Pc,hli]; rfl,G2⟩
  ·rintro σ' H4 ⟨v9,bv,bci,Si,t',rfl,Mi,albi,FAi,hwi,hli,Gi⟩
   rw [Ru (by rw [alr.1]; exact Pa _)] at Gi
   cases Gi
   obtain ⟨hav,nok,q⟩:=q _ _ rfl
   have s24:Same H2 H4:=(Same.upd nb2).trans Mi.base
   have s04:=s02.trans s24
   walk_at "r"
   refine ⟨av,b,bv,xa,_,rfl,ThAt.same s04.t _ _ hav,SqL.of (Mi.base _ _ Ae),albi,nok,fun v5 tv5=>?_⟩
   obtain ⟨rv5,er5,ar5,spr5⟩:=Mi.rows
   walk_at "r"
   refine ⟨_,rfl,L.m,C,L.dx,_,_,rfl,Mi.ins,O.cl,O.nr,Kg (L.with t') _,?_⟩
   walk_at "r"
   refine ⟨_,rfl,L.m,C,L.dx,_,_,rfl,Mi.ins,O.cl,O.ns,Jv (L.with t') _,?_⟩
   walk_at "r"
   refine ⟨Bd,fun r' hr'=>?_⟩
   have s5:Same H4 (upd H4 r' (.tup [v5,.ref L.rd,.int Si.steps])):=Same.upd hr'
   have mo:∀ c,(c=L.rd\/H c≠none)->H4 c≠none->((L.with t').A c\/upd H2 b (.lst bv) c≠none):=by
    intro c hc _
    rcases hc with z | z
    ·exact .inl (.inl z)
    ·refine .inr ?_
     cases h:H c with
     | none=>exact absurd h z
     | some o=>rw [(s02.trans (Same.upd nb2)) _ _ h]; simp
   refine q r' L.rd v5 rv5 _ (s04.trans s5) (SqT.of Ae) (ThAt.same s5.t _ _ tv5) (s5 _ _ er5) ((ar5.mono (RwX.mono mo)).mono (RwX.same s5.a)) ((spr5.mono mo).same s5.a) ?_
   cases h:H L.rd with
   | none=>rfl
   | some o=>have:=(s02.trans (Same.upd (o:=.lst bv) nb2)) _ _ h; rw [show upd H2 b (.lst bv) L.rd=none from Mi.nr] at this; cases this
open K19 in
noncomputable def Oo (K:O7):Sp:=fun vs H Q _=>∃ (tv fv av:V) (t tf:Tr) (p q0 rd:Addr) (fl:List Nat) (d:Dt) (gs:List Tr) (n:Int) (rv:List V) (rs:List Rx) (xa:Str×V) (bc:List (Str×V)) (S':MS),vs=[tv,.ref q0,.ref p,fv]/\TrAt K H tv t/\t.size<=1000/\SqT K H p (A0 fl)/\Sub t fl/\fl.length<=1000/\(path t fl)[fl.length]?=some (.mk "gap" d gs)/\TrAt K H fv tf/\(Ci t fl tf).size<=2000/\SqT K H q0 [av,.ref rd,.int n]/\n<=500/\H rd=some (.lst rv)/\Al (RwX K (fun b=>b=rd) H) rv rs/\rs.length<=9000/\ThAt K H av xa/\GoG (B9 (Ci t fl tf)) fl rs [] ⟨[],[],[],n⟩ bc S'/\NowOk bc.length xa /\
 ∀ (r' rd':Addr) (av':V) (rv':List V) (H':Hp),Same H H'->SqT K H' r' [av',.ref rd',.int S'.steps]->ThAt K H' av' (Cc bc xa)->H' rd'=some (.lst rv')->Al (RwX K (fun b=>b=rd'\/H b≠none) H') rv' S'.rows->SepR K (fun b=>b=rd'\/H b≠none) H' rv' S'.rows->H rd'=none->Q (.ref r') H'
open K19 in
noncomputable def O4 (K:O7) (TL:Addr):Sp:=fun vs H _ E=>∃ (tv fv av:V) (t tf:Tr) (p q0 rd:Addr) (fl:List Nat) (d:Dt) (gs:List Tr) (n:Int) (rv:List V) (r0:Rx) (rs:List Rx) (k0:Nat),vs=[tv,.ref q0,.ref p,fv]/\TrAt K H tv t/\t.size<=1000/\SqT K H p (A0 fl)/\Sub t fl/\fl.length<=1000/\(path t fl)[fl.length]?=some (.mk "gap" d gs)/\TrAt K H fv tf/\(Ci t fl tf).size<=2000/\SqT K H q0 [av,.ref rd,.int n]/\n<=500/\H rd=some (.lst rv)/\Al (RwX K (fun b=>b=rd) H) rv (r0 :: rs)/\(r0 :: rs).length<=9000/\F0 0 r0/\r0.pl=As fl/\RunL (B9 (Ci t fl tf)) k0 ⟨[],[⟨fl,C4 [] r0.ar,false⟩],[],n⟩/\∀ H',Same H H'->E (.ref TL) none H'
theorem GoG.x {sub:List Nat->Option (Str×Dt)} {fl:List Nat} {rs:List Rx} {bc bc':List (Str×V)} {S S':MS} (h:GoG sub fl rs bc S bc' S'):Fx sub fl rs bc S (some (bc',S')):=by
 induction h with
 | nil=>exact .nil
 | cons a b c d _ ih=>exact .cons a b c d ih
theorem Zma {TL:Addr} {k:Nat} {f:Addr} {fd:FuncData} {ps:List Str} (F:FnOk P w K mg base (Bl P w) k f fd ps (Zbf K TL)):FnOk P w K mg base An k f fd ps (Oo K):=Zff F fun vs H Q E h=>by
 obtain ⟨tv,fv,av,t,tf,p,q0,rd,fl,d,gs,n,rv,rs,xa,bc,S',rfl,ht,hz,hp,hs,hl,hg,hf,hz2,hq,hn,hrd,alr,hrl,hav,G,nok,q⟩:=h
 exact ⟨tv,fv,av,t,tf,p,q0,rd,fl,d,gs,n,rv,rs,xa,_,rfl,ht,hz,hp,hs,hl,hg,hf,hz2,hq,hn,hrd,alr,hrl,G.x,fun bc' S2 e=>by cases e; exact ⟨hav,nok,q⟩,fun e=>nomatch e⟩
theorem Zsi {TL:Addr} {k:Nat} {f:Addr} {fd:FuncData} {ps:List Str} (F:FnOk P w K mg base (Bl P w) k f fd ps (Zbf K TL)):FnOk P w K mg base (Bl P w) k f fd ps (O4 K TL):=F.imp fun vs H Q E h=>by
 obtain ⟨tv,fv,av,t,tf,p,q0,rd,fl,d,gs,n,rv,r0,rs,k0,rfl,ht,hz,hp,hs,hl,hg,hf,hz2,hq,hn,hrd,alr,hrl,rok0,hpl0,RL,q⟩:=h
 exact ⟨tv,fv,av,t,tf,p,q0,rd,fl,d,gs,n,rv,r0 :: rs,("",.non),none,rfl,ht,hz,hp,hs,hl,hg,hf,hz2,hq,hn,hrd,alr,hrl,.late (by show 0 < 9000; decide) (by show 0 < 8000; decide) rok0 (.lateF hpl0 RL),fun bc' S2 e=>(nomatch e),fun _=>q⟩
end
end K57
namespace K57
open PySem L2
noncomputable def LeafOk (wd:Str) (nv:V):Prop:=(wd = "num" /\ ∃ i,nv=.int i)\/(wd = "truth" /\ ∃ b,nv=.bl b)\/(wd = "name" /\ ∃ z,nv=.str z)\/(wd = "odd" /\ ∃ z,nv=.str z)\/(wd = "gap" /\ nv=.non)
theorem LeafOk.flat {wd:Str} {nv:V} (h:LeafOk wd nv):Cu nv=true:=by
 rcases h with ⟨_,_,rfl⟩ | ⟨_,_,rfl⟩ | ⟨_,_,rfl⟩ | ⟨_,_,rfl⟩ | ⟨_,rfl⟩ <;> rfl
noncomputable def Du (wd:Str) (nv:V) (ar:List (Str×Str×V)):Option (Str×V):=match nv with
 | .str z=>if wd = "name" then Cd ar z else none
 | _=>none
noncomputable def Bh (wd:Str) (nv:V) (k:Nat) (pl:List Nat) (ar:List (Str×Str×V)):(Str×V)×List Rx:=if wd∈(["num", "truth"]:List Str) then ((wd,nv),[]) else match Du wd nv ar with
 | some th=>(th,[])
 | none=>(("row",.int (k:Nat)),[⟨wd,As pl,[],if wd = "gap" then ar else []⟩])
theorem Zfu (S:MS) (wd:Str) (nv:V) (pl:List Nat) (ar:List (Str×Str×V)):Cy S wd nv pl ar=if wd∈(["num", "truth"]:List Str) then ((wd,nv),S) else match Du wd nv ar with
  | some th=>(th,S)
  | none=>(("row",.int (S.rows.length:Nat)),{ S with rows:=S.rows++[⟨wd,As pl,[],if wd∈WA then ar else []⟩] }):=by
 unfold Cy
 cases nv <;> rfl
theorem LeafOk.word {wd:Str} {nv:V} (h:LeafOk wd nv):Bf wd=none/\Ho wd (.flat nv)/\(wd∈WA↔wd = "gap"):=by
 rcases h with ⟨rfl,_,rfl⟩ | ⟨rfl,_,rfl⟩ | ⟨rfl,_,rfl⟩ | ⟨rfl,_,rfl⟩ | ⟨rfl,rfl⟩
 ·exact ⟨by decide +kernel,⟨fun _=>⟨_,rfl⟩,fun h=>absurd h (by decide +kernel)⟩,by decide +kernel⟩
 ·exact ⟨by decide +kernel,⟨fun _=>⟨_,rfl⟩,fun h=>absurd h (by decide +kernel)⟩,by decide +kernel⟩
 ·exact ⟨by decide +kernel,⟨fun _=>⟨_,rfl⟩,fun _=>⟨_,rfl⟩⟩,by decide +kernel⟩
 ·exact ⟨by decide +kernel,⟨fun _=>⟨_,rfl⟩,fun _=>⟨_,rfl⟩⟩,by decide +kernel⟩
 ·exact ⟨by decide +kernel,⟨fun _=>⟨_,rfl⟩,fun h=>absurd h (by decide +kernel)⟩,by decide +kernel⟩
theorem Zfj (S:MS) {wd:Str} {nv:V} (h:LeafOk wd nv) (pl:List Nat) (ar:List (Str×Str×V)):Cy S wd nv pl ar=((Bh wd nv S.rows.length pl ar).1,{ S with rows:=S.rows++(Bh wd nv S.rows.length pl ar).2 }):=by
 have hw:=h.word.2.2
 rw [Zfu]
 unfold Bh
 by_cases h:wd∈(["num", "truth"]:List Str)
 ·rw [if_pos h,if_pos h]
  simp
 ·rw [if_neg h,if_neg h]
  cases Du wd nv ar with
  | some th=>simp
  | none =>
   by_cases hg:wd = "gap"
   ·simp only [if_pos hg,if_pos (hw.mpr hg)]
   ·simp only [if_neg hg,if_neg fun x=>hg (hw.mp x)]
end K57
namespace K57
open PySem L2
mutual
theorem N9:∀ (pl:List Nat) (t:Tr) (x:List Nat×Tr),x∈walk pl t->∃ q,x.1=pl++q
 | pl,.mk w n ps,x,h=>by
  rw [walk] at h
  rcases Pm.mp h with rfl | h
  ·exact ⟨[],by simp⟩
  ·exact Zfc pl 0 ps x h
theorem Zfc:∀ (pl:List Nat) (i:Nat) (ts:List Tr) (x:List Nat×Tr),x∈Cn pl i ts->∃ q,x.1=pl++q
 | _,_,[],x,h=>by rw [Cn] at h; exact nomatch h
 | pl,i,t :: r,x,h=>by
  rw [Cn] at h
  rcases Qu.mp h with h | h
  ·obtain ⟨q,e⟩:=N9 (pl++[i]) t x h
   exact ⟨[i]++q,by rw [e,Qe]⟩
  ·exact Zfc pl (i + 1) r x h
end
theorem Ze7 (x:List Nat×Tr) (l:List (List Nat×Tr)) (pl:List Nat):Ca (x :: l) pl=(Ca l pl).or (if x.1=pl then some x.2 else none):=by
 unfold Ca
 rw [Vu,List.find?_append]
 cases h:l.reverse.find? fun x=>decide (x.1=pl) with
 | some y=>simp
 | none =>
  by_cases e:x.1=pl
  ·simp [e]
  ·simp [e]
theorem Zcy {ws:List (List Nat×Tr)} {pl:List Nat} (h:∀ x∈ws,x.1≠pl):Ca ws pl=none:=by
 unfold Ca
 rw [List.find?_eq_none.mpr]
 ·rfl
 ·intro x hx
  rw [decide_eq_true_iff]
  exact h x (Vy.mp hx)
noncomputable def Bw (wd:Str):Int:=if wd = "gap" then 0 else 1
theorem Km (wd:Str):0<=Bw wd/\Bw wd<=1:=by unfold Bw; split <;> decide
theorem Ey (wd:Str) (nv:V) (k:Nat) (pl:List Nat) (ar:List (Str×Str×V)):(Bh wd nv k pl ar).2.length<=1:=by
 unfold Bh
 split
 ·exact Pu _
 ·split
  ·exact Pu _
  ·exact Pa _
theorem Zmy {S:MS} {wd:Str} {nv:V} (h:LeafOk wd nv) (pl:List Nat) (ar:List (Str×Str×V)):Dh S wd (.flat nv) pl ar=⟨S.rows++(Bh wd nv S.rows.length pl ar).2,S.wait,S.things++[(Bh wd nv S.rows.length pl ar).1],S.steps + Bw wd⟩:=by
 unfold Dh
 rw [h.word.1]
 by_cases g:wd = "gap"
 ·simp only [if_pos g,Zfj _ h,Eo,Bw,Int.add_zero]
 ·simp only [if_neg g,Zfj _ h,Eo,Bw]
noncomputable def A4 (wd:Str) (pl:List Nat) (k:Nat) (x y:Str×V):(Str×V)×List Rx:=if wd∈Dp/\x.1 = "num" /\ y.1 = "num" then (Er wd (Ht x.2) (Ht y.2),[]) else (("row",.int (k:Nat)),[⟨wd,As pl,[x,y],[]⟩])
noncomputable def Bo:Tr->List Nat->Option Tr
 | t,[]=>some t
 | .mk _ _ ts,i :: r=>match ts[i]? with
  | some t=>Bo t r
  | none=>none
termination_by _ pl=>pl.length
theorem C3 (t:Tr):Bo t []=some t:=by rw [Bo]
theorem Cp (w:Str) (n:Dt) (ts:List Tr) (i:Nat) (r:List Nat):Bo (.mk w n ts) (i :: r)=(ts[i]?).bind fun t=>Bo t r:=by
 rw [Bo]
 cases ts[i]? <;> rfl
theorem Zl6 (a b:List (List Nat×Tr)) (pl:List Nat):Ca (a++b) pl=(Ca b pl).or (Ca a pl):=by
 unfold Ca
 rw [Sc,List.find?_append]
 cases b.reverse.find? fun x=>decide (x.1=pl) <;> simp
theorem Zhh:∀ (pl:List Nat) (i:Nat) (ts:List Tr) (x:List Nat×Tr),x∈Cn pl i ts->∃ k q,i<=k/\x.1=pl++k :: q
 | _,_,[],x,h=>by rw [Cn] at h; exact nomatch h
 | pl,i,t :: r,x,h=>by
  rw [Cn] at h
  rcases Qu.mp h with h | h
  ·obtain ⟨q,e⟩:=N9 (pl++[i]) t x h
   exact ⟨i,q,Pa _,by rw [e,Qe]; rfl⟩
  ·obtain ⟨k,q,hk,e⟩:=Zhh pl (i + 1) r x h
   exact ⟨k,q,by omega,e⟩
mutual
theorem Zgh:∀ (p:List Nat) (t:Tr) (q:List Nat),Ca (walk p t) (p++q)=Bo t q
 | p,.mk w n ps,[]=>by
  rw [walk,Ze7,Zcy,C3,if_pos (by simp)]
  ·rfl
  ·intro x hx
   obtain ⟨k,q,_,e⟩:=Zhh p 0 ps x hx
   rw [e]
   intro z
   have:=congrArg U9 z
   simp at this
 | p,.mk w n ps,k :: r=>by
  rw [walk,Ze7,Zd2 p 0 ps k r,if_pos (Pu _),Cp,if_neg (fun z=>by have:=congrArg U9 z; simp at this),Option.or_none,Tp]
theorem Zd2:∀ (p:List Nat) (i:Nat) (ts:List Tr) (k:Nat) (r:List Nat),Ca (Cn p i ts) (p++k :: r)=if i<=k then (ts[k - i]?).bind (fun t=>Bo t r) else none
 | p,i,[],k,r=>by
  rw [Cn]
  split <;> simp [Ca]
 | p,i,t :: ts,k,r=>by
  rw [Cn,Zl6,Zd2 p (i + 1) ts k r]
  by_cases hk:k=i
  ·subst hk
   rw [if_neg (by omega),if_pos (Pa _),Rs,Option.none_or]
   have:=Zgh (p++[k]) t r
   rw [Qe] at this
   rw [show p++k :: r=p++([k]++r) from rfl,this]
   rfl
  ·have e:Ca (walk (p++[i]) t) (p++k :: r)=none:=Zcy fun x hx z=>by
    obtain ⟨q,e⟩:=N9 _ _ _ hx
    rw [e,Qe] at z
    have:=List.append_cancel_left z
    simp at this
    exact hk this.1.symm
   rw [e,Option.or_none]
   by_cases hlt:i<=k
   ·rw [if_pos (by omega),if_pos hlt,show k - i=(k - (i + 1)) + 1 by omega]
    rfl
   ·rw [if_neg (by omega),if_neg hlt]
end
theorem Ee (t:Tr) (pl:List Nat):B9 t pl=(Bo t pl).map fun u=>(u.wd,Go u):=by
 unfold B9
 rw [<- Zgh [] t pl]
 rfl
theorem Zra (t:Tr) (p q:List Nat):Bo t (p++q)=(Bo t p).bind fun u=>Bo u q:=by
 induction p generalizing t with
 | nil=>rw [List.nil_append,C3]; rfl
 | cons i r ih =>
  cases t with
  | mk w n ts =>
   rw [Sg,Cp,Cp]
   cases ts[i]? with
   | none=>rfl
   | some u=>exact ih u
inductive StepU (sub:List Nat->Option (Str×Dt)):MS->MS->Prop where
 | come {S:MS} {w:List Wt} {x:Wt} {wd:Str} {d:Dt} (hw:S.wait=w++[x]) (hc:x.came=false) (hs:sub x.pl=some (wd,d)) (hn:Ho wd d):StepU sub S (Dh { S with wait:=w } wd d x.pl x.ar)
 | further {S S2:MS} {w:List Wt} {x:Wt} {wd:Str} {d:Dt} (hw:S.wait=w++[x]) (hc:x.came=true) (hs:sub x.pl=some (wd,d)) (hf:F6 sub wd d x.pl x.ar { S with wait:=w } S2) (hr:x.ar.length<=9000):StepU sub S S2
inductive ChU (sub:List Nat->Option (Str×Dt)):MS->MS->Prop where
 | nil {S:MS}:ChU sub S S
 | cons {S S1 S2:MS} (hs:E6 S) (h1:StepU sub S S1) (h2:ChU sub S1 S2):ChU sub S S2
theorem ChU.trans {sub:List Nat->Option (Str×Dt)} {S S1 S2:MS} (h:ChU sub S S1) (h':ChU sub S1 S2):ChU sub S S2:=by
 induction h with
 | nil=>exact h'
 | cons a b _ ih=>exact .cons a b (ih h')
theorem Zd1 (S:MS) (wd:Str) (nv:V) (pl:List Nat) (ar:List (Str×Str×V)):(Cy S wd nv pl ar).2.steps=S.steps:=by
 unfold Cy
 split
 ·rfl
 split <;> rfl
theorem Za5 (S:MS) (wd:Str) (d:Dt) (pl:List Nat) (ar:List (Str×Str×V)):(Dh S wd d pl ar).steps=S.steps + Bw wd:=by
 unfold Dh Bw
 by_cases g:wd = "gap"
 ·simp only [if_pos g]
  cases Bf wd with
  | some ns=>simp
  | none=>simp [Zd1]
 ·simp only [if_neg g]
  cases Bf wd with
  | some ns=>rfl
  | none=>exact Zd1 _ _ _ _ _
theorem Zf2 {sub:List Nat->Option (Str×Dt)} {wd:Str} {d:Dt} {pl:List Nat} {ar:List (Str×Str×V)} {S S2:MS} (h:F6 sub wd d pl ar S S2):S2.steps=S.steps:=by
 cases h with
 | two=>unfold Es; split <;> rfl
 | calls=>rfl
 | ifs=>rfl
 | lets=>rfl
theorem StepU.le {sub:List Nat->Option (Str×Dt)} {S S1:MS} (h:StepU sub S S1):S.steps<=S1.steps:=by
 cases h with
 | come hw hc hs hn=>rw [Za5]; have:=Km (by assumption:Str); have:=(Km ‹Str›).1; show S.steps<=S.steps + _; omega
 | further hw hc hs hf hr=>rw [Zf2 hf]; exact Int.le_refl _
theorem ChU.le {sub:List Nat->Option (Str×Dt)} {S S1:MS} (h:ChU sub S S1):S.steps<=S1.steps:=by
 induction h with
 | nil=>exact Int.le_refl _
 | cons _ b _ ih=>exact Int.le_trans b.le ih
theorem ChU.fine {sub:List Nat->Option (Str×Dt)} {S S1:MS} (h:ChU sub S S1) (hw:S1.wait=[]) (h5:S1.steps<=500):∃ n,RunM sub n S S1:=by
 induction h with
 | nil=>exact ⟨0,.nil hw⟩
 | @cons S S1 S2 a b c ih =>
  obtain ⟨n,R⟩:=ih hw h5
  refine ⟨n + 1,.cons a ?_ R⟩
  cases b with
  | further hw hc hs hf hr=>exact .further hw hc hs hf hr
  | @come w x wd d hw hc hs hn =>
   refine .come hw hc hs hn fun hg=>?_
   have h1:=c.le
   rw [Za5] at h1
   have:Bw wd=1:=if_neg hg
   have h1:S.steps + Bw wd<=S2.steps:=h1
   omega
theorem ChU.late {sub:List Nat->Option (Str×Dt)} {S S1:MS} (h:ChU sub S S1) (h0:S.steps<=500) (h5:500 < S1.steps):∃ n,RunL sub n S:=by
 induction h with
 | nil=>omega
 | @cons S S1 S2 a b c ih =>
  cases b with
  | further hw hc hs hf hr =>
   obtain ⟨n,R⟩:=ih (by rw [Zf2 hf]; exact h0) h5
   exact ⟨n + 1,.cons a (.further hw hc hs hf hr) R⟩
  | @come w x wd d hw hc hs hn =>
   by_cases hg:wd ≠ "gap" /\ 500 < S.steps + 1
   ·exact ⟨0,.last a hw hc hs hg.1 hg.2⟩
   ·have h6:wd ≠ "gap" -> S.steps + 1<=500:=fun z=>by
     rcases Int.lt_or_le 500 (S.steps + 1) with h | h
     ·exact absurd ⟨z,h⟩ hg
     ·exact h
    obtain ⟨n,R⟩:=ih (by
     rw [Za5]
     show S.steps + Bw wd<=500
     unfold Bw
     by_cases z:wd = "gap"
     ·rw [if_pos z]; omega
     ·rw [if_neg z]; exact h6 z) h5
    exact ⟨n + 1,.cons a (.come hw hc hs hn h6) R⟩
end K57
namespace K57
open PySem L2
noncomputable abbrev nm (i:Int):Str×V:=("num",.int i)
noncomputable abbrev Ax (k:Nat):Str×V:=("row",.int (k:Nat))
noncomputable abbrev fm (w:Str) (d:Dt):Option (Str×Dt):=some (w,d)
section
variable {sub:List Nat->Option (Str×Dt)} {rs:List Rx} {w:List Wt} {th:List (Str×V)} {st:Int} {pl:List Nat} {ar:List (Str×Str×V)} {wd:Str} {nv:V} {d:Dt}
theorem one (hz:E6 S) (h:StepU sub S S'):ChU sub S S':=.cons hz h .nil
theorem sm (h:rs.length + (w.length + th.length)<=8900) {x:Wt}:E6 ⟨rs,w++[x],th,st⟩:=⟨by show rs.length < 9000; omega,by show (w++[x]).length < 9000; rw [Pc,Ph]; omega,by show th.length < 9000; omega⟩
theorem Hu (hs:sub pl=some (wd,.flat nv)) (ok:LeafOk wd nv) (hz:rs.length + (w.length + th.length)<=8900):ChU sub ⟨rs,w++[⟨pl,ar,false⟩],th,st⟩ ⟨rs++(Bh wd nv rs.length pl ar).2,w,th++[(Bh wd nv rs.length pl ar).1],st + Bw wd⟩:=by
 refine one (sm hz) ?_
 have:=StepU.come (sub:=sub) (S:=⟨rs,w++[⟨pl,ar,false⟩],th,st⟩) (w:=w) (x:=⟨pl,ar,false⟩) rfl rfl hs ok.word.2.1
 rw [Zmy ok] at this
 exact this
theorem Zfs {i:Int} (hs:sub pl=fm "num" (.flat (.int i))) (hz:rs.length + (w.length + th.length)<=8900):ChU sub ⟨rs,w++[⟨pl,ar,false⟩],th,st⟩ ⟨rs,w,th++[nm i],st + 1⟩:=by
 have h:=Hu (rs:=rs) (w:=w) (th:=th) (st:=st) (ar:=ar) hs (.inl ⟨rfl,i,rfl⟩) hz
 have e:Bh "num" (.int i) rs.length pl ar=(nm i,[]):=by unfold Bh; rw [if_pos (by decide +kernel)]
 rw [e,P5] at h
 exact h
theorem Zdh {z:Str} {y:Str×V} (hs:sub pl=fm "name" (.flat (.str z))) (hl:Cd ar z=some y) (hz:rs.length + (w.length + th.length)<=8900):ChU sub ⟨rs,w++[⟨pl,ar,false⟩],th,st⟩ ⟨rs,w,th++[y],st + 1⟩:=by
 have h:=Hu (rs:=rs) (w:=w) (th:=th) (st:=st) (ar:=ar) hs (.inr (.inr (.inl ⟨rfl,z,rfl⟩))) hz
 have e:Bh "name" (.str z) rs.length pl ar=(y,[]):=by
  have e2:Du "name" (.str z) ar=some y:=by
   show (if ("name" : Str) = "name" then Cd ar z else none)=some y
   rw [if_pos rfl]
   exact hl
  unfold Bh
  rw [if_neg (by decide +kernel),e2]
 rw [e,P5] at h
 exact h
theorem Ziw (hs:sub pl=fm "gap" (.flat .non)) (hz:rs.length + (w.length + th.length)<=8900):ChU sub ⟨rs,w++[⟨pl,ar,false⟩],th,st⟩ ⟨rs++[⟨"gap",As pl,[],ar⟩],w,th++[Ax rs.length],st⟩:=by
 have h:=Hu (rs:=rs) (w:=w) (th:=th) (st:=st) (ar:=ar) hs (.inr (.inr (.inr (.inr ⟨rfl,rfl⟩)))) hz
 have e:Bh "gap" .non rs.length pl ar=(Ax rs.length,[⟨"gap",As pl,[],ar⟩]):=by
  unfold Bh
  rw [if_neg (by decide +kernel)]
  rfl
 rw [e,show Bw "gap" = 0 from if_pos rfl,Int.add_zero] at h
 exact h
theorem Zb2 (h1:¬ wd∈(["num", "truth"]:List Str)) (h2:¬ wd = "name"):Ho wd d:=⟨fun h=>absurd h h1,fun h=>absurd h h2⟩
theorem Zbs (hs:sub pl=some (wd,d)) (hw:Bf wd=some [1,0]) (hn:¬ wd∈(["num", "truth"]:List Str)/\¬ wd = "name" /\ ¬ wd = "gap") (hz:rs.length + (w.length + th.length)<=8900):ChU sub ⟨rs,w++[⟨pl,ar,false⟩],th,st⟩ ⟨rs,w++[⟨pl,ar,true⟩]++[⟨pl++[1],ar,false⟩]++[⟨pl++[0],ar,false⟩],th,st + 1⟩:=by
 refine one (sm hz) ?_
 have:=StepU.come (sub:=sub) (S:=⟨rs,w++[⟨pl,ar,false⟩],th,st⟩) (w:=w) (x:=⟨pl,ar,false⟩) rfl rfl hs (Zb2 hn.1 hn.2.1)
 have e:Dh { (⟨rs,w++[⟨pl,ar,false⟩],th,st⟩:MS) with wait:=w } wd d pl ar=⟨rs,w++[⟨pl,ar,true⟩]++[⟨pl++[1],ar,false⟩]++[⟨pl++[0],ar,false⟩],th,st + 1⟩:=by
  unfold Dh
  rw [hw]
  simp only [if_neg hn.2.2]
  simp
 rw [e] at this
 exact this
theorem Zp6 (hs:sub pl=some (wd,d)) (hw:Bf wd=some [0]) (hn:¬ wd∈(["num", "truth"]:List Str)/\¬ wd = "name" /\ ¬ wd = "gap") (hz:rs.length + (w.length + th.length)<=8900):ChU sub ⟨rs,w++[⟨pl,ar,false⟩],th,st⟩ ⟨rs,w++[⟨pl,ar,true⟩]++[⟨pl++[0],ar,false⟩],th,st + 1⟩:=by
 refine one (sm hz) ?_
 have:=StepU.come (sub:=sub) (S:=⟨rs,w++[⟨pl,ar,false⟩],th,st⟩) (w:=w) (x:=⟨pl,ar,false⟩) rfl rfl hs (Zb2 hn.1 hn.2.1)
 have e:Dh { (⟨rs,w++[⟨pl,ar,false⟩],th,st⟩:MS) with wait:=w } wd d pl ar=⟨rs,w++[⟨pl,ar,true⟩]++[⟨pl++[0],ar,false⟩],th,st + 1⟩:=by
  unfold Dh
  rw [hw]
  simp only [if_neg hn.2.2]
  simp
 rw [e] at this
 exact this
theorem sm2 (h:rs.length + (w.length + th.length)<=8900) {x:Wt} {a b:Str×V}:E6 ⟨rs,w++[x],th++[a]++[b],st⟩:=⟨by show rs.length < 9000; omega,by show (w++[x]).length < 9000; rw [Pc,Ph]; omega,by show (th++[a]++[b]).length < 9000; simp only [Pc,Ph]; omega⟩
theorem Zc7 {x y:Str×V} (hs:sub pl=some (wd,d)) (hw:wd∈Dp) (ok:RowOk rs x) (ox:Cr x) (oy:Cr y) (ha:ar.length<=9000) (hz:rs.length + (w.length + th.length)<=8900):ChU sub ⟨rs,w++[⟨pl,ar,true⟩],th++[x]++[y],st⟩ ⟨rs++(A4 wd pl rs.length x y).2,w,th++[(A4 wd pl rs.length x y).1],st⟩:=by
 refine one (sm2 hz) ?_
 have:=StepU.further (sub:=sub) (S:=⟨rs,w++[⟨pl,ar,true⟩],th++[x]++[y],st⟩) (w:=w) (x:=⟨pl,ar,true⟩) rfl rfl hs (.two (th:=th) (x:=x) (y:=y) (.inl hw) (by simp) ok ox oy) ha
 have e:Es { (⟨rs,w++[⟨pl,ar,true⟩],th++[x]++[y],st⟩:MS) with wait:=w } wd pl th x y=⟨rs++(A4 wd pl rs.length x y).2,w,th++[(A4 wd pl rs.length x y).1],st⟩:=by
  unfold Es A4
  by_cases h:wd∈Dp/\x.1 = "num" /\ y.1 = "num"
  ·rw [if_pos h,if_pos h]
   simp
  ·rw [if_neg h,if_neg h]
 rw [e] at this
 exact this
theorem Zoo (i:Int):RowOk rs (nm i):=fun h=>absurd (show ("num" : Str) = "row" from h) (by decide +kernel)
theorem Zgz (i:Int):Cr (nm i):=fun _=>⟨i,rfl⟩
theorem Zfo {f x:Str} {y:Str×V} {pl':List Nat} (hs:sub pl=fm "call" (d)) (hr:rs[0]?=some ⟨"rec",As pl',[],[]⟩) (hs':sub pl'=fm "rec" (.tup [.flat (.str f),.flat (.str x)])) (ha:ar.length<=9000) (hz:rs.length + (w.length + th.length)<=8900):ChU sub ⟨rs,w++[⟨pl,ar,true⟩],th++[Ax 0]++[y],st⟩ ⟨rs,w++[⟨pl'++[0],[(f,Ax 0),(x,y)],false⟩],th,st⟩:=by
 refine one (sm2 hz) ?_
 have:=StepU.further (sub:=sub) (S:=⟨rs,w++[⟨pl,ar,true⟩],th++[Ax 0]++[y],st⟩) (w:=w) (x:=⟨pl,ar,true⟩) rfl rfl hs (.calls (th:=th) (k:=0) (y:=y) rfl (by simp) hr (by show ("rec" : Str)∈_; decide +kernel) rfl hs' ⟨fun h=>absurd h (by decide +kernel),fun _=>⟨f,x,rfl⟩⟩ (by show 0<=9000; decide)) ha
 have e:Fh { ({ (⟨rs,w++[⟨pl,ar,true⟩],th++[Ax 0]++[y],st⟩:MS) with wait:=w }:MS) with things:=th } "rec" (.tup [.flat (.str f),.flat (.str x)]) pl' 0 (⟨"rec",As pl',[],[]⟩:Rx).ar (if (⟨"rec",As pl',[],[]⟩:Rx).wd = "rec" then [Ax 0,y] else [y])=⟨rs,w++[⟨pl'++[0],[(f,Ax 0),(x,y)],false⟩],th,st⟩:=by
  rw [if_pos rfl]
  unfold Fh Gu
  have eb:D8 "rec" (.tup [.flat (.str f),.flat (.str x)]) ((0:Nat):Int)=[f,x]:=by
   unfold D8
   rw [if_neg (by decide +kernel),if_pos rfl]
  rw [eb]
  simp
 rw [e] at this
 exact this
theorem Zpn {d:Dt} (hs:sub pl=fm "rec" (d)) (hz:rs.length + (w.length + th.length)<=8900):ChU sub ⟨rs,w++[⟨pl,ar,false⟩],th,st⟩ ⟨rs++[⟨"rec",As pl,[],ar⟩],w,th++[Ax rs.length],st + 1⟩:=by
 refine one (sm hz) ?_
 have:=StepU.come (sub:=sub) (S:=⟨rs,w++[⟨pl,ar,false⟩],th,st⟩) (w:=w) (x:=⟨pl,ar,false⟩) rfl rfl hs (Zb2 (by decide +kernel) (by decide +kernel))
 have e:Dh { (⟨rs,w++[⟨pl,ar,false⟩],th,st⟩:MS) with wait:=w } "rec" d pl ar=⟨rs++[⟨"rec",As pl,[],ar⟩],w,th++[Ax rs.length],st + 1⟩:=by
  have e:Bf "rec" = none/\¬ ("rec" : Str) = "gap" /\ ¬ ("rec" : Str)∈(["num", "truth"]:List Str)/\¬ ("rec" : Str) = "name" /\ ("rec" : Str)∈WA:=⟨by decide +kernel,by decide +kernel,by decide +kernel,by decide +kernel,by decide +kernel⟩
  unfold Dh
  rw [e.1]
  simp only [if_neg e.2.1]
  rw [Zfu]
  have en:Du "rec" (Eo d) ar=none:=by
   unfold Du
   split
   ·rw [if_neg e.2.2.2.1]
   ·rfl
  rw [if_neg e.2.2.1,en]
  simp only [if_pos e.2.2.2.2]
 rw [e] at this
 exact this
theorem Zks {z:Str} {y:Str×V} (hs:sub pl=fm "let" (.flat (.str z))) (ha:ar.length<=9000) (hz:rs.length + (w.length + th.length)<=8900):ChU sub ⟨rs,w++[⟨pl,ar,true⟩],th++[y],st⟩ ⟨rs,w++[⟨pl++[1],ar++[(z,y)],false⟩],th,st⟩:=by
 refine one ⟨by show rs.length < 9000; omega,by show (w++[_]).length < 9000; rw [Pc,Ph]; omega,by show (th++[_]).length < 9000; simp only [Pc,Ph]; omega⟩ ?_
 have:=StepU.further (sub:=sub) (S:=⟨rs,w++[⟨pl,ar,true⟩],th++[y],st⟩) (w:=w) (x:=⟨pl,ar,true⟩) rfl rfl hs (.lets (th:=th) (x:=y) rfl rfl ⟨fun _=>⟨z,rfl⟩,fun h=>absurd h (by decide +kernel)⟩) ha
 have e:Fh { ({ (⟨rs,w++[⟨pl,ar,true⟩],th++[y],st⟩:MS) with wait:=w }:MS) with things:=th } "let" (.flat (.str z)) pl 1 ar [y]=⟨rs,w++[⟨pl++[1],ar++[(z,y)],false⟩],th,st⟩:=by
  have eb:D8 "let" (.flat (.str z)) ((1:Nat):Int)=[z]:=by
   unfold D8
   rw [if_neg (by decide +kernel),if_neg (by decide +kernel),if_pos ⟨rfl,rfl⟩]
  unfold Fh Gu
  rw [eb]
  rfl
 rw [e] at this
 exact this
end
end K57
namespace K57
open PySem L2
noncomputable def Bq (w:Str) (n:V):Tr:=.mk w (.flat n) []
noncomputable def B1 (z:Str):Tr:=Bq "name" (.str z)
noncomputable def N2 (i:Int):Tr:=Bq "num" (.int i)
noncomputable def twoT (w:Str) (a b:Tr):Tr:=.mk w (.flat .non) [a,b]
noncomputable def Ms (f x:Str) (b:Tr):Tr:=.mk "rec" (.tup [.flat (.str f),.flat (.str x)]) [b]
section
variable {sub:List Nat->Option (Str×Dt)} {rs:List Rx} {w:List Wt} {th:List (Str×V)} {st:Int} {f x:Str} {limit down:Int} {bs:Str×V}
theorem two_ok {wd:Str} (h:wd∈Dp\/wd = "call"):Bf wd=some [1,0]/\¬ wd∈(["num", "truth"]:List Str)/\¬ wd = "name" /\ ¬ wd = "gap" := by
 rcases h with h | rfl
 ·unfold Dp at h
  simp only [Pm,P9,or_false] at h
  rcases h with rfl | rfl | rfl <;> exact ⟨by decide +kernel,by decide +kernel,by decide +kernel,by decide +kernel⟩
 ·exact ⟨by decide +kernel,by decide +kernel,by decide +kernel,by decide +kernel⟩
noncomputable def G5 (f x:Str) (y:Str×V):List (Str×Str×V):=[(f,Ax 0),(x,y)]
theorem Zsd (f x:Str) (y:Str×V):Cd (G5 f x y) x=some y:=by
 unfold Cd G5
 simp
theorem Zhz {f x:Str} (h:f≠x) (y:Str×V):Cd (G5 f x y) f=some (Ax 0):=by
 unfold Cd G5
 simp [Pg h]
theorem Za4 (wd:Str) (pl:List Nat) (k:Nat) (a b:Str×V):(A4 wd pl k a b).2.length<=1:=by
 unfold A4
 split
 ·exact Pu _
 ·exact Pa _
theorem Zia (wd:Str) (i j:Int):Cr (Er wd i j):=by
 unfold Er
 split
 ·exact fun _=>⟨_,rfl⟩
 split
 ·exact fun _=>⟨_,rfl⟩
 ·exact fun h=>absurd (show ("truth" : Str) = "num" from h) (by decide +kernel)
theorem Zb5 (wd:Str) (pl:List Nat) (k:Nat) (a b:Str×V):Cr (A4 wd pl k a b).1:=by
 unfold A4
 split
 ·exact Zia _ _ _
 ·exact fun h=>absurd (show ("row" : Str) = "num" from h) (by decide +kernel)
end
end K57
namespace K57
open PySem L2
noncomputable def Dl (x:Str) (b:Tr):Nat->Tr
 | 0=>b
 | n + 1=>.mk "let" (.flat (.str x)) [Bq "gap" .non,Dl x b n]
noncomputable def Dd (f x:Str) (n:Nat):Tr:=twoT "call" (Ms f x (Dl x (twoT "call" (B1 f) (B1 x)) n)) (N2 1)
noncomputable def oo (n:Nat):List Nat:=P7 n 1
theorem Zcf (x:Str) (b:Tr):∀ (n j:Nat),j < n->(Bo (Dl x b n) (oo j)).map (fun u=>(u.wd,Go u))=fm "let" (.flat (.str x))/\(Bo (Dl x b n) (oo j++[0])).map (fun u=>(u.wd,Go u))=fm "gap" (.flat .non)
 | n + 1,0,_=>by
  unfold Dl
  show (Bo _ []).map _=_/\(Bo _ [0]).map _=_
  rw [C3,Cp]
  simp only [Q0,Qa,C3]
  exact ⟨rfl,rfl⟩
 | n + 1,j + 1,h=>by
  have ih:=Zcf x b n j (by omega)
  unfold Dl
  rw [show oo (j + 1)=1 :: oo j from rfl,Sg,Cp,Cp]
  exact ih
theorem Lr (x:Str) (b:Tr) (q:List Nat):∀ n:Nat,Bo (Dl x b n) (oo n++q)=Bo b q
 | 0=>rfl
 | n + 1=>by
  unfold Dl
  rw [show oo (n + 1)=1 :: oo n from rfl,Sg,Cp]
  exact Lr x b q n
structure Ni (sub:List Nat->Option (Str×Dt)) (p:List Nat) (f x:Str) (n:Nat):Prop where
 c:sub p=fm "call" (.flat .non)
 r:sub (p++[0])=fm "rec" (.tup [.flat (.str f),.flat (.str x)])
 h:sub (p++[1])=fm "num" (.flat (.int 1))
 l:∀ j,j < n->sub (p++[0]++[0]++oo j)=fm "let" (.flat (.str x))/\sub (p++[0]++[0]++oo j++[0])=fm "gap" (.flat .non)
 e:sub (p++[0]++[0]++oo n)=fm "call" (.flat .non)
 e0:sub (p++[0]++[0]++oo n++[0])=fm "name" (.flat (.str f))
 e1:sub (p++[0]++[0]++oo n++[1])=fm "name" (.flat (.str x))
theorem Zif {t:Tr} {p:List Nat} {f x:Str} {n:Nat} (ht:Bo t p=some (Dd f x n)):Ni (B9 t) p f x n:=by
 have e0:∀ q,Bo t (p++q)=Bo (Dd f x n) q:=fun q=>by rw [Zra,ht]; rfl
 have e:∀ q,Bo t (p++[0]++[0]++q)=Bo (Dl x (twoT "call" (B1 f) (B1 x)) n) q:=fun q=>by
  rw [Qe,Qe,e0]
  unfold Dd twoT Ms
  rw [show [0]++([0]++q)=0 :: 0 :: q from rfl,Cp]
  simp only [Q0,Qa]
  rw [Cp]
  rfl
 refine ⟨?_,?_,?_,fun j hj=>?_,?_,?_,?_⟩
 ·rw [Ee,ht]; rfl
 ·rw [Ee,e0]
  unfold Dd twoT
  rw [Cp]
  simp only [Q0,Qa,C3]
  rfl
 ·rw [Ee,e0]
  unfold Dd twoT
  rw [Cp]
  simp only [Q0,R9,Qa,C3]
  rfl
 ·rw [Ee,Ee,Qe _ (oo j) [0],e,e]
  exact Zcf _ _ n j hj
 ·have h:=Lr x (twoT "call" (B1 f) (B1 x)) [] n
  rw [P5] at h
  rw [Ee,e,h,C3]
  rfl
 ·rw [Ee,Qe _ (oo n) [0],e,Lr]
  unfold twoT
  rw [Cp]
  simp only [Q0,Qa,C3]
  rfl
 ·rw [Ee,Qe _ (oo n) [1],e,Lr]
  unfold twoT
  rw [Cp]
  simp only [Q0,R9,Qa,C3]
  rfl
theorem Zg9 (p:List Nat) (j:Nat):p++oo j++[1]=p++oo (j + 1):=by
 rw [Qe]
 unfold oo
 rw [List.replicate_succ']
section
variable {sub:List Nat->Option (Str×Dt)} {p:List Nat} {f x:Str} {n:Nat}
theorem Zb9 (U:Ni sub p f x n) (hn:f≠x):∀ (k j:Nat) (rs:List Rx) (ar:List (Str×Str×V)) (y:Str×V) (st:Int),j + k=n->rs[0]?=some ⟨"rec",As (p++[0]),[],[]⟩->Cd ar f=some (Ax 0)->Cd ar x=some y->ar.length + k<=8000->rs.length + k<=8000 ->
  ∃ rs' y',ChU sub ⟨rs,[]++[⟨p++[0]++[0]++oo j,ar,false⟩],[],st⟩ ⟨rs',[]++[⟨p++[0]++[0],G5 f x y',false⟩],[],st + k + 3⟩/\rs'[0]?=some ⟨"rec",As (p++[0]),[],[]⟩/\rs'.length=rs.length + k
 | 0,j,rs,ar,y,st,hj,hr,lf,lx,ha,hz=>by
  have e:j=n:=by omega
  subst e
  obtain ⟨o1,o2⟩:=two_ok (wd := "call") (.inr rfl)
  refine ⟨rs,y,?_,hr,rfl⟩
  rw [show st + ((0:Nat):Int) + 3=st + 1 + 1 + 1 by omega]
  refine (Zbs (rs:=rs) (w:=[]) (th:=[]) U.e o1 o2 (by simp; omega)).trans ?_
  refine (Zdh (rs:=rs) (w:=[]++[⟨p++[0]++[0]++oo j,ar,true⟩]++[⟨p++[0]++[0]++oo j++[1],ar,false⟩]) (th:=[]) U.e0 lf (by simp; omega)).trans ?_
  refine (Zdh (rs:=rs) (w:=[]++[⟨p++[0]++[0]++oo j,ar,true⟩]) (th:=[]++[Ax 0]) U.e1 lx (by simp; omega)).trans ?_
  exact Zfo (rs:=rs) (w:=[]) (th:=[]) U.e hr U.r (by omega) (by simp; omega)
 | k + 1,j,rs,ar,y,st,hj,hr,lf,lx,ha,hz=>by
  obtain ⟨h1,h2⟩:=U.l j (by omega)
  have hr0:0 < rs.length:=(Pj.mp hr).1
  obtain ⟨rs',y',C,r',l'⟩:=Zb9 U hn k (j + 1) (rs++[⟨"gap",As (p++[0]++[0]++oo j++[0]),[],ar⟩]) (ar++[(x,Ax rs.length)]) (Ax rs.length) (st + 1) (by omega) (by rw [P0 hr0]; exact hr) (by rw [L9,if_neg (Pg hn)]; exact lf) (by rw [L9,if_pos rfl]) (by rw [Pc,Ph]; omega) (by rw [Pc,Ph]; omega)
  refine ⟨rs',y',?_,r',by rw [l',Pc,Ph]; omega⟩
  refine (Zp6 (rs:=rs) (w:=[]) (th:=[]) h1 (by decide +kernel) (by decide +kernel) (by simp; omega)).trans ?_
  refine (Ziw (rs:=rs) (w:=[]++[⟨p++[0]++[0]++oo j,ar,true⟩]) (th:=[]) h2 (by simp; omega)).trans ?_
  refine (Zks (rs:=rs++[⟨"gap",As (p++[0]++[0]++oo j++[0]),[],ar⟩]) (w:=[]) (th:=[]) (ar:=ar) (y:=Ax rs.length) h1 (by omega) (by simp; omega)).trans ?_
  rw [Zg9,show st + ((k + 1:Nat):Int) + 3=st + 1 + (k:Int) + 3 by omega]
  exact C
theorem Zcr (U:Ni sub p f x n) (hn:f≠x) (hl:n<=1000):∀ (fuel:Nat) (rs:List Rx) (y:Str×V) (st:Int),rs[0]?=some ⟨"rec",As (p++[0]),[],[]⟩->(rs.length:Int)<=st + 1->st<=500->500 < st + 3 * fuel->∃ S',ChU sub ⟨rs,[]++[⟨p++[0]++[0],G5 f x y,false⟩],[],st⟩ S'/\500 < S'.steps
 | 0,rs,y,st,hr,h1,h2,h3=>by omega
 | fuel + 1,rs,y,st,hr,h1,h2,h3=>by
  obtain ⟨rs',y',C,r',l'⟩:=Zb9 U hn n 0 rs (G5 f x y) y st (by omega) hr (Zhz hn y) (Zsd f x y) (by show 2 + n<=8000; omega) (by omega)
  rw [show p++[0]++[0]++oo 0=p++[0]++[0] from P5 _] at C
  rcases Int.lt_or_le 500 (st + n + 3) with h | h
  ·exact ⟨_,C,h⟩
  ·obtain ⟨S',C',h'⟩:=Zcr U hn hl fuel rs' y' (st + n + 3) r' (by omega) h (by omega)
   exact ⟨S',C.trans C',h'⟩
end
theorem Zp1 {t:Tr} {p:List Nat} {f x:Str} {n:Nat} {st:Int} (ht:Bo t p=some (Dd f x n)) (hn:f≠x) (hl:n<=1000) (h0:0<=st) (h5:st + 3<=500):∃ k,RunL (B9 t) k ⟨[],[⟨p,[],false⟩],[],st⟩:=by
 have U:=Zif ht
 generalize B9 t=sub at *
 obtain ⟨S',C,h⟩:=Zcr U hn hl 200 [⟨"rec",As (p++[0]),[],[]⟩] (nm 1) (st + 1 + 1 + 1) rfl (by show (1:Int)<=_; omega) (by omega) (by omega)
 refine ChU.late (S1:=S') ?_ (by show st<=500; omega) h
 obtain ⟨o1,o2⟩:=two_ok (wd := "call") (.inr rfl)
 refine (Zbs (rs:=[]) (w:=[]) (th:=[]) (st:=st) (ar:=[]) U.c o1 o2 (by decide)).trans ?_
 refine (Zpn (rs:=[]) (w:=[]++[⟨p,[],true⟩]++[⟨p++[1],[],false⟩]) (th:=[]) (ar:=[]) U.r (by simp)).trans ?_
 refine (Zfs (rs:=[⟨"rec",As (p++[0]),[],[]⟩]) (w:=[]++[⟨p,[],true⟩]) (th:=[Ax 0]) (ar:=[]) U.h (by simp)).trans ?_
 exact (Zfo (rs:=[⟨"rec",As (p++[0]),[],[]⟩]) (w:=[]) (th:=[]) (ar:=[]) (y:=nm 1) U.c rfl U.r (by decide) (by simp)).trans C
end K57
namespace K57
open PySem L2
section
variable {P:Program} {w:World} {K:O7} {mg:Str->Option Value} {base:Heap}
noncomputable def SameR (r:Addr) (H H':Hp):Prop:=∀ b o,b≠r->H b=some o->H' b=some o
theorem SameR.trans {r:Addr} {H H1 H2:Hp} (a:SameR r H H1) (b:SameR r H1 H2):SameR r H H2:=fun c o n h=>b c o n (a c o n h)
theorem _root_.L2.Same.r {H H':Hp} (e:Same H H') (r:Addr):SameR r H H':=fun b o _ h=>e b o h
theorem SameR.upd {r:Addr} {H:Hp} {o:HO}:SameR r H (upd H r o):=fun b o' n h=>by rw [Af n]; exact h
theorem SameR.a {r:Addr} {H H':Hp} {rv:List V} (e:SameR r H H') (h:H r=some (.lst rv)):SameA (fun b=>b=r) H H':=⟨fun b=>⟨fun xs hb=>e b _ (fun z=>by rw [z,h] at hb; cases hb) hb,fun o u hb=>e b _ (fun z=>by rw [z,h] at hb; cases hb) hb⟩,fun b xs n hb=>e b _ n hb⟩
structure DueAt (K:O7) (HZ H:Hp) (r:Addr) (rs:List Rx):Prop where
 ex:∃ rv,H r=some (.lst rv)/\Al (RwX K (fun b=>b=r\/HZ b≠none) H) rv rs
theorem DueAt.same {K:O7} {HZ H H':Hp} {r:Addr} {rs:List Rx} (h:DueAt K HZ H r rs) (e:Same H H'):DueAt K HZ H' r rs:=by
 obtain ⟨rv,h1,h2⟩:=h.ex
 exact ⟨rv,e _ _ h1,h2.mono (RwX.same e.a)⟩
theorem DueAt.add {K:O7} {HZ H:Hp} {r:Addr} {rs:List Rx} {rv:List V} {v:V} {x:Rx} (h1:H r=some (.lst rv)) (h2:Al (RwX K (fun b=>b=r\/HZ b≠none) H) rv rs) (hv:RwX K (fun b=>b=r\/HZ b≠none) H v x):DueAt K HZ (upd H r (.lst (rv++[v]))) r (rs++[x]):=by
 have e:SameR r H (L2.upd H r (.lst (rv++[v]))):=SameR.upd
 exact ⟨_,Ae,(h2.snoc hv).mono (RwX.same ((e.a h1).mono fun _ h=>.inl h))⟩
theorem Zsl {z:Str} {x:Str×Str×V} (ar:List (Str×Str×V)):∀ i:Nat,ar[i]?=some x->x.1=z->(∀ (j:Nat) (y:Str×Str×V),ar[j]?=some y->i < j->y.1≠z)->Cd ar z=some x.2:=by
 refine Md (P:=fun ar=>∀ i:Nat,ar[i]?=some x->x.1=z->(∀ (j:Nat) (y:Str×Str×V),ar[j]?=some y->i < j->y.1≠z)->Cd ar z=some x.2) (fun i h=>by simp at h) (fun l y ih i hi hx hj=>?_) ar
 rw [L9]
 by_cases hl:i < l.length
 ·have hy:y.1≠z:=hj l.length y (by simp) hl
  rw [if_neg hy]
  refine ih i ?_ hx fun j u hu hij=>hj j u ?_ hij
  ·rw [P0 hl] at hi; exact hi
  ·rw [P0 (Pj.mp hu).1]; exact hu
 ·have:i < (l++[y]).length:=(Pj.mp hi).1
  rw [Pc,Ph] at this
  have e:i=l.length:=by omega
  rw [e] at hi
  simp at hi
  rw [hi,if_pos hx]
theorem Znj {z:Str} {ar:List (Str×Str×V)} (h:∀ x∈ar,x.1≠z):Cd ar z=none:=by
 unfold Cd
 rw [List.find?_eq_none.mpr]
 ·rfl
 ·intro x hx
  rw [decide_eq_true_iff]
  exact h x (Vy.mp hx)
theorem fr {HZ H:Hp} {r o:Addr} {rv:List V} (s:Same HZ H) (er:H r=some (.lst rv)) (ho:H o=none):¬ (o=r\/HZ o≠none):=by
 rintro (z | z)
 ·rw [z,er] at ho; cases ho
 ·exact z (s.free ho)
noncomputable def N0 (K:O7):Sp:=fun vs H Q _=>∃ (fv:V) (wd:Str) (nv:V) (p e r:Addr) (pl:List Nat) (rs:List Rx) (ev:List V) (ar:List (Str×Str×V)) (HZ:Hp),vs=[fv,.ref p,.ref e,.ref r]/\Same HZ H/\TrAt K H fv (.mk wd (.flat nv) [])/\LeafOk wd nv/\H p=some (.tup (A0 pl))/\H e=some (.lst ev)/\Al (PrAt K H) ev ar/\e≠r/\DueAt K HZ H r rs/\rs.length<=100 /\
 ∀ v H',SameR r H H'->DueAt K HZ H' r (rs++(Bh wd nv rs.length pl ar).2)->ThAt K H' v (Bh wd nv rs.length pl ar).1->Q v H'
theorem sc_law_comes:A2 ["_law_form", "_law_place", "_law_around", "_law_rows", "_law_word", "_law_note", "_law_parts", "_law_name", "_law_thing"] ["_law_form", "_law_place", "_law_around", "_law_rows"] (Az Kx):=by walk_at "sc"
theorem Zrb {f:Addr} {fd:FuncData} (F:Fun K "_law_comes" "_law_comes" Kx f fd) (T:Txt K mg):FnOk P w K mg base An 1 f fd ["_law_form", "_law_place", "_law_around", "_law_rows"] (N0 K):=by
 refine F.okq sc_law_comes (fun vs H Q E h=>?_) (fun cdv A outer s H vs Q E hr h=>?_)
 ·obtain ⟨fv,wd,nv,p,e,r,pl,rs,ev,ar,HZ,rfl,_⟩:=h
  rfl
 ·obtain ⟨fv,wd,nv,p,e,r,pl,rs,ev,an,HZ,rfl,sZ,ht,ok,hp,he,ale,ner,D,hl,q⟩:=h
  refine ⟨_,Ad (Ij (qv 0) (Ep K (n:=3) rfl (Cb (Bb (i:=4) sc_law_comes.nd rfl (Or.inl rfl)) (Cb (Bb (i:=5) sc_law_comes.nd rfl (Or.inl rfl)) (Cb (Bb (i:=6) sc_law_comes.nd rfl (Or.inl rfl)) (Ev))))))
   (Ad (A7 (A6 (Hf K) (qv 4) (Ah (Aa Ar (Aa Ar Ab))) (by rfl)) (Ag (Av (Ah (Aa (qv 4) (Aa (qv 5) Ab))))) Ba)
   (Ad (Dr Qj rfl (N6 K rfl T.reversed (Aa (qv 2) Ab)) (Ep K (n:=2) rfl (Cb (Bb (i:=7) sc_law_comes.nd rfl (Or.inl rfl)) (Cb (Bb (i:=8) sc_law_comes.nd rfl (Or.inl rfl)) (Ev)))) (Ag (A7 (QW.qt (E5 (A6 (Bu K hr.u200) (qv 4) Ar (A5 _)) (Fn (A6 (Bu K hr.u200) (qv 7) (qv 5) (A5 _))))) (Ag (Av (qv 8))) Ba)))
   (Ad (A7 (A6 (Bu K hr.u200) (qv 4) Ar (A5 _)) (Ag (Be (B2 K Po Py Pz B6 (qv 3) (Aa (Ah (Aa (qv 4) (Aa (qv 1) (Aa (Bm Ab) (Aa (Fc (Hz K) (by rfl) T.list (by decide +kernel) (Aa (qv 2) Ab)) Ab))))) Ab)))) (Ag (Be (B2 K Po Py Pz B6 (qv 3) (Aa (Ah (Aa (qv 4) (Aa (qv 1) (Aa (Bm Ab) (Aa (Bm Ab) Ab))))) Ab)))))
   (Ag (Av (Ah (Aa Ar (Aa (Au El (Bj (Df K) (by rfl) T.len (by decide +kernel) (Aa (qv 3) Ab)) Ac) Ab)))))))),?_⟩
  have bg:=big
  cases ht with
  | @mk b pp _ nv' _ vs _ qb hn qpp hl2 hch =>
  have env':nv'=nv:=by
   rcases hn with ⟨_,h⟩ | ⟨_,_,_,_,_,h⟩
   ·injection h with h; exact h.symm
   ·cases h
  subst env'
  unfold Bh at q
  walk_at "r"
  refine Ec qb rfl ?_
  walk_at "r"
  refine ⟨A3,fun p1 h1=>?_⟩
  refine Gk (.inr (SqT.of Ae)) rfl rfl ?_
  have s1:Same H (upd H p1 (.tup [.str "num",.str "truth"])):=Same.upd h1
  rw [if_neg Pk,show Eg (.str wd) [.str "num",.str "truth"]=decide (wd∈(["num", "truth"]:List Str)) from Hv (ws:=["num", "truth"])]
  revert s1
  generalize upd H p1 (.tup [.str "num",.str "truth"])=H1
  intro s1
  walk_at "r"
  refine C2 (fun h=>?_) (fun h=>?_)
  ·have h:wd∈(["num", "truth"]:List Str):=of_decide_eq_true h
   rw [if_pos h] at q
   walk_at "r"
   refine ⟨A3,fun p2 h2=>?_⟩
   have s2:=s1.put (o:=.tup [.str wd,nv']) h2
   exact q _ _ (s2.r r) (by rw [P5]; exact D.same s2) ⟨ok.flat,p2,rfl,SqT.of Ae⟩
  have h:¬ wd∈(["num", "truth"]:List Str):=fun x=>h (decide_eq_true x)
  rw [if_neg h] at q
  walk_at "r"
  refine ⟨e,ev,rfl,SqL.of (s1 _ _ he),?_⟩
  have ale1:Al (PrAt K H1) ev an:=ale.mono (PrAt.same s1.t)
  have hel:=ale.1
  refine Om (K:=K) (a:=e) (xs:=ev) (fun j σ' H'=>∃ v7 v8,σ'=[some (.ref b),some (.ref p),some (.ref e),some (.ref r),some (.str wd),some nv',some (.ref pp),v7,v8]/\H'=H1/\∀ z,wd = "name" -> nv'=.str z->∀ (i:Nat) (y:Str×Str×V),an[i]?=some y->an.length - j<=i->y.1≠z) ⟨none,none,rfl,rfl,fun z _ _ i y hi hj=>absurd (Pj.mp hi).1 (by omega)⟩ ?_ ?_ ?_
  ·rintro j σ' H' _ ⟨_,_,_,rfl,_⟩
   exact SqL.of (s1 _ _ he)
  ·rintro i y σ' H' hi hy ⟨v7,v8,rfl,rfl,inv⟩
   obtain ⟨x,hx,a,u,rfl,qa,tu⟩:=ale1.get hy
   walk_at "r"
   refine Ec qa rfl ?_
   walk_at "r"
   rw [Bs]
   by_cases hnm:wd = "name"
   ·rw [decide_eq_true hnm]
    obtain ⟨z,rfl⟩:∃ z,nv'=.str z:=by
     rcases ok with ⟨h,_⟩ | ⟨h,_⟩ | ⟨_,h⟩ | ⟨_,h⟩ | ⟨h,_⟩
     ·rw [hnm] at h; exact absurd h (by decide +kernel)
     ·rw [hnm] at h; exact absurd h (by decide +kernel)
     ·exact h
     ·exact h
     ·rw [hnm] at h; exact absurd h (by decide +kernel)
    walk_at "r"
    rw [Bs]
    by_cases hz:x.1=z
    ·rw [decide_eq_true hz]
     walk_at "r"
     have hk:Du wd (.str z) an=some x.2:=(if_pos hnm).trans <| Zsl an _ hx hz fun j y hj hlt=>inv z hnm rfl j y hj (by omega)
     simp only [hk] at q
     exact q _ _ (s1.r r) (by rw [P5]; exact D.same s1) tu
    ·rw [decide_eq_false hz]
     walk_at "r"
     refine ⟨_,_,rfl,rfl,fun z' h1 h2 j y hj hij=>?_⟩
     cases h2
     by_cases hjj:an.length - i<=j
     ·exact inv z hnm rfl j y hj hjj
     ·have:j=ev.length - 1 - i:=by omega
      rw [this,hx] at hj
      cases hj
      exact hz
   ·rw [decide_eq_false hnm]
    walk_at "r"
    exact ⟨_,_,rfl,rfl,fun z' h1=>absurd h1 hnm⟩
  ·rintro σ' H' ⟨v7,v8,rfl,rfl,inv⟩
   have miss:Du wd nv' an=none:=by
    unfold Du
    split
    ·rename_i z
     by_cases hnm:wd = "name"
     ·rw [if_pos hnm]
      refine Znj fun x hx=>?_
      obtain ⟨j,hj⟩:=List.mem_iff_getElem?.mp hx
      exact inv z hnm rfl j x hj (by have:=ale.1; omega)
     ·rw [if_neg hnm]
    ·rfl
   simp only [miss] at q
   obtain ⟨rv,er,ar⟩:=(D.same s1).ex
   have hrl:=ar.1
   walk_at "r"
   rw [Bs]
   refine C2 (fun hg=>?_) (fun hg=>?_)
   ·have hg:wd = "gap" := of_decide_eq_true hg
    rw [if_pos hg] at q
    walk_at "r"
    refine Br (SqL.of er) ?_
    walk_at "r"
    refine ⟨A9,fun o ho=>?_⟩
    obtain ⟨H2,s2,e2,z9⟩:=Aj ho (.lst [])
    rw [z9]
    walk_at "r"
    refine ⟨e,ev,rfl,.inl (SqL.of (s2 _ _ (s1 _ _ he))),fun k hk=>?_⟩
    obtain ⟨H3,s3,e3,z9⟩:=Aj hk (.lst ev)
    rw [z9]
    walk_at "r"
    refine ⟨Fa,fun u hu=>?_⟩
    obtain ⟨H4,s4,e4,z9⟩:=Aj hu (.tup [.str wd,.ref p,.ref o,.ref k])
    rw [z9]
    have s24:=s2.trans (s3.trans s4)
    have s04:=s1.trans s24
    have er4:=s24 _ _ er
    walk_at "r"
    refine B4 er4 (by omega) ?_
    have nor:=fr (sZ.trans s1) er ho
    have nkr:=fr (sZ.trans (s1.trans s2)) (s2 _ _ er) hk
    have D5:=DueAt.add (x:=⟨wd,As pl,[],an⟩) er4 (ar.mono (RwX.same s24.a)) ⟨⟨u,p,o,k,[],ev,rfl,SqT.of e4,by rw [Cv]; exact SqT.of (s04 _ _ hp),s4 _ _ (s3 _ _ e2),.nil,s4 _ _ e3,ale.mono (PrAt.same s04.t),nor,nkr⟩,u,p,o,k,rfl,SqT.of e4,by rw [Cv]; exact s04 _ _ hp⟩
    have r5:SameR r H (upd H4 r (.lst (rv++[.ref u]))):=(s04.r r).trans SameR.upd
    have er5:upd H4 r (.lst (rv++[.ref u])) r=some (.lst (rv++[.ref u])):=Ae
    revert D5 r5 er5
    generalize upd H4 r (.lst (rv++[.ref u]))=H5
    intro D5 r5 er5
    walk_at "r"
    refine Dg (SqL.of er5) ?_
    walk_at "r"
    refine ⟨A3,fun t ht=>?_⟩
    have e6:(((rv++[V.ref u]).length:Nat):Int) - 1=((rs.length:Nat):Int):=by rw [Pc,Ph]; omega
    rw [e6]
    have s6:Same H5 (upd H5 t (.tup [.str "row",.int (rs.length:Nat)])):=Same.upd ht
    exact q _ _ (r5.trans (s6.r r)) (D5.same s6) ⟨rfl,t,rfl,SqT.of Ae⟩
   ·have hg:¬ wd = "gap" := fun x=>hg (decide_eq_true x)
    rw [if_neg hg] at q
    walk_at "r"
    refine Br (SqL.of er) ?_
    walk_at "r"
    refine ⟨A9,fun o ho=>?_⟩
    obtain ⟨H2,s2,e2,z9⟩:=Aj ho (.lst [])
    rw [z9]
    walk_at "r"
    refine ⟨A9,fun k hk=>?_⟩
    obtain ⟨H3,s3,e3,z9⟩:=Aj hk (.lst [])
    rw [z9]
    walk_at "r"
    refine ⟨Fa,fun u hu=>?_⟩
    obtain ⟨H4,s4,e4,z9⟩:=Aj hu (.tup [.str wd,.ref p,.ref o,.ref k])
    rw [z9]
    have s24:=s2.trans (s3.trans s4)
    have s04:=s1.trans s24
    have er4:=s24 _ _ er
    walk_at "r"
    refine B4 er4 (by omega) ?_
    have nor:=fr (sZ.trans s1) er ho
    have nkr:=fr (sZ.trans (s1.trans s2)) (s2 _ _ er) hk
    have D5:=DueAt.add (x:=⟨wd,As pl,[],[]⟩) er4 (ar.mono (RwX.same s24.a)) ⟨⟨u,p,o,k,[],[],rfl,SqT.of e4,by rw [Cv]; exact SqT.of (s04 _ _ hp),s4 _ _ (s3 _ _ e2),.nil,s4 _ _ e3,.nil,nor,nkr⟩,u,p,o,k,rfl,SqT.of e4,by rw [Cv]; exact s04 _ _ hp⟩
    have r5:SameR r H (upd H4 r (.lst (rv++[.ref u]))):=(s04.r r).trans SameR.upd
    have er5:upd H4 r (.lst (rv++[.ref u])) r=some (.lst (rv++[.ref u])):=Ae
    revert D5 r5 er5
    generalize upd H4 r (.lst (rv++[.ref u]))=H5
    intro D5 r5 er5
    walk_at "r"
    refine Dg (SqL.of er5) ?_
    walk_at "r"
    refine ⟨A3,fun t ht=>?_⟩
    have e6:(((rv++[V.ref u]).length:Nat):Int) - 1=((rs.length:Nat):Int):=by rw [Pc,Ph]; omega
    rw [e6]
    have s6:Same H5 (upd H5 t (.tup [.str "row",.int (rs.length:Nat)])):=Same.upd ht
    exact q _ _ (r5.trans (s6.r r)) (D5.same s6) ⟨rfl,t,rfl,SqT.of Ae⟩
noncomputable def Zaw (K:O7):Sp:=fun vs H Q _=>∃ (wd:Str) (p r:Addr) (xv yv:V) (x y:Str×V) (pl:List Nat) (rs:List Rx) (HZ:Hp),vs=[.str wd,.ref p,xv,yv,.ref r]/\Same HZ H/\(wd∈Dp\/wd = "call")/\H p=some (.tup (A0 pl))/\ThAt K H xv x/\ThAt K H yv y/\Cr x/\Cr y/\DueAt K HZ H r rs/\rs.length<=100 /\
 ∀ v H',SameR r H H'->DueAt K HZ H' r (rs++(A4 wd pl rs.length x y).2)->ThAt K H' v (A4 wd pl rs.length x y).1->Q v H'
theorem Zrx:A2 ["_law_word", "_law_place", "_law_one", "_law_other", "_law_rows"] ["_law_word", "_law_place", "_law_one", "_law_other", "_law_rows"] (Az K1):=by walk_at "sc"
theorem Zo2 {f:Addr} {fd:FuncData} (F:Fun K "_law_joined" "_law_joined" K1 f fd) (T:Txt K mg):FnOk P w K mg base An 1 f fd ["_law_word", "_law_place", "_law_one", "_law_other", "_law_rows"] (Zaw K):=by
 refine F.okq Zrx (fun vs H Q E h=>?_) (fun cdv A outer s H vs Q E hr h=>?_)
 ·obtain ⟨wd,p,r,xv,yv,x,y,pl,rs,HZ,rfl,_⟩:=h
  rfl
 ·obtain ⟨wd,p,r,xv,yv,x,y,pl,rs,HZ,rfl,sZ,hw,hp,hx,hy,ox,oy,D,hl,q⟩:=h
  refine ⟨_,Ad (A7 (QW.qt (E5 (A6 (E2 K hr.u200) (qv 0) Ar (A5 _)) (E5 (A6 (Bu K hr.u200) (Ak K (qv 2) Ac) Ar (A5 _)) (Fn (A6 (Bu K hr.u200) (Ak K (qv 3) Ac) Ar (A5 _)))))) (Ad (A7 (A6 (Bu K hr.u200) (qv 0) Ar (A5 _)) (Ag (Av (Ah (Aa Ar (Aa (Au (B8 K) (Ak K (qv 2) Ac) (Ak K (qv 3) Ac)) Ab))))) Ba)
   (Ad (A7 (A6 (Bu K hr.u200) (qv 0) Ar (A5 _)) (Ag (Av (Ah (Aa Ar (Aa (Au El (Ak K (qv 2) Ac) (Ak K (qv 3) Ac)) Ab))))) Ba)
   (Ag (Av (Ah (Aa Ar (Aa (E1 Jr (Ak K (qv 2) Ac) (Ak K (qv 3) Ac) (A5 _)) Ab))))))) Ba)
   (Ad (Be (B2 K Po Py Pz B6 (qv 4) (Aa (Ah (Aa (qv 0) (Aa (qv 1) (Aa (Bm (Aa (qv 2) (Aa (qv 3) Ab))) (Aa (Bm Ab) Ab))))) Ab)))
   (Ag (Av (Ah (Aa Ar (Aa (Au El (Bj (Df K) (by rfl) T.len (by decide +kernel) (Aa (qv 4) Ab)) Ac) Ab)))))),?_⟩
  have bg:=big
  obtain ⟨ax,ex,qx⟩:=hx.2
  obtain ⟨ay,ey,qy⟩:=hy.2
  subst ex ey
  obtain ⟨rv,er,ar⟩:=D.ex
  have hrl:=ar.1
  have row:∀ o,H o=none->∀ k,upd H o (.lst [.ref ax,.ref ay]) k=none->∀ u,upd (upd H o (.lst [.ref ax,.ref ay])) k (.lst []) u=none ->
    ∃ H5,H5=upd (upd (upd (upd H o (.lst [.ref ax,.ref ay])) k (.lst [])) u (.tup [.str wd,.ref p,.ref o,.ref k])) r (.lst (rv++[.ref u]))/\upd (upd (upd H o (.lst [.ref ax,.ref ay])) k (.lst [])) u (.tup [.str wd,.ref p,.ref o,.ref k]) r=some (.lst rv)/\H5 r=some (.lst (rv++[.ref u]))/\SameR r H H5/\DueAt K HZ H5 r (rs++[⟨wd,As pl,[x,y],[]⟩]):=by
   intro o ho k hk u hu
   have s2:Same H (upd H o (.lst [.ref ax,.ref ay])):=Same.upd ho
   have s3:Same (upd H o (.lst [.ref ax,.ref ay])) (upd (upd H o (.lst [.ref ax,.ref ay])) k (.lst [])):=Same.upd hk
   have s4:Same (upd (upd H o (.lst [.ref ax,.ref ay])) k (.lst [])) (upd (upd (upd H o (.lst [.ref ax,.ref ay])) k (.lst [])) u (.tup [.str wd,.ref p,.ref o,.ref k])):=Same.upd hu
   have e2:=s4 _ _ (s3 _ _ (Ae (H:=H) (a:=o) (o:=.lst [.ref ax,.ref ay])))
   have e3:=s4 _ _ (Ae (H:=upd H o (.lst [.ref ax,.ref ay])) (a:=k) (o:=.lst []))
   have e4:upd (upd (upd H o (.lst [.ref ax,.ref ay])) k (.lst [])) u (.tup [.str wd,.ref p,.ref o,.ref k]) u=some (.tup [.str wd,.ref p,.ref o,.ref k]):=Ae
   have nor:=fr sZ er ho
   have nkr:=fr (sZ.trans s2) (s2 _ _ er) hk
   have s04:=s2.trans (s3.trans s4)
   revert s04 e2 e3 e4
   generalize upd (upd (upd H o (.lst [.ref ax,.ref ay])) k (.lst [])) u (.tup [.str wd,.ref p,.ref o,.ref k])=H4
   intro e2 e3 e4 s04
   have er4:=s04 _ _ er
   refine ⟨_,rfl,er4,Ae,(s04.r r).trans SameR.upd,DueAt.add (x:=⟨wd,As pl,[x,y],[]⟩) er4 (ar.mono (RwX.same s04.a)) ⟨⟨u,p,o,k,[.ref ax,.ref ay],[],rfl,SqT.of e4,by rw [Cv]; exact SqT.of (s04 _ _ hp),e2,?_,e3,.nil,nor,nkr⟩,u,p,o,k,rfl,SqT.of e4,by rw [Cv]; exact s04 _ _ hp⟩⟩
   exact (Al.nil.snoc (ThAt.same s04.t _ _ hx)).snoc (ThAt.same s04.t _ _ hy)
  unfold A4 at q
  walk_at "r"
  rw [Bs]
  by_cases wc:wd = "call"
  ·rw [decide_eq_true wc]
   have hn:¬ (wd∈Dp/\x.1 = "num" /\ y.1 = "num"):=fun h=>absurd h.1 (by rw [wc]; decide +kernel)
   rw [if_neg hn] at q
   walk_at "r"
   refine Br (SqL.of er) ?_
   walk_at "r"
   refine ⟨A3,fun o ho=>?_⟩
   walk_at "r"
   refine ⟨A9,fun k hk=>?_⟩
   walk_at "r"
   refine ⟨Fa,fun u hu=>?_⟩
   walk_at "r"
   obtain ⟨H5,hH5,er4,er5,r5,D5⟩:=row o ho k hk u hu
   refine B4 er4 (by omega) ?_
   rw [<- hH5]
   walk_at "r"
   refine Dg (SqL.of er5) ?_
   walk_at "r"
   refine ⟨A3,fun t ht=>?_⟩
   have e6:(((rv++[V.ref u]).length:Nat):Int) - 1=((rs.length:Nat):Int):=by rw [Pc,Ph]; omega
   rw [e6]
   have s6:Same H5 (upd H5 t (.tup [.str "row",.int (rs.length:Nat)])):=Same.upd ht
   exact q _ _ (r5.trans (s6.r r)) (D5.same s6) ⟨rfl,t,rfl,SqT.of Ae⟩
  have hwo:wd∈Dp:=by
   rcases hw with h | h
   ·exact h
   ·exact absurd h wc
  rw [decide_eq_false wc]
  walk_at "r"
  refine Aw qx rfl ?_
  walk_at "r"
  rw [Bs]
  by_cases hx1:x.1 = "num"
  ·rw [decide_eq_true hx1]
   walk_at "r"
   refine Aw qy rfl ?_
   walk_at "r"
   rw [Bs]
   by_cases hy1:y.1 = "num"
   ·rw [decide_eq_true hy1]
    rw [if_pos ⟨hwo,hx1,hy1⟩] at q
    obtain ⟨i,ei⟩:=ox hx1
    obtain ⟨j,ej⟩:=oy hy1
    rw [ei] at qx
    rw [ej] at qy
    rw [show Ht x.2=i by rw [ei]; rfl,show Ht y.2=j by rw [ej]; rfl] at q
    have ret:∀ v,ThAt K H v (Er wd i j)->True:=fun _ _=>trivial
    unfold Er at q
    walk_at "r"
    rw [Bs]
    refine C2 (fun h=>?_) (fun h=>?_)
    ·have h:wd = "plus" := of_decide_eq_true h
     rw [if_pos h] at q
     walk_at "r"
     refine Aw qx rfl ?_
     walk_at "r"
     refine Aw qy rfl ?_
     walk_at "r"
     refine ⟨A3,fun t ht=>?_⟩
     have s6:=Same.upd (o:=.tup [.str "num",.int (i + j)]) ht
     exact q _ _ (s6.r r) (by rw [P5]; exact D.same s6) ⟨rfl,t,rfl,SqT.of Ae⟩
    have h:¬ wd = "plus" := fun x=>h (decide_eq_true x)
    rw [if_neg h] at q
    walk_at "r"
    rw [Bs]
    refine C2 (fun h=>?_) (fun h=>?_)
    ·have h:wd = "minus" := of_decide_eq_true h
     rw [if_pos h] at q
     walk_at "r"
     refine Aw qx rfl ?_
     walk_at "r"
     refine Aw qy rfl ?_
     walk_at "r"
     refine ⟨A3,fun t ht=>?_⟩
     have s6:=Same.upd (o:=.tup [.str "num",.int (i - j)]) ht
     exact q _ _ (s6.r r) (by rw [P5]; exact D.same s6) ⟨rfl,t,rfl,SqT.of Ae⟩
    have h:¬ wd = "minus" := fun x=>h (decide_eq_true x)
    rw [if_neg h] at q
    walk_at "r"
    refine Aw qx rfl ?_
    walk_at "r"
    refine Aw qy rfl ?_
    walk_at "r"
    refine ⟨A3,fun t ht=>?_⟩
    have s6:=Same.upd (o:=.tup [.str "truth",.bl (decide (i < j))]) ht
    exact q _ _ (s6.r r) (by rw [P5]; exact D.same s6) ⟨rfl,t,rfl,SqT.of Ae⟩
   ·rw [decide_eq_false hy1]
    have hn:¬ (wd∈Dp/\x.1 = "num" /\ y.1 = "num"):=fun h=>hy1 h.2.2
    rw [if_neg hn] at q
    walk_at "r"
    refine Br (SqL.of er) ?_
    walk_at "r"
    refine ⟨A3,fun o ho=>?_⟩
    walk_at "r"
    refine ⟨A9,fun k hk=>?_⟩
    walk_at "r"
    refine ⟨Fa,fun u hu=>?_⟩
    walk_at "r"
    obtain ⟨H5,hH5,er4,er5,r5,D5⟩:=row o ho k hk u hu
    refine B4 er4 (by omega) ?_
    rw [<- hH5]
    walk_at "r"
    refine Dg (SqL.of er5) ?_
    walk_at "r"
    refine ⟨A3,fun t ht=>?_⟩
    have e6:(((rv++[V.ref u]).length:Nat):Int) - 1=((rs.length:Nat):Int):=by rw [Pc,Ph]; omega
    rw [e6]
    have s6:Same H5 (upd H5 t (.tup [.str "row",.int (rs.length:Nat)])):=Same.upd ht
    exact q _ _ (r5.trans (s6.r r)) (D5.same s6) ⟨rfl,t,rfl,SqT.of Ae⟩
  ·rw [decide_eq_false hx1]
   have hn:¬ (wd∈Dp/\x.1 = "num" /\ y.1 = "num"):=fun h=>hx1 h.2.1
   rw [if_neg hn] at q
   walk_at "r"
   refine Br (SqL.of er) ?_
   walk_at "r"
   refine ⟨A3,fun o ho=>?_⟩
   walk_at "r"
   refine ⟨A9,fun k hk=>?_⟩
   walk_at "r"
   refine ⟨Fa,fun u hu=>?_⟩
   walk_at "r"
   obtain ⟨H5,hH5,er4,er5,r5,D5⟩:=row o ho k hk u hu
   refine B4 er4 (by omega) ?_
   rw [<- hH5]
   walk_at "r"
   refine Dg (SqL.of er5) ?_
   walk_at "r"
   refine ⟨A3,fun t ht=>?_⟩
   have e6:(((rv++[V.ref u]).length:Nat):Int) - 1=((rs.length:Nat):Int):=by rw [Pc,Ph]; omega
   rw [e6]
   have s6:Same H5 (upd H5 t (.tup [.str "row",.int (rs.length:Nat)])):=Same.upd ht
   exact q _ _ (r5.trans (s6.r r)) (D5.same s6) ⟨rfl,t,rfl,SqT.of Ae⟩
inductive Fm1 where
 | leaf (a:Str×V)
 | plus (a b:Str×V)
noncomputable def Fm1.t:Fm1->Tr
 | .leaf a=>Bq a.1 a.2
 | .plus a b=>twoT "plus" (Bq a.1 a.2) (Bq b.1 b.2)
noncomputable def Fm1.Ok:Fm1->Prop
 | .leaf a=>LeafOk a.1 a.2
 | .plus a b=>LeafOk a.1 a.2/\LeafOk b.1 b.2
noncomputable def fL (a:Str×V):(Str×V)×List Rx:=Bh a.1 a.2 0 [0,0] []
noncomputable def fR (a b:Str×V):(Str×V)×List Rx:=Bh b.1 b.2 (fL a).2.length [0,1] []
noncomputable def fJ (a b:Str×V):(Str×V)×List Rx:=A4 "plus" [0] ((fL a).2++(fR a b).2).length (fL a).1 (fR a b).1
noncomputable def Fm1.g:Fm1->(Str×V)×List Rx
 | .leaf a=>Bh a.1 a.2 0 [0] []
 | .plus a b=>((fJ a b).1,(fL a).2++(fR a b).2++(fJ a b).2)
theorem Io {wd:Str} {nv:V} (ok:LeafOk wd nv) (k:Nat) (pl:List Nat):Cr (Bh wd nv k pl []).1:=by
 unfold Bh
 by_cases hm:wd∈(["num", "truth"]:List Str)
 ·rw [if_pos hm]
  intro e
  have e:wd = "num" := e
  rcases ok with ⟨_,i,rfl⟩ | ⟨rfl,_⟩ | ⟨rfl,_⟩ | ⟨rfl,_⟩ | ⟨rfl,_⟩
  ·exact ⟨i,rfl⟩
  all_goals exact absurd e (by decide +kernel)
 ·rw [if_neg hm]
  have e:Du wd nv []=none:=by
   unfold Du
   split
   ·split <;> rfl
   ·rfl
  rw [e]
  exact fun h=>absurd (show ("row" : Str) = "num" from h) (by decide +kernel)
noncomputable def Zeq (K:O7):Sp:=fun vs H Q _=>∃ (fv:V) (r:Addr) (F:Fm1) (HZ:Hp),vs=[fv,.ref r]/\Same HZ H/\HZ r=none/\TrAt K H fv F.t/\F.Ok/\DueAt K HZ H r []/\∀ v H',SameR r H H'->DueAt K HZ H' r F.g.2->ThAt K H' v F.g.1->Q v H'
theorem Zbd:A2 ["_law_form", "_law_rows", "_law_left", "_law_right"] ["_law_form", "_law_rows"] (Az Ke):=by walk_at "sc"
theorem Zjv {f:Addr} {fd:FuncData} (F:Fun K "_law_first" "_law_first" Ke f fd) (T:Txt K mg) (C__law_comes:A8 P w K mg base 1 "_law_comes" ["_law_form", "_law_place", "_law_around", "_law_rows"] (N0 K)) (C__law_joined:A8 P w K mg base 1 "_law_joined" ["_law_word", "_law_place", "_law_one", "_law_other", "_law_rows"] (Zaw K)):FnOk P w K mg base An 2 f fd ["_law_form", "_law_rows"] (Zeq K):=by
 refine F.okq Zbd (fun vs H Q E h=>?_) (fun cdv A outer s H vs Q E hr h=>?_)
 ·obtain ⟨fv,r,F,HZ,rfl,_⟩:=h
  rfl
 ·obtain ⟨fv,r,F1,HZ,rfl,sZ,nZ,ht,ok,D,q⟩:=h
  refine ⟨_,Ad (A7 (A6 (E2 K hr.u200) (Ak K (qv 0) Ac) Ar (A5 _)) (Ag (Av (A1 C__law_comes hr.m (Aa (qv 0) (Aa (Ah (Aa Ac Ab)) (Aa (Bm Ab) (Aa (qv 1) Ab))))))) Ba)
   (Ad (Ay 2 Zbd (A1 C__law_comes hr.m (Aa (Ak K (Ak K (qv 0) Ac) Ac) (Aa (Ah (Aa Ac (Aa Ac Ab))) (Aa (Bm Ab) (Aa (qv 1) Ab))))))
   (Ad (Ay 3 Zbd (A1 C__law_comes hr.m (Aa (Ak K (Ak K (qv 0) Ac) Ac) (Aa (Ah (Aa Ac (Aa Ac Ab))) (Aa (Bm Ab) (Aa (qv 1) Ab))))))
   (Ag (Av (A1 C__law_joined hr.m (Aa Ar (Aa (Ah (Aa Ac Ab)) (Aa (qv 2) (Aa (qv 3) (Aa (qv 1) Ab)))))))))),?_⟩
  have bg:=big
  obtain ⟨rv0,er0,_⟩:=D.ex
  have leafc:∀ (H0:Hp) (p k:Addr) (u:V) (a:Str×V) (pl:List Nat) (rs:List Rx) (Y:VK),Same HZ H0->TrAt K H0 u (Bq a.1 a.2)->LeafOk a.1 a.2->H0 p=some (.tup (A0 pl))->H0 k=some (.lst [])->DueAt K HZ H0 r rs->rs.length<=5->k≠r->(∀ v H',SameR r H0 H'->DueAt K HZ H' r (rs++(Bh a.1 a.2 rs.length pl []).2)->ThAt K H' v (Bh a.1 a.2 rs.length pl []).1->Y v H')->N0 K [u,.ref p,.ref k,.ref r] H0 Y E0:=by
   intro H0 p k u a pl rs Y sZ0 hu ok hp hk D0 hl nk hY
   exact ⟨u,a.1,a.2,p,k,r,pl,rs,[],[],HZ,rfl,sZ0,hu,ok,hp,hk,.nil,nk,D0,by omega,hY⟩
  have sZr:∀ {H':Hp},SameR r H H'->Same HZ H':=fun rr x o h=>rr x o (fun z=>by rw [z,nZ] at h; cases h) (sZ _ _ h)
  cases F1 with
  | leaf a =>
   have ht:TrAt K H fv (Bq a.1 a.2):=ht
   have ok:LeafOk a.1 a.2:=ok
   have ht0:=ht
   unfold Bq at ht
   cases ht with
   | @mk c pp _ nv _ us _ qb hn qp l hch =>
   have hw:¬ a.1 = "plus" := by
    intro z
    rcases ok with ⟨h,_⟩ | ⟨h,_⟩ | ⟨h,_⟩ | ⟨h,_⟩ | ⟨h,_⟩ <;> (rw [h] at z; exact absurd z (by decide +kernel))
   walk_at "r"
   refine Aw qb rfl ?_
   walk_at "r"
   rw [Bs,decide_eq_false hw]
   walk_at "r"
   refine ⟨Cj,fun p1 h1=>?_⟩
   obtain ⟨H1,s1,e1,z9⟩:=Aj h1 (.tup [.int 0])
   rw [z9]
   walk_at "r"
   refine ⟨A9,fun k2 h2=>?_⟩
   have s2:Same H1 (upd H1 k2 (.lst [])):=Same.upd h2
   have e2:upd H1 k2 (.lst []) k2=some (.lst []):=Ae
   have nk:k2≠r:=fun z=>by rw [z,s1 _ _ er0] at h2; cases h2
   revert s2 e2
   generalize upd H1 k2 (.lst [])=H2
   intro s2 e2
   have s02:=s1.trans s2
   walk_at "r"
   refine leafc H2 p1 k2 _ a [0] [] _ (sZ.trans s02) (ht0.same s02) ok (s2 _ _ e1) e2 (D.same s02) (by decide) nk (fun v H' r' D' t'=>q v H' ((s02.r r).trans r') D' t')
  | plus a b =>
   have ht:TrAt K H fv (twoT "plus" (Bq a.1 a.2) (Bq b.1 b.2)):=ht
   obtain ⟨oka,okb⟩:LeafOk a.1 a.2/\LeafOk b.1 b.2:=ok
   unfold twoT at ht
   cases ht with
   | @mk c pp _ nv _ us _ qb hn qp l hch =>
   obtain ⟨u0,u1,rfl⟩:∃ u0 u1,us=[u0,u1]:=by
    match us,l with
    | [u0,u1],_=>exact ⟨u0,u1,rfl⟩
   have t0:=hch 0 u0 _ rfl rfl
   have t1:=hch 1 u1 _ rfl rfl
   walk_at "r"
   refine Aw qb rfl ?_
   walk_at "r"
   rw [Bs,decide_eq_true (Eq.refl _)]
   walk_at "r"
   refine Aw qb rfl ?_
   walk_at "r"
   refine Aw qp rfl ?_
   walk_at "r"
   refine ⟨A3,fun p1 h1=>?_⟩
   obtain ⟨H1,s1,e1,z9⟩:=Aj h1 (.tup [.int 0,.int 0])
   rw [z9]
   walk_at "r"
   refine ⟨A9,fun k2 h2=>?_⟩
   have s2:Same H1 (upd H1 k2 (.lst [])):=Same.upd h2
   have e2:upd H1 k2 (.lst []) k2=some (.lst []):=Ae
   have nk:k2≠r:=fun z=>by rw [z,s1 _ _ er0] at h2; cases h2
   revert s2 e2
   generalize upd H1 k2 (.lst [])=H2
   intro s2 e2
   have s02:=s1.trans s2
   walk_at "r"
   refine leafc H2 p1 k2 _ a [0,0] [] _ (sZ.trans s02) (t0.same s02) oka (s2 _ _ e1) e2 (D.same s02) (by decide) nk (fun lv H3 r3 D3 tl3=>?_)
   have D3:DueAt K HZ H3 r (fL a).2:=D3
   have tl3:ThAt K H3 lv (fL a).1:=tl3
   have a23:SameT H2 H3:=by
    obtain ⟨rv2,er2,_⟩:=(D.same s02).ex
    exact (r3.a er2).1
   have R03:=(s02.r r).trans r3
   have t03:=s02.t.trans a23
   have t1:=t1.sameT t03
   have qb3:=t03.tup qb
   have qp3:=t03.tup qp
   have la:(fL a).2.length<=1:=Ey _ _ _ _ _
   have lb:(fR a b).2.length<=1:=Ey _ _ _ _ _
   walk_at "r"
   refine Aw qb3 rfl ?_
   walk_at "r"
   refine Aw qp3 rfl ?_
   walk_at "r"
   refine ⟨A3,fun p4 h4=>?_⟩
   obtain ⟨H4,s4,e4,z9⟩:=Aj h4 (.tup [.int 0,.int 1])
   rw [z9]
   walk_at "r"
   refine ⟨A9,fun k5 h5=>?_⟩
   have s5:Same H4 (upd H4 k5 (.lst [])):=Same.upd h5
   have e5:upd H4 k5 (.lst []) k5=some (.lst []):=Ae
   have nk5:k5≠r:=fun z=>by
    obtain ⟨rv3,er3,_⟩:=D3.ex
    rw [z,s4 _ _ er3] at h5; cases h5
   revert s5 e5
   generalize upd H4 k5 (.lst [])=H5
   intro s5 e5
   have s35:=s4.trans s5
   walk_at "r"
   refine leafc H5 p4 k5 _ b [0,1] (fL a).2 _ ((sZr R03).trans s35) (t1.same s35) okb (s5 _ _ e4) e5 (D3.same s35) (by omega) nk5 (fun rv H6 r6 D6 tr6=>?_)
   have D6:DueAt K HZ H6 r ((fL a).2++(fR a b).2):=D6
   have tr6:ThAt K H6 rv (fR a b).1:=tr6
   have a56:SameT H5 H6:=by
    obtain ⟨rv5,er5,_⟩:=(D3.same s35).ex
    exact (r6.a er5).1
   have tl6:=ThAt.same (s35.t.trans a56) _ _ tl3
   have R06:=R03.trans ((s35.r r).trans r6)
   walk_at "r"
   refine ⟨Cj,fun p7 h7=>?_⟩
   obtain ⟨H7,s7,e7,z9⟩:=Aj h7 (.tup [.int 0])
   rw [z9]
   walk_at "r"
   exact ⟨"plus",p7,r,lv,rv,(fL a).1,(fR a b).1,[0],(fL a).2++(fR a b).2,HZ,rfl,(sZr R06).trans s7,.inl (by decide +kernel),e7,ThAt.same s7.t _ _ tl6,ThAt.same s7.t _ _ tr6,Io oka _ _,Io okb _ _,D6.same s7,by rw [Pc]; omega,fun v H' r' D' t'=>q v H' (R06.trans ((s7.r r).trans r')) D' t'⟩
noncomputable def tn (ns:List Str) (c k:Int):Str:=(ns[(k % c).toNat]?).getD Str.empty
noncomputable def Ol (K:O7):Sp:=fun vs H Q _=>∃ (p:Addr) (ns:List Str) (c k:Int),vs=[.ref p,.int c,.int k]/\SqL K H p (ns.map V.str)/\0 < c/\c<=ns.length/\Q (.str (tn ns c k)) H
theorem Zoi:A2 ["_law_names_here", "_law_count", "_law_k"] ["_law_names_here", "_law_count", "_law_k"] (Az Jl):=by walk_at "sc"
theorem Zo5 {f:Addr} {fd:FuncData} (F:Fun K "_law_turned" "_law_turned" Jl f fd) (T:Txt K mg):FnOk P w K mg base An 1 f fd ["_law_names_here", "_law_count", "_law_k"] (Ol K):=by
 refine F.okq Zoi (fun vs H Q E h=>?_) (fun cdv A outer s H vs Q E hr h=>?_)
 ·obtain ⟨p,ns,c,k,rfl,_⟩:=h
  rfl
 ·obtain ⟨p,ns,c,k,rfl,hp,hc,hl,q⟩:=h
  refine ⟨_,Ag (Av (Ak K (qv 0) (Au C5 (qv 2) (qv 1)))),?_⟩
  walk_at "r"
  refine s_rI hc ?_
  have b0:=Qg k (show c≠0 by omega)
  have b1:=Qd k hc
  have hi:(k % c).toNat < ns.length:=by omega
  have e:(ns.map V.str)[(k % c).toNat]?=some (.str (tn ns c k)):=by
   unfold tn
   rw [Qn,Pb hi]
   rfl
  have e2:=Bc e
  rw [Sz b0] at e2
  exact Bp hp e2 q
noncomputable def dG (n0:Str) (ns:List Str) (c:Int) (F:(Str×V)×List Rx):Nat->(Str×V)×List Rx×List (Str×Str×V)
 | 0=>(F.1,F.2,[(n0,F.1)])
 | k + 1=>((A4 "plus" ([1]++oo k++[0]) (dG n0 ns c F k).2.1.length (dG n0 ns c F k).1 (dG n0 ns c F k).1).1,(dG n0 ns c F k).2.1++(A4 "plus" ([1]++oo k++[0]) (dG n0 ns c F k).2.1.length (dG n0 ns c F k).1 (dG n0 ns c F k).1).2,(dG n0 ns c F k).2.2++[(tn ns c (1 + (k:Int)),(A4 "plus" ([1]++oo k++[0]) (dG n0 ns c F k).2.1.length (dG n0 ns c F k).1 (dG n0 ns c F k).1).1)])
noncomputable def B3 (n0:Str) (ns:List Str) (c:Int) (F:(Str×V)×List Rx) (m:Nat):List Rx:=(dG n0 ns c F m).2.1++[⟨"gap",As ([1]++oo m++[1]),[],(dG n0 ns c F m).2.2⟩]++[⟨"plus",As ([1]++oo m),[(dG n0 ns c F m).1,Ax (dG n0 ns c F m).2.1.length],[]⟩]
noncomputable def De (n0:Str) (ns:List Str) (c:Int) (F:(Str×V)×List Rx) (m:Nat):Str×V:=Ax ((dG n0 ns c F m).2.1.length + 1)
theorem Zak {n0:Str} {ns:List Str} {c:Int} {F:(Str×V)×List Rx} (h:Cr F.1):∀ k,Cr (dG n0 ns c F k).1
 | 0=>h
 | k + 1=>Zb5 _ _ _ _ _
theorem Fo {n0:Str} {ns:List Str} {c:Int} {F:(Str×V)×List Rx}:∀ k,(dG n0 ns c F k).2.1.length<=F.2.length + k/\(dG n0 ns c F k).2.2.length=k + 1
 | 0=>⟨Pa _,rfl⟩
 | k + 1=>by
  obtain ⟨h1,h2⟩:=Fo (n0:=n0) (ns:=ns) (c:=c) (F:=F) k
  have:=Za4 "plus" ([1]++oo k++[0]) (dG n0 ns c F k).2.1.length (dG n0 ns c F k).1 (dG n0 ns c F k).1
  refine ⟨?_,?_⟩
  ·show ((dG n0 ns c F k).2.1++(A4 "plus" ([1]++oo k++[0]) (dG n0 ns c F k).2.1.length (dG n0 ns c F k).1 (dG n0 ns c F k).1).2).length<=_
   rw [Pc]
   omega
  ·show ((dG n0 ns c F k).2.2++[_]).length=_
   rw [Pc,Ph,h2]
theorem Fm1.num {F:Fm1} (h:F.Ok):Cr F.g.1:=by
 cases F with
 | leaf a=>exact Io h _ _
 | plus a b=>exact Zb5 _ _ _ _ _
theorem Fm1.len (F:Fm1):F.g.2.length<=3:=by
 cases F with
 | leaf a=>have:=Ey a.1 a.2 0 [0] []; show (Bh a.1 a.2 0 [0] []).2.length<=3; omega
 | plus a b =>
  have h1:(fL a).2.length<=1:=Ey _ _ _ _ _
  have h2:(fR a b).2.length<=1:=Ey _ _ _ _ _
  have h3:(fJ a b).2.length<=1:=Za4 _ _ _ _ _
  show ((fL a).2++(fR a b).2++(fJ a b).2).length<=3
  rw [Pc,Pc]
  omega
theorem O3 (p:List Nat) (k:Nat):A0 p++[V.int (k:Nat)]=A0 (p++[k]):=by unfold A0; rw [Qo]; rfl
theorem Zbu (m:Nat):(oo m).length=m:=Sv
noncomputable def Zct (K:O7):Sp:=fun vs H Q _=>∃ (p:Addr) (n0 n1 n2:Str) (c st:Int) (m:Nat) (fv:V) (F:Fm1),vs=[.ref p,.int c,.int (m:Nat),fv,.int st]/\SqL K H p [.str n0,.str n1,.str n2]/\0 < c/\c<=3/\m<=60/\TrAt K H fv F.t/\F.Ok/\∀ (r rd:Addr) (av:V) (H':Hp),Same H H'->SqT K H' r [av,.ref rd,.int st]->ThAt K H' av (De n0 [n0,n1,n2] c F.g m)->DueAt K H H' rd (B3 n0 [n0,n1,n2] c F.g m)->H rd=none->Q (.ref r) H'
theorem sc_law_record:A2 ["_law_names_here", "_law_count", "_law_many", "_law_form", "_law_steps", "_law_rows", "_law_thing", "_law_around", "_law_place", "_law_k"] ["_law_names_here", "_law_count", "_law_many", "_law_form", "_law_steps"] (Az Ki):=by walk_at "sc"
theorem Zjp {f:Addr} {fd:FuncData} (F:Fun K "_law_record" "_law_record" Ki f fd) (T:Txt K mg) (C__law_first:A8 P w K mg base 2 "_law_first" ["_law_form", "_law_rows"] (Zeq K)) (C__law_turned:A8 P w K mg base 1 "_law_turned" ["_law_names_here", "_law_count", "_law_k"] (Ol K)) (C__law_joined:A8 P w K mg base 1 "_law_joined" ["_law_word", "_law_place", "_law_one", "_law_other", "_law_rows"] (Zaw K)):FnOk P w K mg base An 3 f fd ["_law_names_here", "_law_count", "_law_many", "_law_form", "_law_steps"] (Zct K):=by
 refine F.okq sc_law_record (fun vs H Q E h=>?_) (fun cdv A outer s H vs Q E hr h=>?_)
 ·obtain ⟨p,n0,n1,n2,c,st,m,fv,F1,rfl,_⟩:=h
  rfl
 ·obtain ⟨p,n0,n1,n2,c,st,m,fv,F1,rfl,hp,hc0,hc3,hm,ht,ok,q⟩:=h
  refine ⟨_,Ad (Ay 5 sc_law_record (Bm Ab))
   (Ad (Ay 6 sc_law_record (A1 C__law_first hr.m (Aa (qv 3) (Aa (qv 5) Ab))))
   (Ad (Ay 7 sc_law_record (Bm (Aa (Ah (Aa (Ak K (qv 0) Ac) (Aa (qv 6) Ab))) Ab)))
   (Ad (Ay 8 sc_law_record (Ah (Aa Ac Ab)))
   (Ad (Dr Qj rfl (Zjd rfl T.range (Aa Ac (Aa (Au (B8 K) (qv 2) Ac) Ab))) (Bb (i:=9) sc_law_record.nd rfl (Or.inl rfl)) (Ad (Ay 6 sc_law_record (A1 C__law_joined hr.m (Aa Ar (Aa (Au (Gs K) (qv 8) (Ah (Aa Ac Ab))) (Aa (qv 6) (Aa (qv 6) (Aa (qv 5) Ab)))))))
   (Ad (Ay 7 sc_law_record (Au (B8 K) (qv 7) (Bm (Aa (Ah (Aa (A1 C__law_turned hr.m (Aa (qv 0) (Aa (qv 1) (Aa (qv 9) Ab)))) (Aa (qv 6) Ab))) Ab))))
   (Ag (Ay 8 sc_law_record (Au (Gs K) (qv 8) (Ah (Aa Ac Ab))))))))
   (Ad (Be (B2 K Po Py Pz B6 (qv 5) (Aa (Ah (Aa Ar (Aa (Au (Gs K) (qv 8) (Ah (Aa Ac Ab))) (Aa (Bm Ab) (Aa (qv 7) Ab))))) Ab)))
   (Ad (Be (B2 K Po Py Pz B6 (qv 5) (Aa (Ah (Aa Ar (Aa (qv 8) (Aa (Bm (Aa (qv 6) (Aa (Ah (Aa Ar (Aa (Au El (Bj (Df K) (by rfl) T.len (by decide +kernel) (Aa (qv 5) Ab)) Ac) Ab))) Ab))) (Aa (Bm Ab) Ab))))) Ab)))
   (Ag (Av (Ah (Aa (Ah (Aa Ar (Aa (Au El (Bj (Df K) (by rfl) T.len (by decide +kernel) (Aa (qv 5) Ab)) Ac) Ab))) (Aa (qv 5) (Aa (qv 4) Ab)))))))))))),?_⟩
  have bg:=big
  have fn:=F1.num ok
  have fl:=F1.len
  walk_at "r"
  refine ⟨A9,fun rd hrd=>?_⟩
  have s1:Same H (upd H rd (.lst [])):=Same.upd hrd
  have e1:upd H rd (.lst []) rd=some (.lst []):=Ae
  have D1:DueAt K H (upd H rd (.lst [])) rd []:=⟨[],e1,.nil⟩
  revert s1 e1 D1
  generalize upd H rd (.lst [])=H1
  intro s1 e1 D1
  walk_at "r"
  refine ⟨fv,rd,F1,H,rfl,s1,hrd,ht.same s1,ok,D1,fun tv H2 r2 D2 t2=>?_⟩
  have S2:Same H H2:=fun x o h=>r2 x o (fun z=>by rw [z,hrd] at h; cases h) (s1 _ _ h)
  have hp2:=S2.seq hp
  walk_at "r"
  refine Bp hp2 (Bc (j:=0) rfl) ?_
  walk_at "r"
  refine ⟨A3,fun a3 h3=>?_⟩
  obtain ⟨H3,s3,e3,z9⟩:=Aj h3 (.tup [.str n0,tv])
  rw [z9]
  walk_at "r"
  refine ⟨Cj,fun a4 h4=>?_⟩
  have s4:Same H3 (upd H3 a4 (.lst [.ref a3])):=Same.upd h4
  have e4:upd H3 a4 (.lst [.ref a3]) a4=some (.lst [.ref a3]):=Ae
  have n4:¬ (a4=rd\/H a4≠none):=by
   obtain ⟨rv,er,_⟩:=(D2.same s3).ex
   exact fr (S2.trans s3) er h4
  revert s4 e4
  generalize upd H3 a4 (.lst [.ref a3])=H4
  intro s4 e4
  walk_at "r"
  refine ⟨Cj,fun a5 h5=>?_⟩
  obtain ⟨H5,s5,e5,z9⟩:=Aj h5 (.tup [.int 1])
  rw [z9]
  have s25:=s3.trans (s4.trans s5)
  walk_at "r"
  unfold Zay
  walk_at "r"
  refine ⟨1,(m:Int) + 1,rfl,by omega,?_⟩
  have hn':((m:Int) + 1 - 1).toNat=m:=by omega
  rw [hn']
  refine F8 (n:=m) (fun i σ' H'=>∃ v9 tv e pa ev,σ'=[some (.ref p),some (.int c),some (.int (m:Nat)),some fv,some (.int st),some (.ref rd),some tv,some (.ref e),some (.ref pa),v9]/\Same H H'/\ThAt K H' tv (dG n0 [n0,n1,n2] c F1.g i).1/\DueAt K H H' rd (dG n0 [n0,n1,n2] c F1.g i).2.1/\H' e=some (.lst ev)/\Al (PrAt K H') ev (dG n0 [n0,n1,n2] c F1.g i).2.2/\¬ (e=rd\/H e≠none)/\H' pa=some (.tup (A0 ([1]++oo i)))) ⟨none,tv,a4,a5,_,rfl,S2.trans s25,ThAt.same s25.t _ _ t2,D2.same s25,s5 _ _ e4,Al.nil.snoc ⟨a3,tv,rfl,SqT.of ((s4.trans s5) _ _ e3),ThAt.same s25.t _ _ t2⟩,n4,by rw [e5]; rfl⟩ ?_ ?_
  ·rintro i σ' HA hi ⟨v9,tv,e,pa,ev,rfl,sA,tA,DA,eA,alA,neA,pA⟩
   obtain ⟨dl1,dl2⟩:=Fo (n0:=n0) (ns:=[n0,n1,n2]) (c:=c) (F:=F1.g) i
   have dn:=Zak (n0:=n0) (ns:=[n0,n1,n2]) (c:=c) fn i
   have eG:dG n0 [n0,n1,n2] c F1.g (i + 1)=((A4 "plus" ([1]++oo i++[0]) (dG n0 [n0,n1,n2] c F1.g i).2.1.length (dG n0 [n0,n1,n2] c F1.g i).1 (dG n0 [n0,n1,n2] c F1.g i).1).1,(dG n0 [n0,n1,n2] c F1.g i).2.1++(A4 "plus" ([1]++oo i++[0]) (dG n0 [n0,n1,n2] c F1.g i).2.1.length (dG n0 [n0,n1,n2] c F1.g i).1 (dG n0 [n0,n1,n2] c F1.g i).1).2,(dG n0 [n0,n1,n2] c F1.g i).2.2++[(tn [n0,n1,n2] c (1 + (i:Int)),(A4 "plus" ([1]++oo i++[0]) (dG n0 [n0,n1,n2] c F1.g i).2.1.length (dG n0 [n0,n1,n2] c F1.g i).1 (dG n0 [n0,n1,n2] c F1.g i).1).1)]):=rfl
   rw [eG]
   generalize dG n0 [n0,n1,n2] c F1.g i=G at *
   walk_at "r"
   refine ⟨Cj,fun b1 hb1=>?_⟩
   obtain ⟨HB,t1,f1,z9⟩:=Aj hb1 (.tup [.int 0])
   rw [z9]
   refine Hr (t1 _ _ pA) f1 (by unfold A0; rw [Pi,Pc,Zbu]; show 1 + i + 1<=_; omega) fun b2 HC t2 f2=>?_
   have t02:=t1.trans t2
   have f2:HC b2=some (.tup (A0 ([1]++oo i++[0]))):=by rw [f2,show [V.int 0]=[V.int ((0:Nat):Int)] from rfl,O3]
   walk_at "r"
   refine ⟨"plus",b2,rd,tv,tv,G.1,G.1,[1]++oo i++[0],G.2.1,H,rfl,sA.trans t02,.inl (by decide +kernel),f2,ThAt.same t02.t _ _ tA,ThAt.same t02.t _ _ tA,dn,dn,DA.same t02,by omega,fun jv HD rD DD tD=>?_⟩
   obtain ⟨rvC,erC,_⟩:=(DA.same t02).ex
   have tCD:SameT HC HD:=(rD.a erC).1
   have sD:Same H HD:=fun x o h=>rD x o (fun z=>by rw [z,hrd] at h; cases h) (t02 _ _ (sA _ _ h))
   have eD:=rD _ _ (fun z=>neA (.inl z)) (t02 _ _ eA)
   have alD:=alA.mono (PrAt.same (t02.t.trans tCD))
   have pD:=((t02.t.trans tCD) pa).1 _ pA
   have hpD:=sD.seq hp
   revert DD tD
   generalize A4 "plus" ([1]++oo i++[0]) G.2.1.length G.1 G.1=J
   intro DD tD
   have jl:=alD.1
   walk_at "r"
   refine ⟨p,[n0,n1,n2],c,1 + (i:Int),rfl,hpD,hc0,hc3,?_⟩
   walk_at "r"
   refine ⟨A3,fun b3 hb3=>?_⟩
   obtain ⟨HE,t3,f3,z9⟩:=Aj hb3 (.tup [.str (tn [n0,n1,n2] c (1 + (i:Int))),jv])
   rw [z9]
   walk_at "r"
   refine ⟨Cj,fun b4 hb4=>?_⟩
   obtain ⟨HF,t4,f4,z9⟩:=Aj hb4 (.lst [.ref b3])
   rw [z9]
   have t34:=t3.trans t4
   refine Ld (t34 _ _ eD) f4 (by show ev.length + 1<=_; omega) fun b5 hb5=>?_
   have t5:Same HF (upd HF b5 (.lst (ev++[.ref b3]))):=Same.upd hb5
   have f5:upd HF b5 (.lst (ev++[.ref b3])) b5=some (.lst (ev++[.ref b3])):=Ae
   have n5:¬ (b5=rd\/H b5≠none):=by
    obtain ⟨rv,er,_⟩:=(DD.same t34).ex
    exact fr (sD.trans t34) er hb5
   revert t5 f5
   generalize upd HF b5 (.lst (ev++[.ref b3]))=HG
   intro t5 f5
   have t35:=t34.trans t5
   walk_at "r"
   refine ⟨Cj,fun b6 hb6=>?_⟩
   obtain ⟨HI,t6,f6,z9⟩:=Aj hb6 (.tup [.int 1])
   rw [z9]
   have t36:=t35.trans t6
   refine Hr (t36 _ _ pD) f6 (by unfold A0; rw [Pi,Pc,Zbu]; show 1 + i + 1<=_; omega) fun b7 HJ t7 f7=>?_
   have t37:=t36.trans t7
   have f7:HJ b7=some (.tup (A0 ([1]++oo (i + 1)))):=by rw [f7,show [V.int 1]=[V.int ((1:Nat):Int)] from rfl,O3,Zg9]
   walk_at "r"
   exact ⟨_,jv,b5,b7,_,rfl,sD.trans t37,ThAt.same t37.t _ _ tD,DD.same t37,(t6.trans t7) _ _ f5,(alD.mono (PrAt.same t37.t)).snoc ⟨b3,jv,rfl,SqT.of ((t4.trans (t5.trans (t6.trans t7))) _ _ f3),ThAt.same t37.t _ _ tD⟩,n5,f7⟩
  ·rintro σ' HA ⟨v9,tv,e,pa,ev,rfl,sA,tA,DA,eA,alA,neA,pA⟩
   obtain ⟨dl1,dl2⟩:=Fo (n0:=n0) (ns:=[n0,n1,n2]) (c:=c) (F:=F1.g) m
   unfold B3 De at q
   generalize dG n0 [n0,n1,n2] c F1.g m=G at *
   obtain ⟨rv,er,ar⟩:=DA.ex
   have hrl:=ar.1
   walk_at "r"
   refine Br (SqL.of er) ?_
   walk_at "r"
   refine ⟨Cj,fun ag1 hg1=>?_⟩
   obtain ⟨Hg1,sg1,eg1,z9⟩:=Aj hg1 (.tup [.int 1])
   rw [z9]
   have Sg1:=sg1
   refine Hr (sg1 _ _ pA) eg1 (by unfold A0; rw [Pi,Pc,Zbu]; show 1 + m + 1<=_; omega) fun b2 HB t2 f2=>?_
   have f2:HB b2=some (.tup (A0 ([1]++oo m++[1]))):=by rw [f2,show [V.int 1]=[V.int ((1:Nat):Int)] from rfl,O3]
   have t02:=Sg1.trans t2
   walk_at "r"
   refine ⟨A9,fun ah1 hh1=>?_⟩
   obtain ⟨Hh1,sh1,eh1,z9⟩:=Aj hh1 (.lst [])
   rw [z9]
   have Sh1:=t02.trans sh1
   walk_at "r"
   refine ⟨Fa,fun ah2 hh2=>?_⟩
   obtain ⟨Hh2,sh2,eh2,z9⟩:=Aj hh2 (.tup [.str "gap",.ref b2,.ref ah1,.ref e])
   rw [z9]
   have Sh2:=Sh1.trans sh2
   have eh1:=sh2 _ _ eh1
   have er4:=Sh2 _ _ er
   have n1:=fr (sA.trans t02) (t02 _ _ er) hh1
   walk_at "r"
   refine B4 er4 (by omega) ?_
   have D5:=DueAt.add (x:=⟨"gap",As ([1]++oo m++[1]),[],G.2.2⟩) er4 (ar.mono (RwX.same Sh2.a)) ⟨⟨ah2,b2,ah1,e,[],ev,rfl,SqT.of eh2,by rw [Cv]; exact SqT.of ((sh1.trans sh2) _ _ f2),eh1,.nil,Sh2 _ _ eA,alA.mono (PrAt.same Sh2.t),n1,neA⟩,ah2,b2,ah1,e,rfl,SqT.of eh2,by rw [Cv]; exact (sh1.trans sh2) _ _ f2⟩
   have s5:Same H (upd Hh2 rd (.lst (rv++[.ref ah2]))):=(sA.trans Sh2).over hrd
   have e5:upd Hh2 rd (.lst (rv++[.ref ah2])) rd=some (.lst (rv++[.ref ah2])):=Ae
   have t5:SameT HA (upd Hh2 rd (.lst (rv++[.ref ah2]))):=Sh2.t.trans (SameT.set er4)
   revert D5 s5 e5 t5
   generalize upd Hh2 rd (.lst (rv++[.ref ah2]))=HC
   intro D5 s5 e5 t5
   obtain ⟨rv5,er5,ar5⟩:=D5.ex
   have erv:rv5=rv++[.ref ah2]:=by rw [e5] at er5; cases er5; rfl
   subst erv
   have tC:=ThAt.same t5 _ _ tA
   have pC:=(t5 pa).1 _ pA
   walk_at "r"
   refine Br (SqL.of e5) ?_
   walk_at "r"
   refine Dg (SqL.of e5) ?_
   have el:(((rv++[V.ref ah2]).length:Nat):Int) - 1=((G.2.1.length:Nat):Int):=by rw [Pc,Ph]; omega
   walk_at "r"
   rw [el]
   walk_at "r"
   refine ⟨A3,fun ak1 hk1=>?_⟩
   obtain ⟨Hk1,sk1,ek1,z9⟩:=Aj hk1 (.tup [.str "row",.int (G.2.1.length:Nat)])
   rw [z9]
   have Sk1:=sk1
   walk_at "r"
   refine ⟨A3,fun ak2 hk2=>?_⟩
   obtain ⟨Hk2,sk2,ek2,z9⟩:=Aj hk2 (.lst [tv,.ref ak1])
   rw [z9]
   have Sk2:=Sk1.trans sk2
   have ek1:=sk2 _ _ ek1
   walk_at "r"
   refine ⟨A9,fun ak3 hk3=>?_⟩
   obtain ⟨Hk3,sk3,ek3,z9⟩:=Aj hk3 (.lst [])
   rw [z9]
   have Sk3:=Sk2.trans sk3
   have ek1:=sk3 _ _ ek1
   have ek2:=sk3 _ _ ek2
   walk_at "r"
   refine ⟨Fa,fun ak4 hk4=>?_⟩
   obtain ⟨Hk4,sk4,ek4,z9⟩:=Aj hk4 (.tup [.str "plus",.ref pa,.ref ak2,.ref ak3])
   rw [z9]
   have Sk4:=Sk3.trans sk4
   have ek1:=sk4 _ _ ek1
   have ek2:=sk4 _ _ ek2
   have ek3:=sk4 _ _ ek3
   have er8:=Sk4 _ _ e5
   have n2:=fr (s5.trans sk1) (sk1 _ _ e5) hk2
   have n3:=fr (s5.trans (sk1.trans sk2)) ((sk1.trans sk2) _ _ e5) hk3
   walk_at "r"
   refine B4 er8 (by rw [Pc,Ph]; omega) ?_
   have D9:=DueAt.add (x:=⟨"plus",As ([1]++oo m),[G.1,Ax G.2.1.length],[]⟩) er8 (ar5.mono (RwX.same Sk4.a)) ⟨⟨ak4,pa,ak2,ak3,_,[],rfl,SqT.of ek4,by rw [Cv]; exact SqT.of (Sk4 _ _ pC),ek2,(Al.nil.snoc (ThAt.same Sk4.t _ _ tC)).snoc ⟨rfl,ak1,rfl,SqT.of ek1⟩,ek3,.nil,n2,n3⟩,ak4,pa,ak2,ak3,rfl,SqT.of ek4,by rw [Cv]; exact Sk4 _ _ pC⟩
   have s9:Same H (upd Hk4 rd (.lst (rv++[.ref ah2]++[.ref ak4]))):=(s5.trans Sk4).over hrd
   have e9:upd Hk4 rd (.lst (rv++[.ref ah2]++[.ref ak4])) rd=some (.lst (rv++[.ref ah2]++[.ref ak4])):=Ae
   revert D9 s9 e9
   generalize upd Hk4 rd (.lst (rv++[.ref ah2]++[.ref ak4]))=HD
   intro D9 s9 e9
   walk_at "r"
   refine Dg (SqL.of e9) ?_
   have el2:(((rv++[V.ref ah2]++[V.ref ak4]).length:Nat):Int) - 1=((G.2.1.length + 1:Nat):Int):=by simp only [Pc,Ph]; omega
   walk_at "r"
   rw [el2]
   walk_at "r"
   refine ⟨A3,fun al1 hl1=>?_⟩
   obtain ⟨Hl1,sl1,el1,z9⟩:=Aj hl1 (.tup [.str "row",.int ((G.2.1.length + 1:Nat):Int)])
   rw [z9]
   have Sl1:=sl1
   walk_at "r"
   refine ⟨Bd,fun al2 hl2=>?_⟩
   obtain ⟨Hl2,sl2,el2,z9⟩:=Aj hl2 (.tup [.ref al1,.ref rd,.int st])
   rw [z9]
   have Sl2:=Sl1.trans sl2
   have el1:=sl2 _ _ el1
   exact q _ rd _ _ (s9.trans Sl2) (SqT.of el2) ⟨rfl,al1,rfl,SqT.of el1⟩ (D9.same Sl2) hrd
theorem Dm {K:O7} {H:Hp} {a p:Addr} {w:Str} {n:V} (h1:H a=some (.tup [.str w,n,.ref p])) (h2:H p=some (.tup [])) (hn:Cu n=true):TrAt K H (.ref a) (Bq w n):=.mk (SqT.of h1) (.inl ⟨hn,rfl⟩) (SqT.of h2) rfl (fun j v t f1 f2=>nomatch f1)
theorem Ib {K:O7} {H:Hp} {a p:Addr} {w:Str} {u v:V} {s t:Tr} (h1:H a=some (.tup [.str w,.non,.ref p])) (h2:H p=some (.tup [u,v])) (hu:TrAt K H u s) (hv:TrAt K H v t):TrAt K H (.ref a) (twoT w s t):=.mk (SqT.of h1) (.inl ⟨rfl,rfl⟩) (SqT.of h2) rfl (fun j v t f1 f2=>by
 match j,f1,f2 with
 | 0,f1,f2=>cases f1; cases f2; exact hu
 | 1,f1,f2=>cases f1; cases f2; exact hv)
noncomputable def Zek (K:O7):Sp:=fun vs H Q _=>∃ (p:Addr) (f x z:Str) (n:Nat),vs=[.ref p,.int (n:Nat)]/\SqL K H p [.str f,.str x,.str z]/\n<=1000/\∀ v H',Same H H'->TrAt K H' v (Dd f x n)->Q v H'
theorem sc_law_endless:A2 ["_law_names_here", "_law_many", "_law_form", "_law_k"] ["_law_names_here", "_law_many"] (Az Kl):=by walk_at "sc"
theorem Zqn {f:Addr} {fd:FuncData} (F:Fun K "_law_endless" "_law_endless" Kl f fd) (T:Txt K mg):FnOk P w K mg base An 1 f fd ["_law_names_here", "_law_many"] (Zek K):=by
 refine F.okq sc_law_endless (fun vs H Q E h=>?_) (fun cdv A outer s H vs Q E hr h=>?_)
 ·obtain ⟨p,f,x,z,n,rfl,_⟩:=h
  rfl
 ·obtain ⟨p,nf,nx,nz,n,rfl,hp,hn,q⟩:=h
  refine ⟨_,Ad (Ay 2 sc_law_endless (Ah (Aa Ar (Aa Em (Aa (Ah (Aa (Ah (Aa Ar (Aa (Ak K (qv 0) Ac) (Aa (Ah Ab) Ab)))) (Aa (Ah (Aa Ar (Aa (Ak K (qv 0) Ac) (Aa (Ah Ab) Ab)))) Ab))) Ab)))))
   (Ad (Dr Qj rfl (Hy rfl T.range (Aa (qv 1) Ab)) (Bb (i:=3) sc_law_endless.nd rfl (Or.inl rfl)) (Ag (Ay 2 sc_law_endless (Ah (Aa Ar (Aa (Ak K (qv 0) Ac) (Aa (Ah (Aa (Ah (Aa Ar (Aa Em (Aa (Ah Ab) Ab)))) (Aa (qv 2) Ab))) Ab)))))))
   (Ag (Av (Ah (Aa Ar (Aa Em (Aa (Ah (Aa (Ah (Aa Ar (Aa (Ah (Aa (Ak K (qv 0) Ac) (Aa (Ak K (qv 0) Ac) Ab))) (Aa (Ah (Aa (qv 2) Ab)) Ab)))) (Aa (Ah (Aa Ar (Aa Ac (Aa (Ah Ab) Ab)))) Ab))) Ab))))))),?_⟩
  have bg:=big
  walk_at "r"
  refine Bp hp (Bc (j:=0) rfl) ?_
  walk_at "r"
  refine ⟨A9,fun a1 h1=>?_⟩
  obtain ⟨H1,s1,e1,z9⟩:=Aj h1 (.tup [])
  rw [z9]
  have S1:=s1
  have hp:=s1.seq hp
  walk_at "r"
  refine ⟨Bd,fun a2 h2=>?_⟩
  obtain ⟨H2,s2,e2,z9⟩:=Aj h2 (.tup [.str "name",.str nf,.ref a1])
  rw [z9]
  have S2:=S1.trans s2
  have hp:=s2.seq hp
  have e1:=s2 _ _ e1
  have TF:TrAt K H2 (.ref a2) (B1 nf):=Dm e2 e1 rfl
  walk_at "r"
  refine Bp hp (Bc (j:=1) rfl) ?_
  walk_at "r"
  refine ⟨A9,fun a3 h3=>?_⟩
  obtain ⟨H3,s3,e3,z9⟩:=Aj h3 (.tup [])
  rw [z9]
  have S3:=S2.trans s3
  have hp:=s3.seq hp
  have TF:=TF.same s3
  walk_at "r"
  refine ⟨Bd,fun a4 h4=>?_⟩
  obtain ⟨H4,s4,e4,z9⟩:=Aj h4 (.tup [.str "name",.str nx,.ref a3])
  rw [z9]
  have S4:=S3.trans s4
  have hp:=s4.seq hp
  have TF:=TF.same s4
  have e3:=s4 _ _ e3
  have TX:TrAt K H4 (.ref a4) (B1 nx):=Dm e4 e3 rfl
  walk_at "r"
  refine ⟨A3,fun a5 h5=>?_⟩
  obtain ⟨H5,s5,e5,z9⟩:=Aj h5 (.tup [.ref a2,.ref a4])
  rw [z9]
  have S5:=S4.trans s5
  have hp:=s5.seq hp
  have TF:=TF.same s5
  have TX:=TX.same s5
  walk_at "r"
  refine ⟨Bd,fun a6 h6=>?_⟩
  obtain ⟨H6,s6,e6,z9⟩:=Aj h6 (.tup [.str "call",.non,.ref a5])
  rw [z9]
  have S6:=S5.trans s6
  have hp:=s6.seq hp
  have TF:=TF.same s6
  have TX:=TX.same s6
  have e5:=s6 _ _ e5
  have TC:TrAt K H6 (.ref a6) (twoT "call" (B1 nf) (B1 nx)):=Ib e6 e5 TF TX
  walk_at "r"
  refine ⟨by omega,by omega,?_⟩
  refine F8 (n:=n) (fun i σ' H'=>∃ v3 tv,σ'=[some (.ref p),some (.int (n:Nat)),some tv,v3]/\Same H6 H'/\TrAt K H' tv (Dl nx (twoT "call" (B1 nf) (B1 nx)) i)) ⟨none,.ref a6,rfl,Same.refl _,TC⟩ ?_ ?_
  ·rintro i σ' HA hi ⟨v3,tv,rfl,sA,tA⟩
   have hA:=sA.seq hp
   walk_at "r"
   refine Bp hA (Bc (j:=1) rfl) ?_
   walk_at "r"
   refine ⟨A9,fun ai1 hi1=>?_⟩
   obtain ⟨Hi1,si1,ei1,z9⟩:=Aj hi1 (.tup [])
   rw [z9]
   have Si1:=sA.trans si1
   have hA:=si1.seq hA
   have tA:=tA.same si1
   walk_at "r"
   refine ⟨Bd,fun ai2 hi2=>?_⟩
   obtain ⟨Hi2,si2,ei2,z9⟩:=Aj hi2 (.tup [.str "gap",.non,.ref ai1])
   rw [z9]
   have Si2:=Si1.trans si2
   have hA:=si2.seq hA
   have tA:=tA.same si2
   have ei1:=si2 _ _ ei1
   have TG:TrAt K Hi2 (.ref ai2) (Bq "gap" .non):=Dm ei2 ei1 rfl
   walk_at "r"
   refine ⟨A3,fun ai3 hi3=>?_⟩
   obtain ⟨Hi3,si3,ei3,z9⟩:=Aj hi3 (.tup [.ref ai2,tv])
   rw [z9]
   have Si3:=Si2.trans si3
   have hA:=si3.seq hA
   have tA:=tA.same si3
   have TG:=TG.same si3
   walk_at "r"
   refine ⟨Bd,fun ai4 hi4=>?_⟩
   obtain ⟨Hi4,si4,ei4,z9⟩:=Aj hi4 (.tup [.str "let",.str nx,.ref ai3])
   rw [z9]
   have Si4:=Si3.trans si4
   have hA:=si4.seq hA
   have tA:=tA.same si4
   have TG:=TG.same si4
   have ei3:=si4 _ _ ei3
   refine ⟨_,.ref ai4,rfl,Si4,?_⟩
   exact .mk (SqT.of ei4) (.inl ⟨rfl,rfl⟩) (SqT.of ei3) rfl (fun j v t f1 f2=>by
    match j,f1,f2 with
    | 0,f1,f2=>cases f1; cases f2; exact TG
    | 1,f1,f2=>cases f1; cases f2; exact tA)
  ·rintro σ' HA ⟨v3,tv,rfl,sA,tA⟩
   have hA:=sA.seq hp
   have SA:=S6.trans sA
   walk_at "r"
   refine Bp hA (Bc (j:=0) rfl) ?_
   walk_at "r"
   refine Bp hA (Bc (j:=1) rfl) ?_
   walk_at "r"
   refine ⟨A3,fun aj1 hj1=>?_⟩
   obtain ⟨Hj1,sj1,ej1,z9⟩:=Aj hj1 (.tup [.str nf,.str nx])
   rw [z9]
   have Sj1:=SA.trans sj1
   have hA:=sj1.seq hA
   have tA:=tA.same sj1
   walk_at "r"
   refine ⟨Cj,fun aj2 hj2=>?_⟩
   obtain ⟨Hj2,sj2,ej2,z9⟩:=Aj hj2 (.tup [tv])
   rw [z9]
   have Sj2:=Sj1.trans sj2
   have hA:=sj2.seq hA
   have tA:=tA.same sj2
   have ej1:=sj2 _ _ ej1
   walk_at "r"
   refine ⟨Bd,fun aj3 hj3=>?_⟩
   obtain ⟨Hj3,sj3,ej3,z9⟩:=Aj hj3 (.tup [.str "rec",.ref aj1,.ref aj2])
   rw [z9]
   have Sj3:=Sj2.trans sj3
   have hA:=sj3.seq hA
   have tA:=tA.same sj3
   have ej1:=sj3 _ _ ej1
   have ej2:=sj3 _ _ ej2
   have TR:TrAt K Hj3 (.ref aj3) (Ms nf nx (Dl nx (twoT "call" (B1 nf) (B1 nx)) n)):=.mk (SqT.of ej3) (.inr ⟨_,[.str nf,.str nx],rfl,SqT.of ej1,rfl,rfl⟩) (SqT.of ej2) rfl (fun j v t f1 f2=>by
    match j,f1,f2 with
    | 0,f1,f2=>cases f1; cases f2; exact tA)
   walk_at "r"
   refine ⟨A9,fun aj4 hj4=>?_⟩
   obtain ⟨Hj4,sj4,ej4,z9⟩:=Aj hj4 (.tup [])
   rw [z9]
   have Sj4:=Sj3.trans sj4
   have hA:=sj4.seq hA
   have tA:=tA.same sj4
   have TR:=TR.same sj4
   walk_at "r"
   refine ⟨Bd,fun aj5 hj5=>?_⟩
   obtain ⟨Hj5,sj5,ej5,z9⟩:=Aj hj5 (.tup [.str "num",.int 1,.ref aj4])
   rw [z9]
   have Sj5:=Sj4.trans sj5
   have hA:=sj5.seq hA
   have tA:=tA.same sj5
   have TR:=TR.same sj5
   have ej4:=sj5 _ _ ej4
   have TN:TrAt K Hj5 (.ref aj5) (N2 1):=Dm ej5 ej4 rfl
   walk_at "r"
   refine ⟨A3,fun aj6 hj6=>?_⟩
   obtain ⟨Hj6,sj6,ej6,z9⟩:=Aj hj6 (.tup [.ref aj3,.ref aj5])
   rw [z9]
   have Sj6:=Sj5.trans sj6
   have hA:=sj6.seq hA
   have tA:=tA.same sj6
   have TR:=TR.same sj6
   have TN:=TN.same sj6
   walk_at "r"
   refine ⟨Bd,fun aj7 hj7=>?_⟩
   obtain ⟨Hj7,sj7,ej7,z9⟩:=Aj hj7 (.tup [.str "call",.non,.ref aj6])
   rw [z9]
   have Sj7:=Sj6.trans sj7
   have hA:=sj7.seq hA
   have tA:=tA.same sj7
   have TR:=TR.same sj7
   have TN:=TN.same sj7
   have ej6:=sj7 _ _ ej6
   have TW:TrAt K Hj7 (.ref aj7) (Dd nf nx n):=Ib ej7 ej6 TR TN
   exact q _ _ Sj7 TW
noncomputable def dT (ns:List Str) (c:Int) (m:Nat):Nat->Tr
 | 0=>twoT "plus" (B1 (tn ns c m)) (Bq "gap" .non)
 | r + 1=>.mk "let" (.flat (.str (tn ns c ((m:Int) - r)))) [twoT "plus" (B1 (tn ns c ((m:Int) - r - 1))) (B1 (tn ns c ((m:Int) - r - 1))),dT ns c m r]
noncomputable def wT (n0:Str) (ns:List Str) (c:Int) (m:Nat) (fr:Tr):Tr:=.mk "let" (.flat (.str n0)) [fr,dT ns c m m]
noncomputable def Zho (K:O7):Sp:=fun vs H Q _=>∃ (p:Addr) (n0 n1 n2:Str) (c:Int) (m:Nat),vs=[.ref p,.int c,.int (m:Nat)]/\SqL K H p [.str n0,.str n1,.str n2]/\0 < c/\c<=3/\m<=100/\∀ v H',Same H H'->TrAt K H' v (wT n0 [n0,n1,n2] c m (Bq "gap" .non))->Q v H'
theorem Zb6 {K:O7} {H:Hp} {a p:Addr} {z:Str} {u v:V} {s t:Tr} (h1:H a=some (.tup [.str "let",.str z,.ref p])) (h2:H p=some (.tup [u,v])) (hu:TrAt K H u s) (hv:TrAt K H v t):TrAt K H (.ref a) (.mk "let" (.flat (.str z)) [s,t]):=.mk (SqT.of h1) (.inl ⟨rfl,rfl⟩) (SqT.of h2) rfl (fun j v t f1 f2=>by
 match j,f1,f2 with
 | 0,f1,f2=>cases f1; cases f2; exact hu
 | 1,f1,f2=>cases f1; cases f2; exact hv)
theorem sc_law_tree:A2 ["_law_names_here", "_law_count", "_law_many", "_law_last", "_law_tree_here", "_law_k", "_law_ahead"] ["_law_names_here", "_law_count", "_law_many"] (Az Ky):=by walk_at "sc"
theorem Zlc {f:Addr} {fd:FuncData} (F:Fun K "_law_tree" "_law_tree" Ky f fd) (T:Txt K mg) (C__law_turned:A8 P w K mg base 1 "_law_turned" ["_law_names_here", "_law_count", "_law_k"] (Ol K)):FnOk P w K mg base An 2 f fd ["_law_names_here", "_law_count", "_law_many"] (Zho K):=by
 refine F.okq sc_law_tree (fun vs H Q E h=>?_) (fun cdv A outer s H vs Q E hr h=>?_)
 ·obtain ⟨p,n0,n1,n2,c,m,rfl,_⟩:=h
  rfl
 ·obtain ⟨p,n0,n1,n2,c,m,rfl,hp,hc0,hc3,hm,q⟩:=h
  refine ⟨_,Ad (Ay 3 sc_law_tree (Ah (Aa Ar (Aa (A1 C__law_turned hr.m (Aa (qv 0) (Aa (qv 1) (Aa (qv 2) Ab)))) (Aa (Ah Ab) Ab)))))
   (Ad (Ay 4 sc_law_tree (Ah (Aa Ar (Aa Em (Aa (Ah (Aa (qv 3) (Aa (Ah (Aa Ar (Aa Em (Aa (Ah Ab) Ab)))) Ab))) Ab)))))
   (Ad (Dr Qj rfl (Zo8 rfl T.range (Aa (qv 2) (Aa Ac (Aa (Hd Hl Ac) Ab)))) (Bb (i:=5) sc_law_tree.nd rfl (Or.inl rfl)) (Ad (Ay 6 sc_law_tree (Ah (Aa Ar (Aa (A1 C__law_turned hr.m (Aa (qv 0) (Aa (qv 1) (Aa (Au El (qv 5) Ac) Ab)))) (Aa (Ah Ab) Ab)))))
   (Ag (Ay 4 sc_law_tree (Ah (Aa Ar (Aa (A1 C__law_turned hr.m (Aa (qv 0) (Aa (qv 1) (Aa (qv 5) Ab)))) (Aa (Ah (Aa (Ah (Aa Ar (Aa Em (Aa (Ah (Aa (qv 6) (Aa (qv 6) Ab))) Ab)))) (Aa (qv 4) Ab))) Ab))))))))
   (Ag (Av (Ah (Aa Ar (Aa (Ak K (qv 0) Ac) (Aa (Ah (Aa (Ah (Aa Ar (Aa Em (Aa (Ah Ab) Ab)))) (Aa (qv 4) Ab))) Ab)))))))),?_⟩
  have bg:=big
  walk_at "r"
  refine ⟨p,[n0,n1,n2],c,(m:Nat),rfl,hp,hc0,hc3,?_⟩
  walk_at "r"
  refine ⟨A9,fun a1 h1=>?_⟩
  obtain ⟨H1,s1,e1,z9⟩:=Aj h1 (.tup [])
  rw [z9]
  have S1:=s1
  have hp:=s1.seq hp
  walk_at "r"
  refine ⟨Bd,fun a2 h2=>?_⟩
  obtain ⟨H2,s2,e2,z9⟩:=Aj h2 (.tup [.str "name",.str (tn [n0,n1,n2] c (m:Nat)),.ref a1])
  rw [z9]
  have S2:=S1.trans s2
  have hp:=s2.seq hp
  have e1:=s2 _ _ e1
  have TL:TrAt K H2 (.ref a2) (B1 (tn [n0,n1,n2] c m)):=Dm e2 e1 rfl
  walk_at "r"
  refine ⟨A9,fun a3 h3=>?_⟩
  obtain ⟨H3,s3,e3,z9⟩:=Aj h3 (.tup [])
  rw [z9]
  have S3:=S2.trans s3
  have hp:=s3.seq hp
  have TL:=TL.same s3
  walk_at "r"
  refine ⟨Bd,fun a4 h4=>?_⟩
  obtain ⟨H4,s4,e4,z9⟩:=Aj h4 (.tup [.str "gap",.non,.ref a3])
  rw [z9]
  have S4:=S3.trans s4
  have hp:=s4.seq hp
  have TL:=TL.same s4
  have e3:=s4 _ _ e3
  have TG:TrAt K H4 (.ref a4) (Bq "gap" .non):=Dm e4 e3 rfl
  walk_at "r"
  refine ⟨A3,fun a5 h5=>?_⟩
  obtain ⟨H5,s5,e5,z9⟩:=Aj h5 (.tup [.ref a2,.ref a4])
  rw [z9]
  have S5:=S4.trans s5
  have hp:=s5.seq hp
  have TL:=TL.same s5
  have TG:=TG.same s5
  walk_at "r"
  refine ⟨Bd,fun a6 h6=>?_⟩
  obtain ⟨H6,s6,e6,z9⟩:=Aj h6 (.tup [.str "plus",.non,.ref a5])
  rw [z9]
  have S6:=S5.trans s6
  have hp:=s6.seq hp
  have TL:=TL.same s6
  have TG:=TG.same s6
  have e5:=s6 _ _ e5
  have T0:TrAt K H6 (.ref a6) (dT [n0,n1,n2] c m 0):=Ib e6 e5 TL TG
  walk_at "r"
  refine ⟨by omega,?_⟩
  have hn':((m:Int) - 0).toNat=m:=by omega
  rw [hn']
  refine Zp2 (n:=m) (fun i σ' H'=>∃ v5 v6 tv,σ'=[some (.ref p),some (.int c),some (.int (m:Nat)),some (.ref a2),some tv,v5,v6]/\Same H6 H'/\TrAt K H' tv (dT [n0,n1,n2] c m i)) ⟨none,none,.ref a6,rfl,Same.refl _,T0⟩ ?_ ?_
  ·rintro i σ' HA hi ⟨v5,v6,tv,rfl,sA,tA⟩
   have hA:=sA.seq hp
   walk_at "r"
   refine ⟨p,[n0,n1,n2],c,((m:Int) - i - 1),rfl,hA,hc0,hc3,?_⟩
   walk_at "r"
   refine ⟨A9,fun ai1 hi1=>?_⟩
   obtain ⟨Hi1,si1,ei1,z9⟩:=Aj hi1 (.tup [])
   rw [z9]
   have Si1:=sA.trans si1
   have hA:=si1.seq hA
   have tA:=tA.same si1
   walk_at "r"
   refine ⟨Bd,fun ai2 hi2=>?_⟩
   obtain ⟨Hi2,si2,ei2,z9⟩:=Aj hi2 (.tup [.str "name",.str (tn [n0,n1,n2] c ((m:Int) - i - 1)),.ref ai1])
   rw [z9]
   have Si2:=Si1.trans si2
   have hA:=si2.seq hA
   have tA:=tA.same si2
   have ei1:=si2 _ _ ei1
   have TX:TrAt K Hi2 (.ref ai2) (B1 (tn [n0,n1,n2] c ((m:Int) - i - 1))):=Dm ei2 ei1 rfl
   walk_at "r"
   refine ⟨p,[n0,n1,n2],c,((m:Int) - i),rfl,hA,hc0,hc3,?_⟩
   walk_at "r"
   refine ⟨A3,fun ai3 hi3=>?_⟩
   obtain ⟨Hi3,si3,ei3,z9⟩:=Aj hi3 (.tup [.ref ai2,.ref ai2])
   rw [z9]
   have Si3:=Si2.trans si3
   have hA:=si3.seq hA
   have tA:=tA.same si3
   have TX:=TX.same si3
   walk_at "r"
   refine ⟨Bd,fun ai4 hi4=>?_⟩
   obtain ⟨Hi4,si4,ei4,z9⟩:=Aj hi4 (.tup [.str "plus",.non,.ref ai3])
   rw [z9]
   have Si4:=Si3.trans si4
   have hA:=si4.seq hA
   have tA:=tA.same si4
   have TX:=TX.same si4
   have ei3:=si4 _ _ ei3
   have TP:TrAt K Hi4 (.ref ai4) (twoT "plus" (B1 (tn [n0,n1,n2] c ((m:Int) - i - 1))) (B1 (tn [n0,n1,n2] c ((m:Int) - i - 1)))):=Ib ei4 ei3 TX TX
   walk_at "r"
   refine ⟨A3,fun ai5 hi5=>?_⟩
   obtain ⟨Hi5,si5,ei5,z9⟩:=Aj hi5 (.tup [.ref ai4,tv])
   rw [z9]
   have Si5:=Si4.trans si5
   have hA:=si5.seq hA
   have tA:=tA.same si5
   have TX:=TX.same si5
   have TP:=TP.same si5
   walk_at "r"
   refine ⟨Bd,fun ai6 hi6=>?_⟩
   obtain ⟨Hi6,si6,ei6,z9⟩:=Aj hi6 (.tup [.str "let",.str (tn [n0,n1,n2] c ((m:Int) - i)),.ref ai5])
   rw [z9]
   have Si6:=Si5.trans si6
   have hA:=si6.seq hA
   have tA:=tA.same si6
   have TX:=TX.same si6
   have TP:=TP.same si6
   have ei5:=si6 _ _ ei5
   exact ⟨_,_,.ref ai6,rfl,Si6,Zb6 ei6 ei5 TP tA⟩
  ·rintro σ' HA ⟨v5,v6,tv,rfl,sA,tA⟩
   have hA:=sA.seq hp
   have SA:=S6.trans sA
   walk_at "r"
   refine Bp hA (Bc (j:=0) rfl) ?_
   walk_at "r"
   refine ⟨A9,fun aj1 hj1=>?_⟩
   obtain ⟨Hj1,sj1,ej1,z9⟩:=Aj hj1 (.tup [])
   rw [z9]
   have Sj1:=SA.trans sj1
   have hA:=sj1.seq hA
   have tA:=tA.same sj1
   walk_at "r"
   refine ⟨Bd,fun aj2 hj2=>?_⟩
   obtain ⟨Hj2,sj2,ej2,z9⟩:=Aj hj2 (.tup [.str "gap",.non,.ref aj1])
   rw [z9]
   have Sj2:=Sj1.trans sj2
   have hA:=sj2.seq hA
   have tA:=tA.same sj2
   have ej1:=sj2 _ _ ej1
   have TH:TrAt K Hj2 (.ref aj2) (Bq "gap" .non):=Dm ej2 ej1 rfl
   walk_at "r"
   refine ⟨A3,fun aj3 hj3=>?_⟩
   obtain ⟨Hj3,sj3,ej3,z9⟩:=Aj hj3 (.tup [.ref aj2,tv])
   rw [z9]
   have Sj3:=Sj2.trans sj3
   have hA:=sj3.seq hA
   have tA:=tA.same sj3
   have TH:=TH.same sj3
   walk_at "r"
   refine ⟨Bd,fun aj4 hj4=>?_⟩
   obtain ⟨Hj4,sj4,ej4,z9⟩:=Aj hj4 (.tup [.str "let",.str n0,.ref aj3])
   rw [z9]
   have Sj4:=Sj3.trans sj4
   have hA:=sj4.seq hA
   have tA:=tA.same sj4
   have TH:=TH.same sj4
   have ej3:=sj4 _ _ ej3
   exact q _ _ Sj4 (Zb6 ej4 ej3 TH tA)
end
end K57
namespace K57
open PySem L2
theorem Zfw (ns:List Str) (c:Int) (m:Nat) (q:List Nat):∀ k r:Nat,k<=r->Bo (dT ns c m r) (oo k++q)=Bo (dT ns c m (r - k)) q
 | 0,r,_=>rfl
 | k + 1,0,h=>by omega
 | k + 1,r + 1,h=>by
  have ih:=Zfw ns c m q k r (by omega)
  rw [show r + 1 - (k + 1)=r - k by omega,<- ih]
  conv=>lhs; unfold dT
  rw [show oo (k + 1)=1 :: oo k from rfl,Sg,Cp]
  rfl
theorem Zgs (n0:Str) (ns:List Str) (c:Int) (m:Nat) (fr:Tr) (k:Nat) (q:List Nat) (h:k<=m):Bo (wT n0 ns c m fr) ([1]++oo k++q)=Bo (dT ns c m (m - k)) q:=by
 unfold wT
 rw [show [1]++oo k++q=1 :: (oo k++q) from rfl,Cp]
 exact Zfw ns c m q k m h
theorem Zcv (n0:Str) (ns:List Str) (c:Int) (m:Nat) (fr:Tr) (q:List Nat):Bo (wT n0 ns c m fr) ([0]++q)=Bo fr q:=by
 unfold wT
 rw [show [0]++q=0 :: q from rfl,Cp]
 rfl
theorem Zdc (n0:Str) (ns:List Str) (c:Int) (m:Nat) (fr:Tr) (k:Nat) (h:k < m):B9 (wT n0 ns c m fr) ([1]++oo k++[0])=fm "plus" (.flat .non):=by
 rw [Ee,Zgs _ _ _ _ _ _ _ (by omega)]
 obtain ⟨r,hr⟩:∃ r,m - k=r + 1:=⟨m - k - 1,by omega⟩
 rw [hr]
 unfold dT
 rw [Cp]
 simp only [Q0,Qa,C3]
 rfl
theorem Zgm (n0:Str) (ns:List Str) (c:Int) (m:Nat) (fr:Tr):B9 (wT n0 ns c m fr) ([1]++oo m)=fm "plus" (.flat .non):=by
 have h:=Zgs n0 ns c m fr m [] (Pa _)
 rw [P5] at h
 rw [Ee,h,Rs,C3]
 unfold dT
 rfl
theorem Zlo {bc Y:List (Str×V)} {x:Str×V} (h:NowOk bc.length x):Cc (bc++Y) x=Cc bc x:=by
 unfold Cc
 by_cases e:x.1 = "row"
 ·obtain ⟨k,h1,h2⟩:=h e
  rw [if_pos e,if_pos e,h1]
  simp only [Rf]
  rw [P0 h2]
 ·rw [if_neg e,if_neg e]
theorem Zl2 {bc Y:List (Str×V)} {ar:List (Str×Str×V)} (h:∀ y∈ar,NowOk bc.length y.2):C4 (bc++Y) ar=C4 bc ar:=by
 unfold C4
 refine List.map_congr_left fun y hy=>?_
 rw [Zlo (h y hy)]
theorem NowOk.mono {n n':Nat} {x:Str×V} (h:NowOk n x) (hn:n<=n'):NowOk n' x:=fun e=>by
 obtain ⟨k,h1,h2⟩:=h e
 exact ⟨k,h1,by omega⟩
theorem G4 {k n:Nat} (h:k < n):NowOk n (Ax k):=fun _=>⟨k,rfl,h⟩
theorem Gp {bc:List (Str×V)} {k:Nat} {x:Str×V} (h:bc[k]?=some x):Cc bc (Ax k)=x:=by
 unfold Cc
 rw [if_pos (show (Ax k).1 = "row" from rfl)]
 show (bc[((k:Nat):Int).toNat]?).getD _=x
 rw [Rf,h]
 rfl
theorem Zfe {a b:List Nat} (h:As a=As b):a=b:=by
 unfold As at h
 induction a generalizing b with
 | nil=>cases b with
  | nil=>rfl
  | cons y r=>simp at h
 | cons x l ih=>cases b with
  | nil=>simp at h
  | cons y r =>
   simp only [Qq,V7] at h
   rw [ih h.2,show x=y by omega]
theorem GoG.app {sub:List Nat->Option (Str×Dt)} {fl:List Nat} {rs rs':List Rx} {bc bc1 bc2:List (Str×V)} {S S1 S2:MS} (h:GoG sub fl rs bc S bc1 S1) (h':GoG sub fl rs' bc1 S1 bc2 S2):GoG sub fl (rs++rs') bc S bc2 S2:=by
 induction h with
 | nil=>exact h'
 | cons a b c d e ih=>exact .cons a b c d (ih h')
theorem RowOk.more {rs l:List Rx} {x:Str×V} (h:RowOk rs x):RowOk (rs++l) x:=fun e=>by
 obtain ⟨k,h1,h2⟩:=h e
 exact ⟨k,h1,by rw [Pc]; omega⟩
theorem Zb7 {pl:List Nat} {rs:List Rx} {x y:Str×V}:RowOk (rs++(A4 "plus" pl rs.length x y).2) (A4 "plus" pl rs.length x y).1:=by
 unfold A4
 split
 ·unfold Er
  rw [if_pos rfl]
  exact fun e=>absurd (show ("num" : Str) = "row" from e) (by decide +kernel)
 ·exact fun _=>⟨rs.length,rfl,by simp⟩
theorem Zal {sub:List Nat->Option (Str×Dt)} {fl pl:List Nat} {bc:List (Str×V)} {rows:List Rx} {st:Int} {x y x' y':Str×V} (hs:sub pl=fm "plus" (.flat .non)) (hf:pl≠fl) (hl:rows.length<=1000) (h5:st<=500) (ox:NowOk bc.length x) (oy:NowOk bc.length y) (ex:Cc bc x=x') (ey:Cc bc y=y') (rx:RowOk rows x') (nx:Cr x') (ny:Cr y') :
  GoG sub fl [⟨"plus",As pl,[x,y],[]⟩] bc ⟨rows,[],[],st⟩ (bc++[(A4 "plus" pl rows.length x' y').1]) ⟨rows++(A4 "plus" pl rows.length x' y').2,[],[],st⟩:=by
 have ok:F0 bc.length ⟨"plus",As pl,[x,y],[]⟩:=by
  refine ⟨fun z hz=>?_,fun z h=>(nomatch h),by show 2<=1000; decide,Pu _⟩
  simp only [Pm,P9,or_false] at hz
  rcases hz with rfl | rfl
  ·exact ox
  ·exact oy
 refine .cons (by show rows.length < 9000; omega) (by show 0 < 8000; decide) ok (S1:=⟨rows++(A4 "plus" pl rows.length x' y').2,[],[],st⟩) (x:=(A4 "plus" pl rows.length x' y').1) ?_ .nil
 obtain ⟨n,R⟩:=(Zc7 (sub:=sub) (rs:=rows) (w:=[]) (th:=[]) (st:=st) (ar:=[]) (x:=x') (y:=y') hs (by decide +kernel) rx nx ny (by decide) (by simp; omega)).fine rfl h5
 have R':RunM sub n ⟨rows,[]++[⟨pl,C4 bc (⟨"plus",As pl,[x,y],[]⟩:Rx).ar,true⟩],[]++Gb bc (⟨"plus",As pl,[x,y],[]⟩:Rx).ops,st⟩ ⟨rows++(A4 "plus" pl rows.length x' y').2,[],[]++[(A4 "plus" pl rows.length x' y').1],st⟩:=by
  rw [show Gb bc (⟨"plus",As pl,[x,y],[]⟩:Rx).ops=[x',y'] by show [Cc bc x,Cc bc y]=_; rw [ex,ey]]
  exact R
 exact RowG.parts (pl:=pl) (S':=⟨rows++(A4 "plus" pl rows.length x' y').2,[],[]++[(A4 "plus" pl rows.length x' y').1],st⟩) (th:=[]) (x:=(A4 "plus" pl rows.length x' y').1) rfl (fun z=>hf (Zfe z)) (by show (Bf "plus").isSome=true; decide +kernel) R' rfl
end K57
namespace K57
open PySem L2
theorem Zf5 (pl:List Nat) (L a:Nat) (y:Str×V):A4 "plus" pl L (Ax a) y=(Ax L,[⟨"plus",As pl,[Ax a,y],[]⟩]):=by
 unfold A4
 rw [if_neg (fun z=>absurd (show ("row" : Str) = "num" from z.2.1) (by decide +kernel))]
theorem Zcd (pl:List Nat) (L a:Nat) (x:Str×V):A4 "plus" pl L x (Ax a)=(Ax L,[⟨"plus",As pl,[x,Ax a],[]⟩]):=by
 unfold A4
 rw [if_neg (fun z=>absurd (show ("row" : Str) = "num" from z.2.2) (by decide +kernel))]
section
variable {n0:Str} {ns:List Str} {c:Int} {F F':(Str×V)×List Rx} {o m:Nat} {sub:List Nat->Option (Str×Dt)} {fl:List Nat} {bc0:List (Str×V)} {st:Int} {S0:MS}
theorem Mp (h1:F.1=Ax o) (h2:F.2.length=o + 1):∀ k,(dG n0 ns c F k).1=Ax (o + k)/\(dG n0 ns c F k).2.1.length=o + 1 + k/\∀ y∈(dG n0 ns c F k).2.2,NowOk (o + 1 + k) y.2
 | 0=>by
  refine ⟨h1,h2,fun y hy=>?_⟩
  have hy:y∈[(n0,F.1)]:=hy
  rw [Qt] at hy
  subst hy
  show NowOk _ F.1
  rw [h1]
  exact G4 (by omega)
 | k + 1=>by
  obtain ⟨i1,i2,i3⟩:=Mp h1 h2 k
  have e:A4 "plus" ([1]++oo k++[0]) (dG n0 ns c F k).2.1.length (dG n0 ns c F k).1 (dG n0 ns c F k).1=(Ax (o + (k + 1)),[⟨"plus",As ([1]++oo k++[0]),[Ax (o + k),Ax (o + k)],[]⟩]):=by
   rw [i1,i2,Zf5,show o + 1 + k=o + (k + 1) by omega]
  unfold dG
  rw [e]
  refine ⟨rfl,?_,fun y hy=>?_⟩
  ·show ((dG n0 ns c F k).2.1++[_]).length=_
   rw [Pc,i2]
   rfl
  ·rcases Qu.mp hy with h | h
   ·exact (i3 y h).mono (by omega)
   ·rw [Qt] at h
    subst h
    exact G4 (by omega)
theorem Zl8 (h1:F.1=Ax o) (h2:F.2.length=o + 1) (k:Nat):(dG n0 ns c F (k + 1)).2.1=(dG n0 ns c F k).2.1++[⟨"plus",As ([1]++oo k++[0]),[Ax (o + k),Ax (o + k)],[]⟩]/\(dG n0 ns c F (k + 1)).2.2=(dG n0 ns c F k).2.2++[(tn ns c (1 + (k:Int)),Ax (o + 1 + k))]:=by
 obtain ⟨i1,i2,i3⟩:=Mp (n0:=n0) (ns:=ns) (c:=c) h1 h2 k
 have e:A4 "plus" ([1]++oo k++[0]) (dG n0 ns c F k).2.1.length (dG n0 ns c F k).1 (dG n0 ns c F k).1=(Ax (o + 1 + k),[⟨"plus",As ([1]++oo k++[0]),[Ax (o + k),Ax (o + k)],[]⟩]):=by
  rw [i1,i2,Zf5]
 constructor
 ·conv=>lhs; unfold dG
  rw [e]
 ·conv=>lhs; unfold dG
  rw [e]
theorem Ze3 (hs:∀ k,k < m->sub ([1]++oo k++[0])=fm "plus" (.flat .non)) (hf:∀ q,1 :: q≠fl) (h1:F.1=Ax o) (h2:F.2.length=o + 1) (G0:GoG sub fl F.2 [] S0 bc0 ⟨F'.2,[],[],st⟩) (l0:bc0.length=o + 1) (e0:bc0[o]?=some F'.1) (r0:RowOk F'.2 F'.1) (q0:Cr F'.1) (hl:F'.2.length<=900) (hm:m<=60) (h5:st<=500) :
  ∀ k,k<=m->∃ bc,GoG sub fl (dG n0 ns c F k).2.1 [] S0 bc ⟨(dG n0 ns c F' k).2.1,[],[],st⟩/\bc.length=o + 1 + k/\bc[o + k]?=some (dG n0 ns c F' k).1/\RowOk (dG n0 ns c F' k).2.1 (dG n0 ns c F' k).1/\C4 bc (dG n0 ns c F k).2.2=(dG n0 ns c F' k).2.2
 | 0,_=>by
  refine ⟨bc0,G0,l0,e0,r0,?_⟩
  show [(n0,Cc bc0 F.1)]=[(n0,F'.1)]
  rw [h1,Gp e0]
 | k + 1,hk=>by
  obtain ⟨bc,G,lb,eb,rb,ab⟩:=Ze3 hs hf h1 h2 G0 l0 e0 r0 q0 hl hm h5 k (by omega)
  have nb:Cr (dG n0 ns c F' k).1:=Zak q0 k
  obtain ⟨s1,s2⟩:=Zl8 (n0:=n0) (ns:=ns) (c:=c) h1 h2 k
  obtain ⟨_,_,i3⟩:=Mp (n0:=n0) (ns:=ns) (c:=c) h1 h2 k
  have lk:=(Fo (n0:=n0) (ns:=ns) (c:=c) (F:=F') k).1
  have ok:NowOk bc.length (Ax (o + k)):=G4 (by omega)
  have en:=Gp eb
  have gp:=Zal (sub:=sub) (fl:=fl) (pl:=[1]++oo k++[0]) (bc:=bc) (rows:=(dG n0 ns c F' k).2.1) (st:=st) (hs k (by omega)) (hf _) (by omega) h5 ok ok en en rb nb nb
  have eD:(dG n0 ns c F' (k + 1)).2.1=(dG n0 ns c F' k).2.1++(A4 "plus" ([1]++oo k++[0]) (dG n0 ns c F' k).2.1.length (dG n0 ns c F' k).1 (dG n0 ns c F' k).1).2:=by conv=>lhs; unfold dG
  have eE:(dG n0 ns c F' (k + 1)).1=(A4 "plus" ([1]++oo k++[0]) (dG n0 ns c F' k).2.1.length (dG n0 ns c F' k).1 (dG n0 ns c F' k).1).1:=by conv=>lhs; unfold dG
  have eA:(dG n0 ns c F' (k + 1)).2.2=(dG n0 ns c F' k).2.2++[(tn ns c (1 + (k:Int)),(dG n0 ns c F' (k + 1)).1)]:=by
   rw [eE]
   conv=>lhs; unfold dG
  rw [<- eE,<- eD] at gp
  have el:(bc++[(dG n0 ns c F' (k + 1)).1])[o + 1 + k]?=some (dG n0 ns c F' (k + 1)).1:=by
   rw [<- lb]
   exact Tw ..
  refine ⟨bc++[(dG n0 ns c F' (k + 1)).1],?_,?_,?_,?_,?_⟩
  ·rw [s1]
   exact G.app gp
  ·rw [Pc,lb]
   rfl
  ·rw [show o + (k + 1)=o + 1 + k by omega]
   exact el
  ·rw [eD,eE]
   exact Zb7
  ·rw [s2,eA]
   show List.map _ (_++_)=_
   rw [Qo]
   have a1:=Zl2 (bc:=bc) (Y:=[(dG n0 ns c F' (k + 1)).1]) (ar:=(dG n0 ns c F k).2.2) (fun y hy=>by rw [lb]; exact i3 y hy)
   unfold C4 at a1 ab
   rw [a1,ab]
   show _++[(_,Cc _ (Ax (o + 1 + k)))]=_
   rw [Gp el]
theorem Zcc (hs:∀ k,k < m->sub ([1]++oo k++[0])=fm "plus" (.flat .non)) (hs2:sub ([1]++oo m)=fm "plus" (.flat .non)) (hf:∀ q,1 :: q≠fl) (h1:F.1=Ax o) (h2:F.2.length=o + 1) (G0:GoG sub fl F.2 [] S0 bc0 ⟨F'.2,[],[],st⟩) (l0:bc0.length=o + 1) (e0:bc0[o]?=some F'.1) (r0:RowOk F'.2 F'.1) (q0:Cr F'.1) (hl:F'.2.length<=900) (hm:m<=60) (h5:st<=500) :
  ∃ bc,GoG sub fl (B3 n0 ns c F m) [] S0 bc ⟨B3 n0 ns c F' m,[],[],st⟩/\NowOk bc.length (De n0 ns c F m)/\Cc bc (De n0 ns c F m)=De n0 ns c F' m:=by
 obtain ⟨bc,G,lb,eb,rb,ab⟩:=Ze3 (n0:=n0) (ns:=ns) (c:=c) hs hf h1 h2 G0 l0 e0 r0 q0 hl hm h5 m (Pa _)
 obtain ⟨i1,i2,i3⟩:=Mp (n0:=n0) (ns:=ns) (c:=c) h1 h2 m
 have lk:=Fo (n0:=n0) (ns:=ns) (c:=c) (F:=F') m
 have lk0:=Fo (n0:=n0) (ns:=ns) (c:=c) (F:=F) m
 have nb:Cr (dG n0 ns c F' m).1:=Zak q0 m
 have gg:GoG sub fl [⟨"gap",As ([1]++oo m++[1]),[],(dG n0 ns c F m).2.2⟩] bc ⟨(dG n0 ns c F' m).2.1,[],[],st⟩ (bc++[Ax (dG n0 ns c F' m).2.1.length]) ⟨(dG n0 ns c F' m).2.1++[⟨"gap",As ([1]++oo m++[1]),[],(dG n0 ns c F' m).2.2⟩],[],[],st⟩:=by
  refine .cons (by show (dG n0 ns c F' m).2.1.length < 9000; omega) (by show 0 < 8000; decide) ⟨fun y h=>(nomatch h),fun y hy=>by rw [lb]; exact i3 y hy,Pu _,by show (dG n0 ns c F m).2.2.length<=1000; omega⟩ (.new (pl:=[1]++oo m++[1]) rfl (fun z=>hf _ (Zfe z)) (by show (Bf "gap").isSome=false; decide +kernel)) ?_
  have e:(if (("gap" : Str))∈WA then C4 bc (dG n0 ns c F m).2.2 else [])=(dG n0 ns c F' m).2.2:=by
   rw [if_pos (by decide +kernel),ab]
  show GoG sub fl [] _ ⟨(dG n0 ns c F' m).2.1++[⟨"gap",As ([1]++oo m++[1]),[],if (("gap" : Str))∈WA then C4 bc (dG n0 ns c F m).2.2 else []⟩],[],[],st⟩ _ _
  rw [e]
  exact .nil
 have lb1:(bc++[Ax (dG n0 ns c F' m).2.1.length]).length=o + 1 + m + 1:=by rw [Pc,lb]; rfl
 have eb1:(bc++[Ax (dG n0 ns c F' m).2.1.length])[o + m]?=some (dG n0 ns c F' m).1:=by
  rw [P0 (by omega)]
  exact eb
 have eb2:(bc++[Ax (dG n0 ns c F' m).2.1.length])[o + 1 + m]?=some (Ax (dG n0 ns c F' m).2.1.length):=by
  rw [<- lb]
  exact Tw ..
 have gp:=Zal (sub:=sub) (fl:=fl) (pl:=[1]++oo m) (bc:=bc++[Ax (dG n0 ns c F' m).2.1.length]) (rows:=(dG n0 ns c F' m).2.1++[⟨"gap",As ([1]++oo m++[1]),[],(dG n0 ns c F' m).2.2⟩]) (st:=st) (x:=Ax (o + m)) (y:=Ax (o + 1 + m)) hs2 (hf _) (by rw [Pc,Ph]; omega) h5 (G4 (by omega)) (G4 (by omega)) (Gp eb1) (Gp eb2) rb.more nb (fun e=>absurd (show ("row" : Str) = "num" from e) (by decide +kernel))
 rw [Zcd] at gp
 have lr:((dG n0 ns c F' m).2.1++[(⟨"gap",As ([1]++oo m++[1]),[],(dG n0 ns c F' m).2.2⟩:Rx)]).length=(dG n0 ns c F' m).2.1.length + 1:=by rw [Pc]; rfl
 rw [lr] at gp
 refine ⟨bc++[Ax (dG n0 ns c F' m).2.1.length]++[Ax ((dG n0 ns c F' m).2.1.length + 1)],?_,?_,?_⟩
 ·unfold B3
  rw [i1,i2]
  exact (G.app gg).app gp
 ·unfold De
  rw [i2]
  exact G4 (by rw [Pc,lb1]; exact Td _)
 ·unfold De
  rw [i2]
  refine Gp ?_
  rw [show o + 1 + m + 1=(bc++[Ax (dG n0 ns c F' m).2.1.length]).length from lb1.symm]
  exact Tw ..
end
end K57
namespace K57
open PySem L2
theorem Et (w:Str) (n:V):(Bq w n).size=1:=by unfold Bq; rw [Tr.size,B0]
theorem Kf (w:Str) (a b:Tr):(twoT w a b).size=1 + (a.size + b.size):=by unfold twoT; rw [Tr.size,B0,B0,B0]; omega
theorem Zer (ns:List Str) (c:Int) (m:Nat):∀ r,(dT ns c m r).size=4 * r + 3
 | 0=>by unfold dT B1; rw [Kf,Et,Et]
 | r + 1=>by
  unfold dT B1
  rw [Tr.size,B0,B0,B0,Kf,Et,Zer ns c m r]
  omega
theorem Mb (n0:Str) (ns:List Str) (c:Int) (m:Nat) (fr:Tr):(wT n0 ns c m fr).size=fr.size + 4 * m + 4:=by
 unfold wT
 rw [Tr.size,B0,B0,B0,Zer]
 omega
theorem Zaa (F:Fm1):F.t.size<=3:=by
 cases F with
 | leaf a=>show (Bq a.1 a.2).size<=3; rw [Et]; omega
 | plus a b=>show (twoT "plus" (Bq a.1 a.2) (Bq b.1 b.2)).size<=3; rw [Kf,Et,Et]; omega
theorem Zl9 (f x:Str) (n:Nat):(Dd f x n).size=2 * n + 6:=by
 have h:∀ k,(Dl x (twoT "call" (B1 f) (B1 x)) k).size=2 * k + 3:=by
  intro k
  induction k with
  | zero=>unfold Dl B1; rw [Kf,Et,Et]
  | succ k ih=>unfold Dl; rw [Tr.size,B0,B0,B0,Et,ih]; omega
 unfold Dd Ms N2
 rw [Kf,Tr.size,B0,B0,h,Et]
 omega
noncomputable def Fm1.s:Fm1->Int
 | .leaf a=>Bw a.1
 | .plus a b=>1 + Bw a.1 + Bw b.1
noncomputable def gapF:Fm1:=.leaf ("gap",.non)
theorem Ox:LeafOk "gap" .non:=.inr (.inr (.inr (.inr ⟨rfl,rfl⟩)))
theorem Ik (i:Int):LeafOk "num" (.int i):=.inl ⟨rfl,i,rfl⟩
theorem Mn (w:Str) (n:V) (k:Nat) (pl:List Nat):Bh w n k pl []=if w∈(["num", "truth"]:List Str) then ((w,n),[]) else (("row",.int (k:Nat)),[⟨w,As pl,[],[]⟩]):=by
 have e:Du w n []=none:=by
  unfold Du
  split
  ·split <;> rfl
  ·rfl
 unfold Bh
 rw [e]
 by_cases h:w = "gap"
 ·simp [h]
 ·simp [h]
theorem Zgl {wd:Str} {nv:V} (ok:LeafOk wd nv) (pl:List Nat) (rs:List Rx):RowOk (rs++(Bh wd nv rs.length pl []).2) (Bh wd nv rs.length pl []).1:=by
 rw [Mn]
 split
 ·rename_i h
  intro e
  have e:wd = "row" := e
  rw [e] at h
  exact absurd h (by decide +kernel)
 ·exact fun _=>⟨rs.length,rfl,by simp⟩
theorem O6 (k:Nat) (pl:List Nat):Bh "gap" .non k pl []=(Ax k,[⟨"gap",As pl,[],[]⟩]):=by
 rw [Mn,if_neg (by decide +kernel)]
theorem Zgu (i:Int) (k:Nat) (pl:List Nat):Bh "num" (.int i) k pl []=(nm i,[]):=by
 rw [Mn,if_pos (by decide +kernel)]
theorem Zf1 {F:Fm1} (ok:F.Ok):Cr F.g.1:=by
 cases F with
 | leaf a=>exact Io ok 0 [0]
 | plus a b=>exact Zb5 _ _ _ _ _
theorem Ze4 {F:Fm1} (ok:F.Ok):RowOk F.g.2 F.g.1:=by
 cases F with
 | leaf a=>exact Zgl (rs:=[]) ok [0]
 | plus a b=>exact Zb7 (rs:=(fL a).2++(fR a b).2)
theorem Ob (F:Fm1):F.g.2.length<=3:=by
 cases F with
 | leaf a=>exact P3 (Ey a.1 a.2 0 [0] []) (by decide)
 | plus a b =>
  have h1:=Ey a.1 a.2 0 [0,0] []
  have h2:=Ey b.1 b.2 (fL a).2.length [0,1] []
  have h3:=Za4 "plus" [0] ((fL a).2++(fR a b).2).length (fL a).1 (fR a b).1
  have h1:(fL a).2.length<=1:=h1
  have h2:(fR a b).2.length<=1:=h2
  have h3:(fJ a b).2.length<=1:=h3
  show ((fL a).2++(fR a b).2++(fJ a b).2).length<=3
  rw [Pc,Pc]
  omega
theorem fm_s (F:Fm1):0<=F.s/\F.s<=3:=by
 cases F with
 | leaf a=>have:=Km a.1; show 0<=Bw a.1/\Bw a.1<=3; omega
 | plus a b=>have:=Km a.1; have:=Km b.1; show 0<=1 + Bw a.1 + Bw b.1/\1 + Bw a.1 + Bw b.1<=3; omega
theorem Zkv {sub:List Nat->Option (Str×Dt)} {F:Fm1} (ok:F.Ok) (hs:∀ q,sub ([0]++q)=(Bo F.t q).map fun u=>(u.wd,Go u)) (st:Int):ChU sub ⟨[],[]++[⟨[0],[],false⟩],[],st⟩ ⟨F.g.2,[],[]++[F.g.1],st + F.s⟩:=by
 cases F with
 | leaf a =>
  have h0:sub [0]=some (a.1,.flat a.2):=by
   have h:=hs []
   rw [C3] at h
   exact h
  exact Hu (rs:=[]) (w:=[]) (th:=[]) (ar:=[]) (st:=st) h0 ok (by decide)
 | plus a b =>
  obtain ⟨oka,okb⟩:LeafOk a.1 a.2/\LeafOk b.1 b.2:=ok
  have h0:sub [0]=fm "plus" (.flat .non):=by
   have h:=hs []
   rw [C3] at h
   exact h
  have h1:sub ([0]++[0])=some (a.1,.flat a.2):=by
   have h:=hs [0]
   unfold Fm1.t twoT at h
   rw [Cp] at h
   simp only [Q0,Qa,C3] at h
   exact h
  have h2:sub ([0]++[1])=some (b.1,.flat b.2):=by
   have h:=hs [1]
   unfold Fm1.t twoT at h
   rw [Cp] at h
   simp only [Q0,R9,Qa,C3] at h
   exact h
  have l1:(fL a).2.length<=1:=Ey a.1 a.2 0 [0,0] []
  have l2:(fR a b).2.length<=1:=Ey b.1 b.2 (fL a).2.length [0,1] []
  obtain ⟨o1,o2⟩:=two_ok (wd := "plus") (.inl (by decide +kernel))
  refine (Zbs (rs:=[]) (w:=[]) (th:=[]) (st:=st) (ar:=[]) h0 o1 o2 (by decide)).trans ?_
  refine (Hu (rs:=[]) (w:=[]++[⟨[0],[],true⟩]++[⟨[0]++[1],[],false⟩]) (th:=[]) (ar:=[]) h1 oka (by decide)).trans ?_
  refine (Hu (rs:=(fL a).2) (w:=[]++[⟨[0],[],true⟩]) (th:=[(fL a).1]) (ar:=[]) h2 okb (by simp; omega)).trans ?_
  have e:st + Fm1.s (.plus a b)=st + 1 + Bw a.1 + Bw b.1:=by show st + (1 + Bw a.1 + Bw b.1)=_; omega
  rw [e]
  have ra:RowOk ((fL a).2++(fR a b).2) (fL a).1:=(Zgl (rs:=[]) oka [0,0]).more
  exact Zc7 (rs:=(fL a).2++(fR a b).2) (w:=[]) (th:=[]) (ar:=[]) (st:=st + 1 + Bw a.1 + Bw b.1) (x:=(fL a).1) (y:=(fR a b).1) h0 (by decide +kernel) ra (Io oka 0 [0,0]) (Io okb _ [0,1]) (by decide) (by simp; omega)
open K19 in
structure Fit (n0:Str) (ns:List Str) (c:Int) (m:Nat) (F F' tf:Fm1) (fl:List Nat) (n n':Int):Prop where
 sub:Sub (wT n0 ns c m F.t) fl
 le:fl.length<=1000
 path:(path (wT n0 ns c m F.t) fl)[fl.length]?=some (.mk "gap" (.flat .non) [])
 wat:Ci (wT n0 ns c m F.t) fl tf.t=wT n0 ns c m F'.t
 n5:n<=500
 go:∃ bc,GoG (B9 (wT n0 ns c m F'.t)) fl (B3 n0 ns c F.g m) [] ⟨[],[],[],n⟩ bc ⟨B3 n0 ns c F'.g m,[],[],n'⟩/\NowOk bc.length (De n0 ns c F.g m)/\Cc bc (De n0 ns c F.g m)=De n0 ns c F'.g m
theorem Zga (n0:Str) (ns:List Str) (c:Int) (m:Nat) (fr:Tr) (q:List Nat):B9 (wT n0 ns c m fr) ([0]++q)=(Bo fr q).map fun u=>(u.wd,Go u):=by
 rw [Ee,Zcv]
theorem Mz (n:Nat) (w:Str) (pl:List Int):F0 n ⟨w,pl,[],[]⟩:=⟨fun y h=>(nomatch h),fun y h=>(nomatch h),Pu _,Pu _⟩
open K19 in
theorem fit1 {n0:Str} {ns:List Str} {c:Int} {m:Nat} {F1:Fm1} {n:Int} (ok:F1.Ok) (hm:m<=60) (hn:n + F1.s<=500):Fit n0 ns c m gapF F1 F1 [0] n (n + F1.s):=by
 have sl:=fm_s F1
 have eg:gapF.g=(Ax 0,[⟨"gap",As [0],[],[]⟩]):=O6 0 [0]
 refine ⟨.cons rfl (.nil _),by decide,rfl,rfl,by omega,?_⟩
 obtain ⟨k,R⟩:=(Zkv (sub:=B9 (wT n0 ns c m F1.t)) ok (Zga n0 ns c m F1.t) n).fine rfl hn
 refine Zcc (o:=0) (bc0:=[F1.g.1]) (fun k hk=>Zdc n0 ns c m _ k hk) (Zgm n0 ns c m _) (fun q z=>by cases z) (by rw [eg]) (by rw [eg]; rfl) ?_ rfl rfl (Ze4 ok) (Zf1 ok) (P3 (Ob F1) (by decide)) hm hn
 rw [eg]
 exact .cons (by show 0 < 9000; decide) (by show 0 < 8000; decide) (Mz _ _ _) (RowG.fill (S':=⟨F1.g.2,[],[]++[F1.g.1],n + F1.s⟩) (th:=[]) (x:=F1.g.1) rfl R rfl) .nil
open K19 in
theorem fit2 {n0:Str} {ns:List Str} {c:Int} {m:Nat} {i j:Int} {n:Int} (hm:m<=60) (hn:n + 1<=500):Fit n0 ns c m (.plus ("num",.int i) ("gap",.non)) (.plus ("num",.int i) ("num",.int j)) (.leaf ("num",.int j)) [0,1] n (n + 1):=by
 have eg:(Fm1.plus ("num",.int i) ("gap",.non)).g=(Ax 1,[⟨"gap",As [0,1],[],[]⟩,⟨"plus",As [0],[nm i,Ax 0],[]⟩]):=by
  unfold Fm1.g fJ fR fL
  simp only [Zgu,O6]
  show ((A4 "plus" [0] 1 (nm i) (Ax 0)).1,_++(A4 "plus" [0] 1 (nm i) (Ax 0)).2)=_
  rw [Zcd]
  rfl
 have eh:(Fm1.plus ("num",.int i) ("num",.int j)).g=((A4 "plus" [0] 0 (nm i) (nm j)).1,(A4 "plus" [0] 0 (nm i) (nm j)).2):=by
  unfold Fm1.g fJ fR fL
  simp only [Zgu]
  rfl
 have okh:(Fm1.plus ("num",.int i) ("num",.int j)).Ok:=⟨Ik i,Ik j⟩
 have rh:=Ze4 okh
 have nh:=Zf1 okh
 have lh:=Ob (Fm1.plus ("num",.int i) ("num",.int j))
 refine ⟨.cons rfl (.cons rfl (.nil _)),by decide,rfl,rfl,by omega,?_⟩
 have sf:=Zga n0 ns c m (Fm1.plus ("num",.int i) ("num",.int j)).t
 have h0:B9 (wT n0 ns c m (Fm1.plus ("num",.int i) ("num",.int j)).t) [0]=fm "plus" (.flat .non):=by
  have h:=sf []
  rw [C3] at h
  exact h
 have h1:B9 (wT n0 ns c m (Fm1.plus ("num",.int i) ("num",.int j)).t) [0,1]=fm "num" (.flat (.int j)):=by
  have h:=sf [1]
  unfold Fm1.t twoT at h
  rw [Cp] at h
  simp only [Q0,R9,Qa,C3] at h
  exact h
 refine Zcc (o:=1) (bc0:=[nm j,(A4 "plus" [0] 0 (nm i) (nm j)).1]) (fun k hk=>Zdc n0 ns c m _ k hk) (Zgm n0 ns c m _) (fun q z=>by cases z) (by rw [eg]) (by rw [eg]; rfl) ?_ rfl (by rw [eh]; rfl) rh nh (P3 lh (by decide)) hm hn
 obtain ⟨k,R⟩:=(Zfs (rs:=[]) (w:=[]) (th:=[]) (ar:=[]) (st:=n) h1 (by decide)).fine rfl hn
 rw [eg,eh]
 refine .cons (S1:=⟨[],[],[],n + 1⟩) (x:=nm j) (by show 0 < 9000; decide) (by show 0 < 8000; decide) (Mz _ _ _) (RowG.fill (S':=⟨[],[],[]++[nm j],n + 1⟩) (th:=[]) (x:=nm j) rfl R rfl) ?_
 exact Zal (rows:=[]) (bc:=[]++[nm j]) (pl:=[0]) (x:=nm i) (y:=Ax 0) (x':=nm i) (y':=nm j) h0 (by decide) (by decide) hn (fun e=>absurd (show ("num" : Str) = "row" from e) (by decide +kernel)) (G4 (by show 0 < 1; decide)) (if_neg (fun e=>absurd (show ("num" : Str) = "row" from e) (by decide +kernel))) (Gp rfl) (Zoo i) (Zgz i) (Zgz j)
open K19 in
theorem Zkk {n0:Str} {ns:List Str} {c:Int} {m:Nat} {f x:Str} {k:Nat} {n:Int} (hn:f≠x) (hk:k<=1000) (h0:0<=n) (h5:n + 3<=500):Sub (wT n0 ns c m gapF.t) [0]/\(path (wT n0 ns c m gapF.t) [0])[1]?=some (.mk "gap" (.flat .non) [])/\Ci (wT n0 ns c m gapF.t) [0] (Dd f x k)=wT n0 ns c m (Dd f x k)/\∃ k0,RunL (B9 (wT n0 ns c m (Dd f x k))) k0 ⟨[],[⟨[0],[],false⟩],[],n⟩:=by
 refine ⟨.cons rfl (.nil _),rfl,rfl,Zp1 ?_ hn hk h0 h5⟩
 have h:=Zcv n0 ns c m (Dd f x k) []
 rw [C3] at h
 exact h
theorem Zot (n0:Str) (ns:List Str) (c:Int) (m:Nat):∃ rs,B3 n0 ns c gapF.g m=⟨"gap",As [0],[],[]⟩ :: rs:=by
 have eg:gapF.g=(Ax 0,[⟨"gap",As [0],[],[]⟩]):=O6 0 [0]
 have h:∀ k,∃ rs,(dG n0 ns c gapF.g k).2.1=⟨"gap",As [0],[],[]⟩ :: rs:=by
  intro k
  induction k with
  | zero=>exact ⟨[],by show gapF.g.2=_; rw [eg]⟩
  | succ k ih =>
   obtain ⟨rs,e⟩:=ih
   refine ⟨rs++(A4 "plus" ([1]++oo k++[0]) (dG n0 ns c gapF.g k).2.1.length (dG n0 ns c gapF.g k).1 (dG n0 ns c gapF.g k).1).2,?_⟩
   rw [<- Sg,<- e]
   conv=>lhs; unfold dG
 obtain ⟨rs,e⟩:=h m
 unfold B3
 rw [e]
 exact ⟨_,rfl⟩
end K57
namespace K57
open PySem L2
section
variable {P:Program} {w:World} {K:O7} {mg:Str->Option Value} {base:Heap}
noncomputable def Zgj (K:O7):Sp:=fun vs H Q _=>∃ (tv fv:V) (w z:Str) (a b t:Tr),vs=[tv,fv]/\TrAt K H tv (.mk w (.flat (.str z)) [a,b])/\TrAt K H fv t/\∀ v H',Same H H'->TrAt K H' v (.mk w (.flat (.str z)) [t,b])->Q v H'
theorem Zjf:A2 ["_law_tree_here", "_law_form"] ["_law_tree_here", "_law_form"] (Az Kd):=by walk_at "sc"
theorem Zqt {f:Addr} {fd:FuncData} (F:Fun K "_law_filled" "_law_filled" Kd f fd) (T:Txt K mg):FnOk P w K mg base An 1 f fd ["_law_tree_here", "_law_form"] (Zgj K):=by
 refine F.okq Zjf (fun vs H Q E h=>?_) (fun cdv A outer s H vs Q E hr h=>?_)
 ·obtain ⟨tv,fv,w,z,a,b,t,rfl,_⟩:=h
  rfl
 ·obtain ⟨tv,fv,w,z,a,b,t,rfl,ht,hf,q⟩:=h
  refine ⟨_,Ag (Av (Ah (Aa (Ak K (qv 0) Ac) (Aa (Ak K (qv 0) Ac) (Aa (Ah (Aa (qv 1) (Aa (Ak K (Ak K (qv 0) Ac) Ac) Ab))) Ab))))),?_⟩
  cases ht with
  | @mk c pp _ nv _ us _ qb hn qp l hch =>
  obtain ⟨u0,u1,rfl⟩:∃ u0 u1,us=[u0,u1]:=by
   match us,l with
   | [u0,u1],_=>exact ⟨u0,u1,rfl⟩
  have t1:=hch 1 u1 _ rfl rfl
  walk_at "r"
  refine Aw qb rfl ?_
  walk_at "r"
  refine Aw qb rfl ?_
  walk_at "r"
  refine Aw qb rfl ?_
  walk_at "r"
  refine Aw qp rfl ?_
  walk_at "r"
  refine ⟨A3,fun p1 h1=>?_⟩
  obtain ⟨H1,s1,e1,z9⟩:=Aj h1 (.tup [fv,u1])
  rw [z9]
  walk_at "r"
  refine ⟨Bd,fun p2 h2=>?_⟩
  have s2:Same H1 (upd H1 p2 (.tup [.str w,nv,.ref p1])):=Same.upd h2
  have s02:=s1.trans s2
  refine q _ _ s02 (.mk (SqT.of Ae) (hn.same s02.t) (SqT.of (s2 _ _ e1)) rfl (fun j v t f1 f2=>by
   match j,f1,f2 with
   | 0,f1,f2=>cases f1; cases f2; exact hf.same s02
   | 1,f1,f2=>cases f1; cases f2; exact t1.same s02))
structure TLc (K:O7) (TL GE NP ND:Addr):Prop where
 s:Qh K (.ref TL) (.ref GE)=some true
 k:P4 K (.ref TL) (.ref TL)=some true
 v:P4 K (.ref TL) (.type "ValueError")=some true
 n:PySem.W.kitAny K (.ref TL) [.ref NP,.ref ND]=some false
 x:Hn K TL
noncomputable def Zcq (K:O7) (TL:Addr):Sp:=fun vs H Q _=>∃ (tv rv fv:V),vs=[tv,rv,fv]/\(∀ (p:Addr) (H1:Hp) (Y:VK) (Z:XK),Same H H1->SqT K H1 p (A0 [0])->(∀ H',Same H1 H'->Z (.ref TL) none H')->O4 K TL [tv,rv,.ref p,fv] H1 Y Z)/\∀ H',Same H H'->Q (.bl true) H'
theorem sc_law_late:A2 ["_law_tree_here", "_law_record_here", "_law_form", "_law_late_here", "e"] ["_law_tree_here", "_law_record_here", "_law_form"] (Az K3):=by walk_at "sc"
theorem Zs0 {GE N_NoPlace N_NoDeed N_TooLong:Addr} {f:Addr} {fd:FuncData} (F:Fun K "_law_late" "_law_late" K3 f fd) (T:Txt K mg) (C_go_on:He P w K mg base 8 "go_on" ["tree", "record", "place", "form"] (O4 K N_TooLong)) (X_GapError:J4 K GE) (G_GapError:mg "GapError" = some (.ref GE)) (G_TooLong:mg "TooLong" = some (.ref N_TooLong)) (G_NoPlace:mg "NoPlace" = some (.ref N_NoPlace)) (G_NoDeed:mg "NoDeed" = some (.ref N_NoDeed)) (O:TLc K N_TooLong GE N_NoPlace N_NoDeed):FnOk P w K mg base An 9 f fd ["_law_tree_here", "_law_record_here", "_law_form"] (Zcq K N_TooLong):=by
 refine F.okq sc_law_late (fun vs H Q E h=>?_) (fun cdv A outer s H vs Q E hr h=>?_)
 ·obtain ⟨tv,rv,fv,rfl,_⟩:=h
  rfl
 ·obtain ⟨tv,rv,fv,rfl,G,q⟩:=h
  refine ⟨_,Ad (Ay 3 sc_law_late Cz)
   (Ad (Zqw (i:=4) sc_law_late.nd rfl rfl X_GapError G_GapError rfl rfl (Zps (Zk7 C_go_on hr.m (fun _=>Aa (qv 0) (Aa (qv 1) (Aa (Ah (Aa Ac Ab)) (Aa (qv 2) Ab)))))) (fun _ _=>Ag (Ay 3 sc_law_late (Ek (Bj (Zna (K:=K)) (by rfl) T.isinstance (by decide +kernel) (Aa (qv 4) (Aa (Zbw (v:=.ref N_TooLong) (by rfl) G_TooLong rfl) Ab))) (Ek (Bj (Zmd (K:=K) "ValueError") (by rfl) T.isinstance (by decide +kernel) (Aa (qv 4) (Aa (C8 (v:=.ty "ValueError") (by rfl) T.ValueError (by decide +kernel) rfl) Ab))) (Eu (Zgt (Bj (Zrv (K:=K)) (by rfl) T.isinstance (by decide +kernel) (Aa (qv 4) (Aa (Ah (Aa (Zbw (v:=.ref N_NoPlace) (by rfl) G_NoPlace rfl) (Aa (Zbw (v:=.ref N_NoDeed) (by rfl) G_NoDeed rfl) Ab))) Ab))))))))))
   (Ag (Av (qv 3)))),?_⟩
  walk_at "r"
  refine ⟨tv,rfl,rv,rfl,?_⟩
  refine ⟨Cj,fun p hp=>?_⟩
  obtain ⟨H1,s1,e1,z9⟩:=Aj hp (.tup [.int 0])
  rw [z9]
  refine ⟨fv,rfl,?_⟩
  dsimp only [La]
  refine G p H1 _ _ s1 (SqT.of e1) fun H' s'=>⟨⟨N_TooLong,rfl,O.s⟩,fun a1 ha1=>?_⟩
  have s2:Same H (upd H' a1 (Dn a1 (.ref N_TooLong) none)):=(s1.trans s').trans (Same.upd ha1)
  have e2:upd H' a1 (Dn a1 (.ref N_TooLong) none) a1=some (Dn a1 (.ref N_TooLong) none):=Ae
  revert s2 e2
  generalize upd H' a1 (Dn a1 (.ref N_TooLong) none)=H2
  intro s2 e2
  walk_at "r"
  refine ⟨a1,_,_,none,_,rfl,e2,(fun d hd=>nomatch hd),O.x,O.k,?_⟩
  walk_at "r"
  refine ⟨a1,_,none,_,rfl,e2,(fun d hd=>nomatch hd),O.x,O.v,?_⟩
  walk_at "r"
  refine ⟨A3,fun p3 hp3=>?_⟩
  walk_at "r"
  refine ⟨a1,p3,_,none,_,[N_NoPlace,N_NoDeed],rfl,SqT.of Ae,Same.upd hp3 _ _ e2,(fun d hd=>nomatch hd),O.x,O.n,?_⟩
  walk_at "r"
  dsimp only [Ends.gone]
  walk_at "r"
  exact q _ (s2.trans (Same.upd hp3))
noncomputable def Ap (K:O7) (H H':Hp) (j:Nat) (y:Rx×Addr×Addr):Prop:=∃ (ov ev:List V) (t u z:Addr),H y.2.1=some (.lst ov)/\H y.2.2=some (.lst ev)/\H' y.2.1=some (.lst (ov++[.ref t]))/\H' y.2.2=some (.lst (ev++[.ref u]))/\SqT K H' t [.str "num",.int (j:Nat)]/\SqT K H' u [.str "z",.ref z]/\SqT K H' z [.str "num",.int (j:Nat)]
noncomputable def Nt (H H':Hp) (y:Rx×Addr×Addr):Prop:=∀ xs,(H y.2.1=some (.lst xs)->H' y.2.1=some (.lst xs))/\(H y.2.2=some (.lst xs)->H' y.2.2=some (.lst xs))
noncomputable def Zgb (K:O7):Sp:=fun vs H Q _=>∃ (rd dd:Addr) (rv dv:List V) (rs:List Rx) (Y:Addr->Prop),vs=[.ref rd,.ref dd]/\H rd=some (.lst rv)/\SepR K (fun b=>¬ Y b) H rv rs/\¬ Y rd/\H dd=some (.lst dv)/\Al (RwAt K Y H) dv rs/\¬ Y dd/\rs.length<=100/\(∀ x∈rs,x.ops.length<=100/\x.ar.length<=100)/\∀ H',SameA Y H H'->Q (.bl true) H'
theorem sc_law_apart:A2 ["_law_rows", "_law_due", "_law_k"] ["_law_rows", "_law_due"] (Az Jm):=by walk_at "sc"
theorem Zqx {f:Addr} {fd:FuncData} (F:Fun K "_law_apart" "_law_apart" Jm f fd) (T:Txt K mg):FnOk P w K mg base An 1 f fd ["_law_rows", "_law_due"] (Zgb K):=by
 refine F.okq sc_law_apart (fun vs H Q E h=>?_) (fun cdv A outer s H vs Q E hr h=>?_)
 ·obtain ⟨rd,dd,rv,dv,rs,Y,rfl,_⟩:=h
  rfl
 ·obtain ⟨rd,dd,rv,dv,rs,Y,rfl,hrd,sep,nYr,hdd,ald,nYd,hl,hsm,q⟩:=h
  refine ⟨_,Ad (Dr Qj rfl (Hy rfl T.range (Aa (Bj (Df K) (by rfl) T.len (by decide +kernel) (Aa (qv 0) Ab)) Ab)) (Bb (i:=2) sc_law_apart.nd rfl (Or.inl rfl)) (Ad (Be (B2 K Po Py Pz B6 (Ak K (Ak K (qv 0) (qv 2)) Ac) (Aa (Ah (Aa Ar (Aa (qv 2) Ab))) Ab)))
   (Ag (Be (B2 K Po Py Pz B6 (Ak K (Ak K (qv 0) (qv 2)) Ac) (Aa (Ah (Aa Ar (Aa (Ah (Aa Ar (Aa (qv 2) Ab))) Ab))) Ab))))))
   (Ad (Dr Qj rfl (Hy rfl T.range (Aa (Bj (Df K) (by rfl) T.len (by decide +kernel) (Aa (qv 0) Ab)) Ab)) (Bb (i:=2) sc_law_apart.nd rfl (Or.inl rfl)) (Ag (A7 (QW.qt (Hm (A6 (E2 K hr.u200) (Ak K (Ak K (qv 0) (qv 2)) Ac) (Au (B8 K) (Ak K (Ak K (qv 1) (qv 2)) Ac) (Bm (Aa (Ah (Aa Ar (Aa (qv 2) Ab))) Ab))) (A5 _)) (Ia (A6 (E2 K hr.u200) (Ak K (Ak K (qv 0) (qv 2)) Ac) (Au (B8 K) (Ak K (Ak K (qv 1) (qv 2)) Ac) (Bm (Aa (Ah (Aa Ar (Aa (Ah (Aa Ar (Aa (qv 2) Ab))) Ab))) Ab))) (A5 _))))) (Ag (Av Cz)) Ba)))
   (Ag (Av Cz))),?_⟩
  have bg:=big
  obtain ⟨ys,ey,aly,dis⟩:=sep
  have hyl:rv.length=rs.length:=by rw [aly.1,<- ey,Pi]
  walk_at "r"
  refine Dg (SqL.of hrd) ?_
  walk_at "r"
  refine ⟨by omega,by omega,?_⟩
  refine F8 (n:=rv.length) (fun i σ' H'=>∃ v2,σ'=[some (.ref rd),some (.ref dd),v2]/\SameA Y H H'/\∀ j y,ys[j]?=some y->(j < i->Ap K H H' j y)/\(i<=j->Nt H H' y)) ⟨none,rfl,SameA.refl _ _,fun j y _=>⟨fun h=>absurd h (V8 _),fun _ xs=>⟨id,id⟩⟩⟩ ?_ ?_
  ·rintro i σ' HA hi ⟨v2,rfl,sA,inv⟩
   obtain ⟨v,hv⟩:∃ v,rv[i]?=some v:=⟨_,Pb hi⟩
   obtain ⟨y,hy,a,p,ov,ev,rfl,qa,_,ho,alo,he,ale,nYo,nYe,noe⟩:=aly.get hv
   have nYo:Y y.2.1:=Classical.not_not.mp nYo
   have nYe:Y y.2.2:=Classical.not_not.mp nYe
   have hx:y.1∈rs:=by rw [<- ey]; exact List.mem_map_of_mem (Rl hy)
   obtain ⟨z1,z2⟩:=hsm _ hx
   have lo:=alo.1
   have le:=ale.1
   have hoA:=(((inv i y hy).2 (Pa _)) ov).1 ho
   have heA:=(((inv i y hy).2 (Pa _)) ev).2 he
   have hrA:=sA.2 _ _ nYr hrd
   have ik:(0:Int) + (i:Int)=((i:Nat):Int):=by omega
   rw [ik]
   walk_at "r"
   refine Bp (SqL.of hrA) (Bc hv) ?_
   walk_at "r"
   refine Aw (sA.1.tup qa) rfl ?_
   refine Br (SqL.of hoA) ?_
   walk_at "r"
   refine ⟨A3,fun t ht=>?_⟩
   obtain ⟨HB,s1,e1,z9⟩:=Aj ht (.tup [.str "num",.int (i:Nat)])
   rw [z9]
   walk_at "r"
   refine B4 (s1 _ _ hoA) (by omega) ?_
   have a2:SameA Y HB (upd HB y.2.1 (.lst (ov++[.ref t]))):=SameA.set (s1 _ _ hoA) nYo
   have e2:upd HB y.2.1 (.lst (ov++[.ref t])) y.2.1=some (.lst (ov++[.ref t])):=Ae
   have k2:∀ b o,b≠y.2.1->HB b=some o->upd HB y.2.1 (.lst (ov++[.ref t])) b=some o:=fun b o n h=>by rw [Af n]; exact h
   revert a2 e2 k2
   generalize upd HB y.2.1 (.lst (ov++[.ref t]))=HC
   intro a2 e2 k2
   have aC:SameA Y HA HC:=s1.a.trans a2
   have sAC:=sA.trans aC
   have heC:=k2 _ _ (Pg noe) (s1 _ _ heA)
   have hrC:=sAC.2 _ _ nYr hrd
   walk_at "r"
   refine Bp (SqL.of hrC) (Bc hv) ?_
   walk_at "r"
   refine Aw (sAC.1.tup qa) rfl ?_
   refine Br (SqL.of heC) ?_
   walk_at "r"
   refine ⟨A3,fun z hz=>?_⟩
   obtain ⟨HD,s3,e3,z9⟩:=Aj hz (.tup [.str "num",.int (i:Nat)])
   rw [z9]
   walk_at "r"
   refine ⟨A3,fun u hu=>?_⟩
   obtain ⟨HE,s4,e4,z9⟩:=Aj hu (.tup [.str "z",.ref z])
   rw [z9]
   have s34:=s3.trans s4
   walk_at "r"
   refine B4 (s34 _ _ heC) (by omega) ?_
   have a5:SameA Y HE (upd HE y.2.2 (.lst (ev++[.ref u]))):=SameA.set (s34 _ _ heC) nYe
   have e5:upd HE y.2.2 (.lst (ev++[.ref u])) y.2.2=some (.lst (ev++[.ref u])):=Ae
   have k5:∀ b o,b≠y.2.2->HE b=some o->upd HE y.2.2 (.lst (ev++[.ref u])) b=some o:=fun b o n h=>by rw [Af n]; exact h
   revert a5 e5 k5
   generalize upd HE y.2.2 (.lst (ev++[.ref u]))=HF
   intro a5 e5 k5
   have aCF:SameA Y HC HF:=s34.a.trans a5
   have aAF:=aC.trans aCF
   have keep:∀ b o,b≠y.2.1->b≠y.2.2->HA b=some o->HF b=some o:=fun b o n1 n2 h=>k5 b o n2 (s34 _ _ (k2 b o n1 (s1 _ _ h)))
   refine ⟨_,rfl,sA.trans aAF,fun j x hj=>?_⟩
   by_cases e:j=i
   ·subst e
    rw [hy] at hj
    cases hj
    exact ⟨fun _=>⟨ov,ev,t,u,z,ho,he,k5 _ _ noe (s34 _ _ e2),e5,(a2.1.trans aCF.1).tup (SqT.of e1),a5.1.tup (SqT.of e4),(s4.t.trans a5.1).tup (SqT.of e3)⟩,fun h=>absurd h (by omega)⟩
   ·have nn:x.2.1≠y.2.1/\x.2.1≠y.2.2/\x.2.2≠y.2.1/\x.2.2≠y.2.2:=by
     rcases Nat.lt_or_gt_of_ne e with h | h
     ·exact dis j i x y hj hy h
     ·obtain ⟨n1,n2,n3,n4⟩:=dis i j y x hy hj h
      exact ⟨Pg n1,Pg n3,Pg n2,Pg n4⟩
    obtain ⟨n1,n2,n3,n4⟩:=nn
    refine ⟨fun h=>?_,fun h xs=>?_⟩
    ·obtain ⟨ov',ev',t',u',z',b1,b2,b3,b4,b5,b6,b7⟩:=(inv j x hj).1 (by omega)
     exact ⟨ov',ev',t',u',z',b1,b2,keep _ _ n1 n2 b3,keep _ _ n3 n4 b4,aAF.1.tup b5,aAF.1.tup b6,aAF.1.tup b7⟩
    ·obtain ⟨c1,c2⟩:=(inv j x hj).2 (by omega) xs
     exact ⟨fun h=>keep _ _ n1 n2 (c1 h),fun h=>keep _ _ n3 n4 (c2 h)⟩
  ·rintro σ' HA ⟨v2,rfl,sA,inv⟩
   have hrA:=sA.2 _ _ nYr hrd
   walk_at "r"
   refine Dg (SqL.of hrA) ?_
   walk_at "r"
   refine ⟨by omega,by omega,?_⟩
   refine F8 (n:=rv.length) (fun i σ' H'=>∃ v2,σ'=[some (.ref rd),some (.ref dd),v2]/\Same HA H') ⟨_,rfl,Same.refl _⟩ ?_ ?_
   ·rintro i σ' HB hi ⟨v2',rfl,sB⟩
    obtain ⟨v,hv⟩:∃ v,rv[i]?=some v:=⟨_,Pb hi⟩
    obtain ⟨y,hy,a,p,ov0,ev0,rfl,qa,_,ho0,alo,he0,ale,_,_,_⟩:=aly.get hv
    have hyr:rs[i]?=some y.1:=by rw [<- ey,Qn,hy]; rfl
    obtain ⟨dvv,hdv,da,dp,d1,d2,dov,dev,rfl,qd,_,hd1,ald1,hd2,ald2,nd1,nd2⟩:=ald.get' hyr
    obtain ⟨z1,z2⟩:=hsm _ (Rl hyr)
    obtain ⟨ov,ev,t,u,z,b1,b2,b3,b4,b5,b6,b7⟩:=(inv i y hy).1 hi
    have eo:ov=ov0:=by rw [ho0] at b1; cases b1; rfl
    have ee:ev=ev0:=by rw [he0] at b2; cases b2; rfl
    subst eo ee
    have hrB:=sB _ _ hrA
    have hdB:=sB _ _ (sA.2 _ _ nYd hdd)
    have sAB:SameA Y H HB:=sA.trans sB.a
    have qaB:=sAB.1.tup qa
    have qdB:=sAB.1.tup qd
    have hd1B:=sAB.2 _ _ nd1 hd1
    have hd2B:=sAB.2 _ _ nd2 hd2
    have lo:=alo.1
    have le:=ale.1
    have l1:=ald1.1
    have l2:=ald2.1
    have ik:(0:Int) + (i:Int)=((i:Nat):Int):=by omega
    rw [ik]
    walk_at "r"
    refine Bp (SqL.of hrB) (Bc hv) ?_
    walk_at "r"
    refine Aw qaB rfl ?_
    walk_at "r"
    refine Bp (SqL.of hdB) (Bc hdv) ?_
    walk_at "r"
    refine Aw qdB rfl ?_
    walk_at "r"
    refine ⟨A3,fun c1 hc1=>?_⟩
    obtain ⟨HC,s1,e1,z9⟩:=Aj hc1 (.tup [.str "num",.int (i:Nat)])
    rw [z9]
    walk_at "r"
    refine ⟨Cj,fun c2 hc2=>?_⟩
    obtain ⟨HD,s2,e2,z9⟩:=Aj hc2 (.lst [.ref c1])
    rw [z9]
    have s12:=s1.trans s2
    refine Ld (s12 _ _ hd1B) e2 (by show dov.length + 1<=_; omega) fun c3 hc3=>?_
    obtain ⟨HE,s3,e3,z9⟩:=Aj hc3 (.lst (dov++[.ref c1]))
    rw [z9]
    have s13:=s12.trans s3
    have sBE:=sB.trans s13
    have tE:SameT H HE:=sA.1.trans sBE.t
    refine Zc0 (n:=2) (d:=.lst ((y.1.ops++[nm (i:Nat)]).map G6)) (by decide) (Al.lstD ((alo.mono (ThAt.same tE)).snoc ⟨rfl,t,rfl,sBE.tup b5⟩) (SqL.of (sBE _ _ b3)) fun v x h=>ThAt.d h) (Al.lstD ((ald1.mono (ThAt.same tE)).snoc ⟨rfl,c1,rfl,SqT.of ((s2.trans s3) _ _ e1)⟩) (SqL.of e3) fun v x h=>ThAt.d h) ?_
    walk_at "r"
    refine Bp (SqL.of (s13 _ _ hrB)) (Bc hv) ?_
    walk_at "r"
    refine Aw (s13.tup qaB) rfl ?_
    walk_at "r"
    refine Bp (SqL.of (s13 _ _ hdB)) (Bc hdv) ?_
    walk_at "r"
    refine Aw (s13.tup qdB) rfl ?_
    walk_at "r"
    refine ⟨A3,fun c4 hc4=>?_⟩
    obtain ⟨HF,s4,e4,z9⟩:=Aj hc4 (.tup [.str "num",.int (i:Nat)])
    rw [z9]
    walk_at "r"
    refine ⟨A3,fun c5 hc5=>?_⟩
    obtain ⟨HG,s5,e5,z9⟩:=Aj hc5 (.tup [.str "z",.ref c4])
    rw [z9]
    walk_at "r"
    refine ⟨Cj,fun c6 hc6=>?_⟩
    obtain ⟨HI,s6,e6,z9⟩:=Aj hc6 (.lst [.ref c5])
    rw [z9]
    have s46:=s4.trans (s5.trans s6)
    refine Ld (s46 _ _ (s13 _ _ hd2B)) e6 (by show dev.length + 1<=_; omega) fun c7 hc7=>?_
    obtain ⟨HJ,s7,e7,z9⟩:=Aj hc7 (.lst (dev++[.ref c5]))
    rw [z9]
    have s47:=s46.trans s7
    have sBJ:=sBE.trans s47
    have tJ:SameT H HJ:=sA.1.trans sBJ.t
    refine Zc0 (n:=3) (d:=.lst ((y.1.ar++[(("z" : Str),nm (i:Nat))]).map prD)) (by decide) (Al.lstD ((ale.mono (PrAt.same tJ)).snoc ⟨u,.ref z,rfl,sBJ.tup b6,rfl,z,rfl,sBJ.tup b7⟩) (SqL.of (sBJ _ _ b4)) fun v x h=>PrAt.d h) (Al.lstD ((ald2.mono (PrAt.same tJ)).snoc ⟨c5,.ref c4,rfl,SqT.of ((s6.trans s7) _ _ e5),rfl,c4,rfl,SqT.of ((s5.trans (s6.trans s7)) _ _ e4)⟩) (SqL.of e7) fun v x h=>PrAt.d h) ?_
    walk_at "r"
    exact ⟨_,rfl,sBJ⟩
   ·rintro σ' HB ⟨v2',rfl,sB⟩
    walk_at "r"
    exact q _ (sA.trans sB.a)
noncomputable def AD (H:Hp) (D:Addr):Addr->Prop:=fun b=>b=D\/H b≠none
noncomputable def Zd7 (K:O7):Sp:=fun vs H Q _=>∃ (q0 rl:Addr) (av:V) (n:Int) (rv:List V) (rows:List Rx) (A:Addr->Prop),vs=[.ref q0]/\SqT K H q0 [av,.ref rl,.int n]/\H rl=some (.lst rv)/\Al (RwX K A H) rv rows/\rows.length<=100 /\
 ∀ (r q:Addr) (ws:List V) (H':Hp),Same H H'->SqT K H' r [av,.ref q,.int n]->H q=none->H' q=some (.lst ws)->Al (RwX K (AD H q) H') ws rows->Q (.ref r) H'
theorem Zm5:(["_law_row"]:List Str).Nodup:=by decide +kernel
theorem sc_law_copy:A2 ["_law_record_here", "_law_rows"] ["_law_record_here"] (Az Ko):=by walk_at "sc"
theorem Zni {α:Type} {l:List α} {i:Nat} {c:α} (h:l[i]?=some c):l.take (i + 1)=l.take i++[c]:=by rw [R0,h]; rfl
theorem Zob {f:Addr} {fd:FuncData} (F:Fun K "_law_copy" "_law_copy" Ko f fd) (T:Txt K mg):FnOk P w K mg base An 1 f fd ["_law_record_here"] (Zd7 K):=by
 refine F.okq sc_law_copy (fun vs H Q E h=>?_) (fun cdv A outer s H vs Q E hr h=>?_)
 ·obtain ⟨q0,rl,av,n,rv,rows,A,rfl,_⟩:=h
  rfl
 ·obtain ⟨q0,rl,av,n,rv,rows,A,rfl,hq0,hrl,alr,h100,q⟩:=h
  refine ⟨_,Ad (Zb4 (i:=1) (N:=["_law_row"]) (σ0:=Ew 1 []) rfl (Jb rfl (by decide +kernel) (by decide +kernel) (by decide +kernel)) (Fj K (Ak K (qv 0) Ac)) (Hx rfl (by rfl)) (fun _ _ _ _=>Bb (i:=0) Zm5 rfl (Or.inl rfl)) (fun _ _ _ _=>Ig) (fun _ _ _ _=>Ah (Aa (Ak K (qv 0) Ac) (Aa (Ak K (qv 0) Ac) (Aa (Fc (Hz K) (by rfl) T.list (by decide +kernel) (Aa (Ak K (qv 0) Ac) Ab)) (Aa (Fc (Hz K) (by rfl) T.list (by decide +kernel) (Aa (Ak K (qv 0) Ac) Ab)) Ab))))) sc_law_copy.nd rfl (Or.inl rfl))
   (Ag (Av (Ah (Aa (Ak K (qv 0) Ac) (Aa (qv 1) (Aa (Ak K (qv 0) Ac) Ab)))))),?_⟩
  have bg:=big
  have hrv:rv.length<=100:=by rw [alr.1]; exact h100
  walk_at "r"
  refine Aw hq0 rfl ?_
  refine .inl ⟨rl,rfl,⟨_,SqL.of hrl⟩,fun D hD=>?_⟩
  have nD:rl≠D:=Cg hrl hD
  refine Mq (K:=K) (a:=rl) (xs:=rv) (Pv:=fun i ys σ' H'=>∃ v0,σ'=[v0]/\H' rl=some (.lst rv)/\ys.length=i/\Al (RwX K (AD H D) H') ys (rows.take i)/\Same H H') ⟨none,rfl,by rw [Af nD]; exact hrl,rfl,.nil,Same.upd hD⟩ ?_ ?_ ?_
  ·rintro i ys σ' H' _ ⟨_,_,e,_⟩
   exact SqL.of e
  ·rintro i x ys σ' H' hx hys ⟨v0,rfl,e,hyl,aly,sm⟩
   have hi:=(Pj.mp hx).1
   obtain ⟨rz,hrz,hrw⟩:=alr.get hx
   obtain ⟨⟨a,_,o,er,ov,ev,rfl,h2,_,h4,h5,h6,h7,_,_⟩,a2,p,o2,er2,ea,h2p,h3p⟩:=RwX.same sm.a _ _ hrw
   cases ea
   walk_at "r"
   refine Aw h2 rfl ?_
   walk_at "r"
   refine Aw h2p rfl ?_
   walk_at "r"
   refine Aw h2 rfl ?_
   refine ⟨o,ov,rfl,.inl (SqL.of h4),fun c1 hc1=>?_⟩
   have s1:=Same.upd (o:=.lst ov) hc1
   walk_at "r"
   refine Aw (s1.tup h2) rfl ?_
   refine ⟨er,ev,rfl,.inl (SqL.of (s1 _ _ h6)),fun c2 hc2=>?_⟩
   have s2:=Same.upd (o:=.lst ev) hc2
   have e1:=s2 c1 _ (Ae (H:=H') (o:=.lst ov))
   have e2:upd (upd H' c1 (.lst ov)) c2 (.lst ev) c2=some (.lst ev):=Ae
   have s12:=s1.trans s2
   have hc1':H' c1=none:=hc1
   have hc2':H' c2=none:=s1.free hc2
   revert e1 e2 s12
   generalize upd (upd H' c1 (.lst ov)) c2 (.lst ev)=H2
   intro e1 e2 s12
   walk_at "r"
   refine ⟨Fa,fun t ht=>?_⟩
   have s3:=Same.upd (o:=.tup [.str rz.wd,.ref p,.ref c1,.ref c2]) ht
   have s13:=s12.trans s3
   have hys3:=s13 _ _ hys
   have n1:c1≠D:=fun z=>by rw [z,hys] at hc1'; cases hc1'
   have n2:c2≠D:=fun z=>by rw [z,hys] at hc2'; cases hc2'
   have tS:=SameT.set (o:=.lst (ys++[.ref t])) hys3
   walk_at "r"
   refine ⟨_,hys3,by omega,_,Ae,?_⟩
   refine ⟨_,rfl,?_,by simp [hyl],?_,(sm.trans s13).over hD⟩
   ·rw [Af nD]; exact s13 _ _ e
   ·rw [Zni hrz]
    refine (aly.mono (RwX.same (s13.a.trans (SameA.set hys3 (.inl rfl))))).snoc ?_
    have hp9:upd (upd H2 t (.tup [.str rz.wd,.ref p,.ref c1,.ref c2])) D (.lst (ys++[.ref t])) p=some (.tup (rz.pl.map V.int)):=((s13.t.trans tS) p).1 _ h3p
    refine ⟨⟨t,p,c1,c2,ov,ev,rfl,tS.tup (SqT.of Ae),SqT.of hp9,?_,h5.mono (ThAt.same (s13.t.trans tS)),?_,h7.mono (PrAt.same (s13.t.trans tS)),?_,?_⟩,t,p,c1,c2,rfl,tS.tup (SqT.of Ae),hp9⟩
    ·rw [Af n1]; exact s3 _ _ e1
    ·rw [Af n2]; exact s3 _ _ e2
    ·rintro (z | z)
     ·exact n1 z
     ·exact z (sm.free hc1')
    ·rintro (z | z)
     ·exact n2 z
     ·exact z (sm.free hc2')
  ·rintro ys σ' H' hys ⟨v0,rfl,e,hyl,aly,sm⟩
   rw [alr.1,Te] at aly
   walk_at "r"
   refine Aw (sm.tup hq0) rfl ?_
   walk_at "r"
   refine Aw (sm.tup hq0) rfl ?_
   walk_at "r"
   refine ⟨Bd,fun r hr'=>?_⟩
   have s9:Same H' (upd H' r (.tup [av,.ref D,.int n])):=Same.upd hr'
   exact q r D ys _ (sm.trans s9) (SqT.of Ae) hD (s9 _ _ hys) (aly.mono (RwX.same s9.a))
noncomputable def Zde (K:O7):Sp:=fun vs H Q _=>∃ (a:Addr) (k:Int),vs=[.ref a,.int k]/\Script K H a/\0<=k/\k<=1000/\∀ z:Int,Q (.int z) H
theorem Zir:A2 ["_law_script", "_law_k"] ["_law_script", "_law_k"] (Az J0):=by walk_at "sc"
theorem Zoj {f:Addr} {fd:FuncData} (F:Fun K "_law_cell" "_law_cell" J0 f fd) (T:Txt K mg):FnOk P w K mg base An 1 f fd ["_law_script", "_law_k"] (Zde K):=by
 refine F.okq Zir (fun vs H Q E h=>?_) (fun cdv A outer s H vs Q E hr h=>?_)
 ·obtain ⟨a,k,rfl,_⟩:=h
  rfl
 ·obtain ⟨a,k,rfl,S,h0,h9,q⟩:=h
  obtain ⟨ns,hS,hl⟩:=S.ex
  refine ⟨_,Ad (A7 (A6 Jr (qv 1) (Bj (Df K) (by rfl) T.len (by decide +kernel) (Aa (qv 0) Ab)) (A5 _)) (Ag (Av (Ak K (qv 0) (qv 1)))) Ba)
   (Ag (Av (Au (B8 K) (Au Gf (qv 1) Ac) Ac))),?_⟩
  walk_at "r"
  refine Dg hS ?_
  walk_at "r"
  refine C2 (fun h=>?_) (fun h=>?_)
  ·have h1:k < (ns.map V.int).length:=by simpa using h
   obtain ⟨v,hv,m⟩:=Zb1 h0 h1
   obtain ⟨z,_,rfl⟩:=List.mem_map.mp m
   walk_at "r"
   exact Bp hS hv (q z)
  ·walk_at "r"
   exact q _
noncomputable def Nv:Sp:=fun vs H Q _=>∃ (c k:Int),vs=[.int c,.int k]/\0<=k/\k<=1000/\∀ z:Int,0<=z->z < 999999999999999989->Q (.int z) H
theorem Zqz:A2 ["_law_cell_here", "_law_k"] ["_law_cell_here", "_law_k"] (Az Kh):=by walk_at "sc"
theorem Zh4 {f:Addr} {fd:FuncData} (F:Fun K "_law_mixed" "_law_mixed" Kh f fd) (T:Txt K mg):FnOk P w K mg base An 1 f fd ["_law_cell_here", "_law_k"] Nv:=by
 refine F.okq Zqz (fun vs H Q E h=>?_) (fun cdv A outer s H vs Q E hr h=>?_)
 ·obtain ⟨a,k,rfl,_⟩:=h
  rfl
 ·obtain ⟨a,k,rfl,h0,h9,q⟩:=h
  refine ⟨_,Ag (Av (Au C5 (Au Gf (Au (B8 K) (Au (B8 K) (qv 0) (Au Gf Ac (qv 1))) Ac) Ac) Ac)),?_⟩
  walk_at "r"
  exact q _ (Qg _ (by decide)) (Qd _ (by decide))
noncomputable def G3 (K:O7) (n:Nat):Sp:=fun vs H Q _=>∃ (x y:V) (d:Dt) (m:Nat),vs=[x,y]/\m < n/\IsD K H m x d/\IsD K H m y d/\Dw d/\∀ H',Same H H'->Q (.bl true) H'
theorem sc_law_same:A2 ["_law_found", "_law_due", "_law_k"] ["_law_found", "_law_due"] (Az Hi):=by walk_at "sc"
theorem Zi8 {n:Nat} {f:Addr} {fd:FuncData} (F:Fun K "_law_same" "_law_same" Hi f fd) (T:Txt K mg) (C__law_same:A8 P w K mg base (n + 1) "_law_same" ["_law_found", "_law_due"] (G3 K n)):FnOk P w K mg base An (n + 2) f fd ["_law_found", "_law_due"] (G3 K (n + 1)):=by
 refine F.okq sc_law_same (fun vs H Q E h=>?_) (fun cdv A outer s H vs Q E hr h=>?_)
 ·obtain ⟨x,y,d,m,rfl,_⟩:=h
  rfl
 ·obtain ⟨x,y,d,m,rfl,hm,hx,hy,hd,q⟩:=h
  refine ⟨_,Ad (A7 (QW.qt (Hm (Da (Bj (Dc K "bool") (by rfl) T.isinstance (by decide +kernel) (Aa (qv 0) (Aa (C8 (v:=.ty "bool") (by rfl) T.bool (by decide +kernel) rfl) Ab)))) (Ia (Da (Bj (Dc K "bool") (by rfl) T.isinstance (by decide +kernel) (Aa (qv 1) (Aa (C8 (v:=.ty "bool") (by rfl) T.bool (by decide +kernel) rfl) Ab))))))) (Ag (Av (Ek (Bj (Dc K "bool") (by rfl) T.isinstance (by decide +kernel) (Aa (qv 0) (Aa (C8 (v:=.ty "bool") (by rfl) T.bool (by decide +kernel) rfl) Ab))) (Ek (Bj (Dc K "bool") (by rfl) T.isinstance (by decide +kernel) (Aa (qv 1) (Aa (C8 (v:=.ty "bool") (by rfl) T.bool (by decide +kernel) rfl) Ab))) (Eu (E1 (Bu K hr.u200) (qv 0) (qv 1) (A5 _))))))) Ba)
   (Ad (A7 (QW.qt (Hm (Da (Bj (Dc K "list") (by rfl) T.isinstance (by decide +kernel) (Aa (qv 1) (Aa (C8 (v:=.ty "list") (by rfl) T.list (by decide +kernel) rfl) Ab)))) (Ia (Da (Bj (Dc K "tuple") (by rfl) T.isinstance (by decide +kernel) (Aa (qv 1) (Aa (C8 (v:=.ty "tuple") (by rfl) T.tuple (by decide +kernel) rfl) Ab))))))) (Ad (A7 (QW.qt (E5 (Fv (Da (Bj (Dc K "list") (by rfl) T.isinstance (by decide +kernel) (Aa (qv 0) (Aa (C8 (v:=.ty "list") (by rfl) T.list (by decide +kernel) rfl) Ab))))) (Fn (Fv (Da (Bj (Dc K "tuple") (by rfl) T.isinstance (by decide +kernel) (Aa (qv 0) (Aa (C8 (v:=.ty "tuple") (by rfl) T.tuple (by decide +kernel) rfl) Ab)))))))) (Ag (Av Cz)) Ba)
   (Ad (A7 (QW.qt (Hm (A6 (E2 K hr.u200) (Bj (Dc K "list") (by rfl) T.isinstance (by decide +kernel) (Aa (qv 0) (Aa (C8 (v:=.ty "list") (by rfl) T.list (by decide +kernel) rfl) Ab))) (Bj (Dc K "list") (by rfl) T.isinstance (by decide +kernel) (Aa (qv 1) (Aa (C8 (v:=.ty "list") (by rfl) T.list (by decide +kernel) rfl) Ab))) (A5 _)) (Ia (A6 (E2 K hr.u200) (Bj (Df K) (by rfl) T.len (by decide +kernel) (Aa (qv 0) Ab)) (Bj (Df K) (by rfl) T.len (by decide +kernel) (Aa (qv 1) Ab)) (A5 _))))) (Ag (Av Cz)) Ba)
   (Ad (Dr Qj rfl (Hy rfl T.range (Aa (Bj (Df K) (by rfl) T.len (by decide +kernel) (Aa (qv 1) Ab)) Ab)) (Bb (i:=2) sc_law_same.nd rfl (Or.inl rfl)) (Ag (A7 (Fv (Da (A1 C__law_same (hr.mono (by omega)) (Aa (Ak K (qv 0) (qv 2)) (Aa (Ak K (qv 1) (qv 2)) Ab))))) (Ag (Av Cz)) Ba)))
   (Ag (Av Cz))))) Ba)
   (Ad (A7 (Da (Bj (Dc K "str") (by rfl) T.isinstance (by decide +kernel) (Aa (qv 1) (Aa (C8 (v:=.ty "str") (by rfl) T.str (by decide +kernel) rfl) Ab)))) (Ag (Av (Ek (Bj (Dc K "str") (by rfl) T.isinstance (by decide +kernel) (Aa (qv 0) (Aa (C8 (v:=.ty "str") (by rfl) T.str (by decide +kernel) rfl) Ab))) (Eu (E1 (Bu K hr.u200) (qv 0) (qv 1) (A5 _)))))) Ba)
   (Ad (A7 (Da (Bj (Dc K "int") (by rfl) T.isinstance (by decide +kernel) (Aa (qv 1) (Aa (C8 (v:=.ty "int") (by rfl) T.int (by decide +kernel) rfl) Ab)))) (Ag (Av (Ek (Bj (Dc K "int") (by rfl) T.isinstance (by decide +kernel) (Aa (qv 0) (Aa (C8 (v:=.ty "int") (by rfl) T.int (by decide +kernel) rfl) Ab))) (Eu (E1 (Bu K hr.u200) (qv 0) (qv 1) (A5 _)))))) Ba)
   (Ag (Av (Ek (Zdp (Zdf (qv 0))) (Eu (Zdp (Zdf (qv 1)))))))))),?_⟩
  have bg:=big
  cases hx with
  | flat hv =>
   cases hy with
   | flat _ =>
   cases x with
   | non =>
    walk_at "r"
    refine B5 (b:=false) .non rfl ?_
    walk_at "r"
    refine B5 (b:=false) .non rfl ?_
    walk_at "r"
    refine B5 (b:=false) .non rfl ?_
    walk_at "r"
    refine B5 (b:=false) .non rfl ?_
    walk_at "r"
    refine B5 (b:=false) .non rfl ?_
    walk_at "r"
    refine B5 (b:=false) .non rfl ?_
    walk_at "r"
    rw [decide_eq_true (Eq.refl _)]
    walk_at "r"
    rw [decide_eq_true (Eq.refl _)]
    walk_at "r"
    exact q H (Same.refl _)
   | bl b =>
    walk_at "r"
    refine B5 (b:=true) (.bl b) rfl ?_
    walk_at "r"
    refine B5 (b:=true) (.bl b) rfl ?_
    walk_at "r"
    refine B5 (b:=true) (.bl b) rfl ?_
    walk_at "r"
    rw [decide_eq_true (Eq.refl _)]
    walk_at "r"
    exact q H (Same.refl _)
   | int b =>
    walk_at "r"
    refine B5 (b:=false) (.int b) rfl ?_
    walk_at "r"
    refine B5 (b:=false) (.int b) rfl ?_
    walk_at "r"
    refine B5 (b:=false) (.int b) rfl ?_
    walk_at "r"
    refine B5 (b:=false) (.int b) rfl ?_
    walk_at "r"
    refine B5 (b:=false) (.int b) rfl ?_
    walk_at "r"
    refine B5 (b:=true) (.int b) rfl ?_
    walk_at "r"
    refine B5 (b:=true) (.int b) rfl ?_
    walk_at "r"
    rw [decide_eq_true (Eq.refl _)]
    walk_at "r"
    exact q H (Same.refl _)
   | str b =>
    walk_at "r"
    refine B5 (b:=false) (.str b) rfl ?_
    walk_at "r"
    refine B5 (b:=false) (.str b) rfl ?_
    walk_at "r"
    refine B5 (b:=false) (.str b) rfl ?_
    walk_at "r"
    refine B5 (b:=false) (.str b) rfl ?_
    walk_at "r"
    refine B5 (b:=true) (.str b) rfl ?_
    walk_at "r"
    refine B5 (b:=true) (.str b) rfl ?_
    walk_at "r"
    rw [decide_eq_true (Eq.refl _)]
    walk_at "r"
    exact q H (Same.refl _)
   | _=>exact absurd hv (by simp [Cu])
  | @tup k a vs ds qa la ha =>
   cases hy with
   | @tup _ c ws _ qc lc hc =>
   cases hd with
   | tup hl hds =>
   walk_at "r"
   refine Ge (b:=false) qa rfl ?_
   walk_at "r"
   refine Ge (b:=false) qc rfl ?_
   walk_at "r"
   refine Ge (b:=false) qc rfl ?_
   walk_at "r"
   refine Ge (b:=true) qc rfl ?_
   walk_at "r"
   refine Ge (b:=false) qa rfl ?_
   walk_at "r"
   refine Ge (b:=true) qa rfl ?_
   walk_at "r"
   refine Ge (b:=false) qa rfl ?_
   walk_at "r"
   refine Ge (b:=false) qc rfl ?_
   walk_at "r"
   rw [decide_eq_true (Eq.refl _)]
   walk_at "r"
   refine Fl qa ?_
   walk_at "r"
   refine Fl qc ?_
   walk_at "r"
   rw [la,lc,decide_eq_true (Eq.refl _)]
   walk_at "r"
   refine Fl qc ?_
   walk_at "r"
   rw [lc]
   refine ⟨by omega,by omega,?_⟩
   refine F8 (n:=(ds.length:Int).toNat) (fun i σ' H'=>∃ v2,σ'=[some (.ref a),some (.ref c),v2]/\Same H H') ⟨none,rfl,Same.refl _⟩ ?_ ?_
   ·rintro i σ' H' hi ⟨v2,rfl,sm⟩
    have hi:i < ds.length:=by omega
    have e0:(0:Int) + (i:Int)=((i:Nat):Int):=by omega
    rw [e0]
    have hiv:i < vs.length:=by omega
    have hiw:i < ws.length:=by omega
    walk_at "r"
    refine Aw (sm.tup qa) (Bc (Pb hiv)) ?_
    walk_at "r"
    refine Aw (sm.tup qc) (Bc (Pb hiw)) ?_
    walk_at "r"
    refine ⟨vs[i],ws[i],ds[i],k,rfl,by omega,(ha i _ _ (Pb hiv) (Pb hi)).same sm,(hc i _ _ (Pb hiw) (Pb hi)).same sm,hds _ (Vw hi),fun H2 s2=>?_⟩
    walk_at "r"
    exact ⟨_,rfl,sm.trans s2⟩
   ·rintro σ' H' ⟨v2,rfl,sm⟩
    walk_at "r"
    exact q H' sm
  | @lst k a vs ds qa la ha =>
   cases hy with
   | @lst _ c ws _ qc lc hc =>
   cases hd with
   | lst hl hds =>
   walk_at "r"
   refine Hj (b:=false) qa rfl ?_
   walk_at "r"
   refine Hj (b:=false) qc rfl ?_
   walk_at "r"
   refine Hj (b:=true) qc rfl ?_
   walk_at "r"
   refine Hj (b:=true) qa rfl ?_
   walk_at "r"
   refine Hj (b:=true) qa rfl ?_
   walk_at "r"
   refine Hj (b:=true) qc rfl ?_
   walk_at "r"
   rw [decide_eq_true (Eq.refl _)]
   walk_at "r"
   refine Dg qa ?_
   walk_at "r"
   refine Dg qc ?_
   walk_at "r"
   rw [la,lc,decide_eq_true (Eq.refl _)]
   walk_at "r"
   refine Dg qc ?_
   walk_at "r"
   rw [lc]
   refine ⟨by omega,by omega,?_⟩
   refine F8 (n:=(ds.length:Int).toNat) (fun i σ' H'=>∃ v2,σ'=[some (.ref a),some (.ref c),v2]/\Same H H') ⟨none,rfl,Same.refl _⟩ ?_ ?_
   ·rintro i σ' H' hi ⟨v2,rfl,sm⟩
    have hi:i < ds.length:=by omega
    have e0:(0:Int) + (i:Int)=((i:Nat):Int):=by omega
    rw [e0]
    have hiv:i < vs.length:=by omega
    have hiw:i < ws.length:=by omega
    walk_at "r"
    refine Bp (sm.seq qa) (Bc (Pb hiv)) ?_
    walk_at "r"
    refine Bp (sm.seq qc) (Bc (Pb hiw)) ?_
    walk_at "r"
    refine ⟨vs[i],ws[i],ds[i],k,rfl,by omega,(ha i _ _ (Pb hiv) (Pb hi)).same sm,(hc i _ _ (Pb hiw) (Pb hi)).same sm,hds _ (Vw hi),fun H2 s2=>?_⟩
    walk_at "r"
    exact ⟨_,rfl,sm.trans s2⟩
   ·rintro σ' H' ⟨v2,rfl,sm⟩
    walk_at "r"
    exact q H' sm
noncomputable def LETS:Str := "abcdefghijklmnopqrstuvwxyz_"
theorem Zib:LETS.cps.toList.length=27:=by decide +kernel
theorem Zo7:LETS.length<=sizeLine:=by decide +kernel
theorem Znq (u v:Str):(u++v).length=u.length + v.length:=by
 show (u.cps++v.cps).size=_
 simp [Str.length]
theorem Zha (c:Nat):(⟨#[c]⟩:Str).length=1:=rfl
noncomputable def Zg6:Sp:=fun vs H Q _=>∃ (a:Int),vs=[.int a,.int 3]/\∀ (p:Addr) (t0 t1 t2:Str) (H':Hp),Same H H'->H p=none->t0≠t1->H' p=some (.lst [.str t0,.str t1,.str t2])->Q (.ref p) H'
theorem sc_law_names:A2 ["_law_cell_here", "_law_many", "_law_signs", "_law_kept", "_law_size", "_law_at", "_law_names_here", "_law_k", "_law_word", "_law_j", "_law_step"] ["_law_cell_here", "_law_many"] (Az Jq):=by walk_at "sc"
theorem Zr2 {α:Type} {xs:List α} (h:xs.length=3):∃ a b c,xs=[a,b,c]:=by
 match xs,h with
 | [a,b,c],_=>exact ⟨a,b,c,rfl⟩
noncomputable def D4 (a:Int):Int:=a / 8 % (1 + a % 8)
noncomputable def LetJ (a:Int) (j:Nat) (t:Str):Prop:=∃ c,t.cps.toList[(D4 a).toNat]?=some c/\Cm LETS.cps.toList ((a / 64 / (D4 a + 1) + 5 * D4 a + (0 + (j:Int)) * 1) % 27)=some c
theorem Zd9 (t u:Str):(t++u).cps.toList=t.cps.toList++u.cps.toList:=by
 show (t.cps++u.cps).toList=_
 simp
theorem LetJ.app {a:Int} {j:Nat} {t:Str} (h:LetJ a j t) (u:Str):LetJ a j (t++u):=by
 obtain ⟨c,h1,h2⟩:=h
 refine ⟨c,?_,h2⟩
 rw [Zd9,P0 (Pj.mp h1).1]
 exact h1
theorem Zkf:∀ i,i < 27->∀ j,j < 27->LETS.cps.toList[i]?=LETS.cps.toList[j]?->i=j:=by decide +kernel
theorem Zgc {α:Type} {xs:List α} {i:Int} {x:α} (h0:0<=i) (h:Cm xs i=some x):xs[i.toNat]?=some x:=by
 unfold Cm Fd at h
 rw [if_pos h0] at h
 by_cases hl:i < (xs.length:Int)
 ·rw [if_pos hl] at h
  simpa using h
 ·rw [if_neg hl] at h
  simp at h
theorem LetJ.ne {a:Int} {t0 t1:Str} (h0:LetJ a 0 t0) (h1:LetJ a 1 t1):t0≠t1:=by
 rintro rfl
 obtain ⟨c,g,e⟩:=h0
 obtain ⟨c',g',e'⟩:=h1
 rw [g] at g'
 cases g'
 generalize a / 64 / (D4 a + 1) + 5 * D4 a=E at e e'
 have b0:=Qg (E + (0 + ((0:Nat):Int)) * 1) (show (27:Int)≠0 by decide)
 have b1:=Qd (E + (0 + ((0:Nat):Int)) * 1) (show (0:Int) < 27 by decide)
 have c0:=Qg (E + (0 + ((1:Nat):Int)) * 1) (show (27:Int)≠0 by decide)
 have c1:=Qd (E + (0 + ((1:Nat):Int)) * 1) (show (0:Int) < 27 by decide)
 have:=Zkf _ (by omega) _ (by omega) ((Zgc b0 e).trans (Zgc c0 e').symm)
 omega
noncomputable def J5:List V:=[.str "let",.str "in",.str "if",.str "then",.str "else",.str "fn",.str "rec",.str "yes",.str "no"]
noncomputable def NmJ (H:Hp) (a:Int) (D p:Addr) (j:Nat) (σ':St) (H':Hp):Prop:=∃ (v7 v8 v9 v10:Option V) (ts:List Str),σ'=[some (.int a),some (.int 3),some (.str LETS),some (.ref D),some (.int (1 + a % 8)),some (.int (a / 8 % (1 + a % 8))),some (.ref p),v7,v8,v9,v10]/\H' D=some (.lst J5)/\H' p=some (.lst (ts.map V.str))/\ts.length=j/\Same H H'/\∀ (i:Nat) (x:Str),ts[i]?=some x->LetJ a i x
theorem Zjx {f:Addr} {fd:FuncData} (F:Fun K "_law_names" "_law_names" Jq f fd) (T:Txt K mg) (C__law_mixed:A8 P w K mg base 1 "_law_mixed" ["_law_cell_here", "_law_k"] Nv):FnOk P w K mg base An 2 f fd ["_law_cell_here", "_law_many"] Zg6:=by
 refine F.okq sc_law_names (fun vs H Q E h=>?_) (fun cdv A outer s H vs Q E hr h=>?_)
 ·obtain ⟨a,rfl,_⟩:=h
  rfl
 ·obtain ⟨a0,rfl,q⟩:=h
  refine ⟨_,Ad (Ay 2 sc_law_names Ar)
   (Ad (Ay 3 sc_law_names (Bm (Zg5 (xs:=[.str "let",.str "in",.str "if",.str "then",.str "else",.str "fn",.str "rec",.str "yes",.str "no"]) rfl)))
   (Ad (Ay 0 sc_law_names (A1 C__law_mixed hr.m (Aa (qv 0) (Aa Ac Ab))))
   (Ad (Ay 4 sc_law_names (Au (B8 K) Ac (Au C5 (qv 0) Ac)))
   (Ad (Ay 5 sc_law_names (Au C5 (Au E4 (qv 0) Ac) (qv 4)))
   (Ad (Ay 6 sc_law_names (Bm Ab))
   (Ad (Dr Qj rfl (Hy rfl T.range (Aa (qv 1) Ab)) (Bb (i:=7) sc_law_names.nd rfl (Or.inl rfl)) (Ad (Ay 8 sc_law_names Ar)
   (Ad (Dr Qj rfl (Hy rfl T.range (Aa (qv 4) Ab)) (Bb (i:=9) sc_law_names.nd rfl (Or.inl rfl)) (Ad (Ay 10 sc_law_names (Au (B8 K) (Au E4 (Au E4 (qv 0) Ac) (Au (B8 K) (qv 9) Ac)) (Au Gf Ac (qv 9))))
   (Ag (Ay 8 sc_law_names (Au (B8 K) (qv 8) (Ak K (qv 2) (Au C5 (Au (B8 K) (qv 10) (Au Gf (qv 7) (Fc Zpt (by rfl) T.int (by decide +kernel) (Aa (E1 (Bu K hr.u200) (qv 9) (qv 5) (A5 _)) Ab)))) Ac)))))))
   (Ad (A7 (A6 (Hf K) (qv 8) (qv 3) (by rfl)) (Ag (Ay 8 sc_law_names (Au (B8 K) (qv 8) Ar))) Ba)
   (Ag (Be (B2 K Po Py Pz B6 (qv 6) (Aa (qv 8) Ab))))))))
   (Ag (Av (qv 6))))))))),?_⟩
  have bg:=big
  walk_at "r"
  refine ⟨sz9,fun D hD=>?_⟩
  walk_at "r"
  refine ⟨a0,3,rfl,by decide,by decide,fun a ha0 ha1=>?_⟩
  have hs0:0<=a % 8:=Qg a (by decide)
  have hs1:a % 8 < 8:=Qd a (by decide)
  walk_at "r"
  refine s_rI (by show (0:Int) < 1 + a % 8; omega) ?_
  walk_at "r"
  refine ⟨A9,fun p hp=>?_⟩
  have hpD:D≠p:=fun z=>by rw [<- z,Ae] at hp; cases hp
  have hp0:H p=none:=(Same.upd hD).free hp
  have sm0:Same H (upd (upd H D (.lst J5)) p (.lst [])):=(Same.upd (o:=.lst J5) hD).put hp
  have hD0:upd (upd H D (.lst J5)) p (.lst []) D=some (.lst J5):=by rw [Af hpD]; exact Ae
  walk_at "r"
  refine ⟨by decide,by decide,?_⟩
  have hat:0<=D4 a/\D4 a < 1 + a % 8:=⟨Qg _ (by omega),Qd _ (by omega)⟩
  refine F8 (n:=3) (NmJ H a D p) ⟨_,_,_,_,[],rfl,hD0,Ae,rfl,sm0,fun i x h=>by simp at h⟩ ?_ ?_
  ·rintro j σ' H2 hj ⟨v7,v8,v9,v10,ts,rfl,hD2,hp2,hl2,sm2,lt2⟩
   walk_at "r"
   refine ⟨by omega,by omega,?_⟩
   refine F8 (n:=(1 + a % 8).toNat) (fun k σ' H'=>∃ v9 v10 t,σ'=[some (.int a),some (.int 3),some (.str LETS),some (.ref D),some (.int (1 + a % 8)),some (.int (a / 8 % (1 + a % 8))),some (.ref p),some (.int (0 + j)),some (.str t),v9,v10]/\t.length=k/\((D4 a).toNat < k->LetJ a j t)/\H'=H2) ⟨_,_,Str.empty,rfl,rfl,(fun h=>absurd h (V8 _)),rfl⟩ ?_ ?_
   ·rintro k σ' H3 hk ⟨v9',v10',t,rfl,hl3,lt3,rfl⟩
    walk_at "r"
    refine s_rI (by show (0:Int) < 0 + k + 1/\(0:Int) + k + 1 < 1073741824; omega) ?_
    walk_at "r"
    refine s_mul_r (by split <;> decide) (by split <;> decide) ?_
    walk_at "r"
    obtain ⟨c,hc,_⟩:=Zb1 (xs:=LETS.cps.toList) (i:=(a / 64 / (0 + (k:Int) + 1) + 5 * (0 + (k:Int)) + (0 + (j:Int)) * (if decide (V.int (0 + (k:Int))=V.int (a / 8 % (1 + a % 8)))=true then 1 else 0)) % 27) (Qg _ (by decide)) (by rw [Zib]; exact Qd _ (by decide))
    refine Zda Zo7 hc ?_
    refine Nr (by rw [Zha]; omega) ?_
    refine ⟨_,_,_,rfl,by rw [Znq,Zha]; omega,fun hlt=>?_,rfl⟩
    by_cases hk2:(D4 a).toNat < k
    ·exact (lt3 hk2).app _
    ·have ek:(0:Int) + (k:Int)=D4 a:=by omega
     have en:(D4 a).toNat=t.cps.toList.length:=by
      have:t.cps.toList.length=t.length:=by simp [Str.length]
      omega
     refine ⟨c,?_,?_⟩
     ·rw [Zd9,en]
      simp
     ·rw [<- hc,ek,decide_eq_true (show V.int (D4 a)=V.int (a / 8 % (1 + a % 8)) from rfl),if_pos rfl]
   ·rintro σ' H3 ⟨v9',v10',t,rfl,hl3,lt3,rfl⟩
    walk_at "r"
    refine Gk (.inl (SqL.of hD2)) rfl rfl ?_
    have ltE:LetJ a j t:=lt3 (by omega)
    have fin:∀ (t':Str),LetJ a j t'->NmJ H a D p (j + 1) [some (.int a),some (.int 3),some (.str LETS),some (.ref D),some (.int (1 + a % 8)),some (.int (a / 8 % (1 + a % 8))),some (.ref p),some (.int (0 + (j:Int))),some (.str t'),v9',v10'] (upd H3 p (.lst (ts.map V.str++[.str t']))):=fun t' lt' =>
     ⟨_,_,_,_,ts++[t'],rfl,by rw [Af hpD]; exact hD2,by rw [Ae,Qo]; rfl,by simp [hl2],sm2.over hp0,fun i x hx=>by
      by_cases hi:i < ts.length
      ·rw [P0 hi] at hx
       exact lt2 i x hx
      ·have hi2:i < (ts++[t']).length:=(Pj.mp hx).1
       rw [Pc,Ph] at hi2
       have ei:i=ts.length:=by omega
       rw [ei,Tw] at hx
       cases hx
       rw [ei,hl2]
       exact lt'⟩
    walk_at "r"
    refine C2 (fun _=>?_) (fun _=>?_)
    ·walk_at "r"
     have l1:(Ql "_").length=1:=by decide +kernel
     refine Nr (by rw [l1]; omega) ?_
     walk_at "r"
     refine Br (SqL.of hp2) ?_
     walk_at "r"
     refine B4 hp2 (by rw [Pi]; omega) ?_
     exact fin _ (ltE.app _)
    ·walk_at "r"
     refine Br (SqL.of hp2) ?_
     walk_at "r"
     refine B4 hp2 (by rw [Pi]; omega) ?_
     exact fin _ ltE
  ·rintro σ' H2 ⟨v7,v8,v9,v10,ts,rfl,hD2,hp2,hl2,sm2,lt2⟩
   obtain ⟨t0,t1,t2,rfl⟩:=Zr2 hl2
   walk_at "r"
   exact q p _ _ _ _ sm2 hp0 ((lt2 0 t0 rfl).ne (lt2 1 t1 rfl)) hp2
noncomputable def Zei:Sp:=fun vs H Q _=>∃ c:Int,vs=[.int c]/\∀ z:Int,Q (.int z) H
theorem Zq7:A2 ["_law_cell_here"] ["_law_cell_here"] (Az Kc):=by walk_at "sc"
theorem Zlk {f:Addr} {fd:FuncData} (F:Fun K "_law_number" "_law_number" Kc f fd) (T:Txt K mg):FnOk P w K mg base An 1 f fd ["_law_cell_here"] Zei:=by
 refine F.okq Zq7 (fun vs H Q E h=>?_) (fun cdv A outer s H vs Q E hr h=>?_)
 ·obtain ⟨c,rfl,_⟩:=h
  rfl
 ·obtain ⟨c,rfl,q⟩:=h
  refine ⟨_,Ad (A7 (A6 (Bu K hr.u200) (Au C5 (qv 0) Ac) Ac (A5 _)) (Ag (Av (Au C5 (Au E4 (qv 0) Ac) Ac))) Ba)
   (Ad (A7 (A6 (Bu K hr.u200) (Au C5 (qv 0) Ac) Ac (A5 _)) (Ag (Av (Au El (Au El (Au Zgo Ac Ac) Ac) (Au C5 (Au E4 (qv 0) Ac) Ac)))) Ba)
   (Ag (Av (Au C5 (Au Gf (qv 0) Ac) (Au Zgo Ac Ac))))),?_⟩
  walk_at "r"
  refine C2 (fun h=>?_) (fun h=>?_)
  ·walk_at "r"
   exact q _
  walk_at "r"
  refine C2 (fun h=>?_) (fun h=>?_)
  ·walk_at "r"
   exact q _
  walk_at "r"
  exact q _
theorem Zno {x:Str} (hx:x.length=1) {n:Int} (h0:0<=n) (h1:n < 60):MulOk x n:=by
 obtain ⟨k,rfl⟩:∃ k:Nat,n=(k:Int):=⟨n.toNat,by omega⟩
 unfold MulOk
 rw [hx]
 have hk:k < 60:=by omega
 clear h0 h1
 have all:∀ k:Nat,k < 60->(decide ((k:Int) < -(2 ^ 63:Int)) || decide ((k:Int) ≥ 2 ^ 63))=false/\(¬ (k:Int) < 1->((k:Int) == 1 || (1:Nat) == 0)=false->¬ (((1:Nat):Int) > (2 ^ 63 - 1) / (k:Int)))/\(¬ (k:Int) < 1->((k:Int) == 1 || (1:Nat) == 0)=false->Builtin.Str.tooLong (1 * (k:Int).toNat)=false):=by decide +kernel
 exact all k hk
noncomputable def Zcw:Sp:=fun vs H Q _=>∃ c:Int,vs=[.int c]/\∀ t:Str,Q (.str t) H
noncomputable def SGN:Str := "!\"#$&'*+,-./0123456789:;<=>?@ABCDEFGHIJKLMNOPQRSTUVWXYZ[\\]^_`abcdefghijklmnopqrstuvwxyz{|}~"
theorem Zc5:A2 ["_law_cell_here", "_law_signs"] ["_law_cell_here"] (Az Jd):=by walk_at "sc"
theorem Zl7 {f:Addr} {fd:FuncData} (F:Fun K "_law_odd" "_law_odd" Jd f fd) (T:Txt K mg):FnOk P w K mg base An 1 f fd ["_law_cell_here"] Zcw:=by
 refine F.okq Zc5 (fun vs H Q E h=>?_) (fun cdv A outer s H vs Q E hr h=>?_)
 ·obtain ⟨c,rfl,_⟩:=h
  rfl
 ·obtain ⟨c,rfl,q⟩:=h
  refine ⟨_,Ad (Ay 1 Zc5 Ar)
   (Ag (Av (Au (B8 K) Ar (Au Zi5 (Ak K (qv 1) (Au C5 (qv 0) (Bj (Df K) (by rfl) T.len (by decide +kernel) (Aa (qv 1) Ab)))) (Au C5 (Au E4 (qv 0) Ac) Ac))))),?_⟩
  walk_at "r"
  have sz:SGN.length<=sizeLine:=by decide +kernel
  have sl:SGN.length=91:=by decide +kernel
  refine Zie (z:=SGN) sz ?_
  refine s_rI (by rw [sl]; decide) ?_
  rw [sl]
  have cl:SGN.cps.toList.length=91:=by decide +kernel
  obtain ⟨k,hk,_⟩:=Zb1 (xs:=SGN.cps.toList) (i:=c % ((91:Nat):Int)) (Qg _ (by decide)) (by rw [cl]; exact Qd _ (by decide))
  refine Zda (z:=SGN) sz hk ?_
  walk_at "r"
  have h0:0<=c / 97 % 60:=Qg _ (by decide)
  have h1:c / 97 % 60 < 60:=Qd _ (by decide)
  refine ⟨_,_,rfl,rfl,Zno rfl h0 h1,?_⟩
  refine Nr ?_ (q _)
  have h2:=PyProof.Rows.len_mul_one (y:=⟨#[k]⟩) (c:=k) (n:=c / 97 % 60) (N:=60) rfl (by omega)
  have h3:(Ql "=").length=1:=by decide +kernel
  have h4:100<=sizeLine:=by decide
  omega
theorem viaS {t:TS} {X:St->Hp->Prop} {rt:VK} {bk ct:St->Hp->Prop} {σ:St} {H:Hp} (R:St->Hp->Prop) (h2:∀ σ' H',R σ' H'->X σ' H') (h1:∀ Y:St->Hp->Prop,(∀ σ' H',R σ' H'->Y σ' H')->t ⟨Y,rt,bk,ct⟩ σ H):t ⟨X,rt,bk,ct⟩ σ H:=h1 X h2
noncomputable def Lx (x:Str×V) (rs:List Rx) (n:Int):Dt:=.tup [G6 x,.lst (rs.map rzD),.flat (.int n)]
theorem F7 {K:O7} {H:Hp} {A:Addr->Prop} {r rd:Addr} {av:V} {rv:List V} {x:Str×V} {rs:List Rx} {n:Int} (q:SqT K H r [av,.ref rd,.int n]) (hx:ThAt K H av x) (hr:H rd=some (.lst rv)) (al:Al (RwAt K A H) rv rs):IsD K H 6 (.ref r) (Lx x rs n):=by
 refine .tup q rfl fun j v d h1 h2=>?_
 match j,h1,h2 with
 | 0,h1,h2=>cases h1; cases h2; exact (ThAt.d hx).up (by decide)
 | 1,h1,h2=>cases h1; cases h2; exact Al.lstD al (SqL.of hr) fun v x h=>RwAt.d h
 | 2,h1,h2=>cases h1; cases h2; exact .flat rfl
theorem SqL.sa {K:O7} {HP HI HJ:Hp} {Y:Addr->Prop} {a:Addr} {xs:List V} (h:SqL K HP a xs) (s:Same HP HI) (e:SameA Y HI HJ) (n:∀ b,HP b≠none->¬ Y b):SqL K HJ a xs:=by
 rcases h with (h | ⟨o,h⟩) | h
 ·exact .inl (.inl (e.2 _ _ (n _ (by rw [h]; simp)) (s _ _ h)))
 ·exact .inl (.inr ⟨o,(e.1 a).2 _ _ (s _ _ h)⟩)
 ·exact .inr h
theorem Zll {K:O7} {HP HI HJ:Hp} {Y:Addr->Prop} {a:Addr} (S:Script K HP a) (s:Same HP HI) (e:SameA Y HI HJ) (n:∀ b,HP b≠none->¬ Y b):Script K HJ a:=by
 obtain ⟨ns,h1,h2⟩:=S
 exact ⟨ns,SqL.sa h1 s e n,h2⟩
theorem Il {n0:Str} {ns:List Str} {c:Int} {m:Nat} (hm:m<=57) (F:Fm1):(B3 n0 ns c F.g m).length<=100:=by
 have h:=(Fo (n0:=n0) (ns:=ns) (c:=c) (F:=F.g) m).1
 have l:=Ob F
 unfold B3
 rw [Pc,Pc,Ph,Ph]
 omega
theorem Zfi {n0:Str} {ns:List Str} {c:Int} {F:(Str×V)×List Rx} (hF:∀ x∈F.2,x.pl.length<=100/\x.ops.length<=100/\x.ar.length<=100):∀ k,k<=60->∀ x∈(dG n0 ns c F k).2.1,x.pl.length<=100/\x.ops.length<=100/\x.ar.length<=100
 | 0,_,x,hx=>hF x hx
 | k + 1,hk,x,hx=>by
  unfold dG at hx
  rcases Qu.mp hx with h | h
  ·exact Zfi hF k (by omega) x h
  ·unfold A4 at h
   split at h
   ·exact nomatch h
   ·rw [Qt.mp h]
    refine ⟨?_,by show 2<=100; decide,Pu _⟩
    show (As ([1]++oo k++[0])).length<=100
    unfold As oo
    simp only [Pi,Pc,Sv,Ph]
    omega
theorem Zj9 (wd:Str) (nv:V) (k:Nat) (pl:List Nat):∀ x∈(Bh wd nv k pl []).2,x.pl=As pl/\x.ops=[]/\x.ar=[]:=by
 rw [Mn]
 split
 ·intro x hx; exact nomatch hx
 ·intro x hx; rw [Qt.mp hx]; exact ⟨rfl,rfl,rfl⟩
theorem Zkh (F:Fm1):∀ x∈F.g.2,x.pl.length<=100/\x.ops.length<=100/\x.ar.length<=100:=by
 have lf:∀ (a:Str×V) (k:Nat) (pl:List Nat),pl.length<=2->∀ x∈(Bh a.1 a.2 k pl []).2,x.pl.length<=100/\x.ops.length<=100/\x.ar.length<=100:=fun a k pl hp x hx=>by
  obtain ⟨h1,h2,h3⟩:=Zj9 _ _ _ _ x hx
  rw [h1,h2,h3]
  exact ⟨by unfold As; rw [Pi]; omega,by decide,by decide⟩
 cases F with
 | leaf a=>exact lf a 0 [0] (by decide)
 | plus a b =>
  intro x hx
  have hx:x∈(fL a).2++(fR a b).2++(fJ a b).2:=hx
  rcases Qu.mp hx with hx | hx
  ·rcases Qu.mp hx with hx | hx
   ·exact lf a 0 [0,0] (by decide) x hx
   ·exact lf b _ [0,1] (by decide) x hx
  ·unfold fJ A4 at hx
   split at hx
   ·exact nomatch hx
   ·rw [Qt.mp hx]
    exact ⟨by show (As [0]).length<=100; decide,by show 2<=100; decide,Pu _⟩
theorem Zdm {n0:Str} {ns:List Str} {c:Int} {m:Nat} (hm:m<=57) (F:Fm1):∀ x∈B3 n0 ns c F.g m,x.pl.length<=100/\x.ops.length<=100/\x.ar.length<=100:=by
 intro x hx
 have l:=(Fo (n0:=n0) (ns:=ns) (c:=c) (F:=F.g) m).2
 unfold B3 at hx
 have ol:(oo m).length=m:=Sv ..
 rcases Qu.mp hx with h | h
 ·rcases Qu.mp h with h | h
  ·exact Zfi (Zkh F) m (by omega) x h
  ·rw [Qt.mp h]
   refine ⟨?_,Pu _,by show (dG n0 ns c F.g m).2.2.length<=100; omega⟩
   show (As ([1]++oo m++[1])).length<=100
   unfold As
   simp only [Pi,Pc,ol,Ph]
   omega
 ·rw [Qt.mp h]
  refine ⟨?_,by show 2<=100; decide,Pu _⟩
  show (As ([1]++oo m)).length<=100
  unfold As
  simp only [Pi,Pc,ol,Ph]
  omega
theorem J7 {n0:Str} {ns:List Str} {c:Int} {m:Nat} (hm:m<=57) (F:Fm1) (x:Str×V) (n:Int):Dw (Lx x (B3 n0 ns c F.g m) n):=.tup (by show 3<=5000; decide) fun d hd=>by
 simp only [Pm,P9,or_false] at hd
 rcases hd with rfl | rfl | rfl
 ·exact Of _
 ·have h:=Il (n0:=n0) (ns:=ns) (c:=c) hm F
  exact Nc (by omega) fun x hx=>Zsk (by
   obtain ⟨h1,h2,h3⟩:=Zdm hm F x hx
   exact ⟨by omega,by omega,by omega⟩)
 ·exact .flat _
open K19 in
theorem Zc3 {K:O7} {n0:Str} {ns:List Str} {c:Int} {m:Nat} {F F' tf:Fm1} {fl:List Nat} {n n':Int} (fit:Fit n0 ns c m F F' tf fl n n') (hm:m<=57) {H:Hp} {tv fv av:V} {p q0 rd:Addr} {rv:List V} {Y:VK} (htv:TrAt K H tv (wT n0 ns c m F.t)) (hp:SqT K H p (A0 fl)) (hf:TrAt K H fv tf.t) (hq:SqT K H q0 [av,.ref rd,.int n]) (hrd:H rd=some (.lst rv)) (al:Al (RwX K (fun b=>b=rd) H) rv (B3 n0 ns c F.g m)) (ha:ThAt K H av (De n0 ns c F.g m))
  (hY:∀ (r' rd':Addr) (av':V) (rv':List V) (H':Hp),Same H H'->SqT K H' r' [av',.ref rd',.int n']->ThAt K H' av' (De n0 ns c F'.g m)->H' rd'=some (.lst rv')->Al (RwX K (fun b=>b=rd'\/H b≠none) H') rv' (B3 n0 ns c F'.g m)->SepR K (fun b=>b=rd'\/H b≠none) H' rv' (B3 n0 ns c F'.g m)->H rd'=none->Y (.ref r') H'):Oo K [tv,.ref q0,.ref p,fv] H Y E0:=by
 obtain ⟨bc,G,nok,en⟩:=fit.go
 have z1:=Zaa F
 have z2:=Zaa F'
 have G':GoG (B9 (Ci (wT n0 ns c m F.t) fl tf.t)) fl (B3 n0 ns c F.g m) [] ⟨[],[],[],n⟩ bc ⟨B3 n0 ns c F'.g m,[],[],n'⟩:=by rw [fit.wat]; exact G
 refine ⟨tv,fv,av,wT n0 ns c m F.t,tf.t,p,q0,rd,fl,.flat .non,[],n,rv,B3 n0 ns c F.g m,De n0 ns c F.g m,bc,_,rfl,htv,by rw [Mb]; omega,hp,fit.sub,fit.le,fit.path,hf,by rw [fit.wat,Mb]; omega,hq,fit.n5,hrd,al,by have:=Il (n0:=n0) (ns:=ns) (c:=c) hm F; omega,ha,G',nok,fun r' rd' av' rv' H' s' q' t' e' al' sp' nr=>?_⟩
 rw [en] at t'
 exact hY r' rd' av' rv' H' s' q' t' e' al' sp' nr
noncomputable def Zep (K:O7):Sp:=fun vs H Q _=>∃ (a:Addr) (ns:List Int),vs=[.ref a]/\SqL K H a (ns.map V.int)/\ns.length<=63/\∀ H',Q (.bl true) H'
theorem Cq:A2 ["_law_script", "_law_names_here", "_law_other", "_law_count", "_law_many", "_law_tree_here", "_law_gap", "_law_number_here", "_law_pick", "_law_form", "_law_steps", "_law_record_here", "_law_handed", "_law_found", "_law_more", "_law_due", "_law_kept", "_law_last"] ["_law_script"] (Az Kb):=by walk_at "sc"
local macro_rules | `(tactic| walk_at "r1")=>`(tactic| with_reducible first | refine Zpp (fun _ _=>?_) | refine Zea (by assumption) ?_)
theorem Zl3 {N_TooLong:Addr} {f:Addr} {fd:FuncData} (F:Fun K "law" "law" Kb f fd) (T:Txt K mg) (C__law_cell:A8 P w K mg base 1 "_law_cell" ["_law_script", "_law_k"] (Zde K)) (C__law_mixed:A8 P w K mg base 1 "_law_mixed" ["_law_cell_here", "_law_k"] Nv) (C__law_names:A8 P w K mg base 2 "_law_names" ["_law_cell_here", "_law_many"] Zg6) (C__law_number:A8 P w K mg base 1 "_law_number" ["_law_cell_here"] Zei) (C__law_odd:A8 P w K mg base 1 "_law_odd" ["_law_cell_here"] Zcw) (C__law_tree:A8 P w K mg base 2 "_law_tree" ["_law_names_here", "_law_count", "_law_many"] (Zho K)) (C__law_endless:A8 P w K mg base 1 "_law_endless" ["_law_names_here", "_law_many"] (Zek K)) (C__law_record:A8 P w K mg base 3 "_law_record" ["_law_names_here", "_law_count", "_law_many", "_law_form", "_law_steps"] (Zct K)) (C__law_copy:A8 P w K mg base 1 "_law_copy" ["_law_record_here"] (Zd7 K))
  (C_go_on:A8 P w K mg base 8 "go_on" ["tree", "record", "place", "form"] (Oo K)) (C__law_late:A8 P w K mg base 9 "_law_late" ["_law_tree_here", "_law_record_here", "_law_form"] (Zcq K N_TooLong)) (C__law_filled:A8 P w K mg base 1 "_law_filled" ["_law_tree_here", "_law_form"] (Zgj K)) (C__law_apart:A8 P w K mg base 1 "_law_apart" ["_law_rows", "_law_due"] (Zgb K)) (C__law_same:A8 P w K mg base 9 "_law_same" ["_law_found", "_law_due"] (G3 K 8)):FnOk P w K mg base An 10 f fd ["_law_script"] (Zep K):=by
 refine F.okq Cq (fun vs H Q E h=>?_) (fun cdv A outer s H vs Q E hr h=>?_)
 ·obtain ⟨a,ns,rfl,_⟩:=h
  rfl
 ·obtain ⟨a,ns,rfl,hS,hn,q⟩:=h
  have S:Script K H a:=⟨ns,hS,hn⟩
  refine ⟨_,Ad (Ay 1 Cq (A1 C__law_names hr.m (Aa (A1 C__law_cell hr.m (Aa (qv 0) (Aa Ac Ab))) (Aa Ac Ab))))
   (Ad (Ay 2 Cq (A1 C__law_mixed hr.m (Aa (A1 C__law_cell hr.m (Aa (qv 0) (Aa Ac Ab))) (Aa Ac Ab))))
   (Ad (Ay 3 Cq (Au (B8 K) Ac (Au C5 (Au E4 (qv 2) Ac) Ac)))
   (Ad (Ay 4 Cq (Au C5 (A1 C__law_cell hr.m (Aa (qv 0) (Aa Ac Ab))) Ac))
   (Ad (A7 (A6 (Bu K hr.u200) (Au C5 (qv 2) Ac) Ac (A5 _)) (Ag (Ay 4 Cq (Au C5 (Au E4 (qv 2) Ac) Ac))) Ba)
   (Ad (Ay 5 Cq (A1 C__law_tree hr.m (Aa (qv 1) (Aa (qv 3) (Aa (qv 4) Ab)))))
   (Ad (Ay 6 Cq (Ah (Aa Ar (Aa Em (Aa (Ah Ab) Ab)))))
   (Ad (Ay 7 Cq (Ah (Aa Ar (Aa (A1 C__law_number hr.m (Aa (A1 C__law_cell hr.m (Aa (qv 0) (Aa Ac Ab))) Ab)) (Aa (Ah Ab) Ab)))))
   (Ad (Ay 8 Cq (Au C5 (A1 C__law_cell hr.m (Aa (qv 0) (Aa Ac Ab))) Ac))
   (Ad (Ay 9 Cq (Ak K (Bm (Aa (qv 7) (Aa (Ah (Aa Ar (Aa Cz (Aa (Ah Ab) Ab)))) (Aa (qv 6) (Aa (Ah (Aa Ar (Aa (A1 C__law_odd hr.m (Aa (A1 C__law_cell hr.m (Aa (qv 0) (Aa Ac Ab))) Ab)) (Aa (Ah Ab) Ab)))) (Aa (Ah (Aa Ar (Aa Em (Aa (Ah (Aa (qv 7) (Aa (qv 6) Ab))) Ab)))) (Aa (A1 C__law_endless hr.m (Aa (qv 1) (Aa (Au C5 (Au E4 (qv 2) Ac) Ac) Ab))) Ab))))))) (qv 8)))
   (Ad (Ay 10 Cq (Au (B8 K) (Au Gf Ac (qv 4)) Ac))
   (Ad (Ay 11 Cq (A1 C__law_record hr.m (Aa (qv 1) (Aa (qv 3) (Aa (qv 4) (Aa (qv 6) (Aa (qv 10) Ab)))))))
   (Ad (Ay 12 Cq (A1 C__law_copy hr.m (Aa (qv 11) Ab)))
   (Ad (A7 (A6 (Bu K hr.u200) (qv 8) Ac (A5 _)) (Ag (Av (Ek (A1 C__law_late hr.m (Aa (qv 5) (Aa (qv 12) (Aa (qv 9) Ab)))) (Eu (A1 C__law_same hr.m (Aa (qv 12) (Aa (qv 11) Ab))))))) Ba)
   (Ad (Ay 13 Cq (A1 C_go_on hr.m (Aa (qv 5) (Aa (qv 12) (Aa (Ah (Aa Ac Ab)) (Aa (qv 9) Ab))))))
   (Ad (Ay 14 Cq (Au (B8 K) (qv 10) (Ak K (Bm (Zg5 (xs:=[.int 1,.int 1,.int 0,.int 1,.int 2]) rfl)) (qv 8))))
   (Ad (Ay 15 Cq (A1 C__law_record hr.m (Aa (qv 1) (Aa (qv 3) (Aa (qv 4) (Aa (qv 9) (Aa (qv 14) Ab)))))))
   (Ad (A7 (QW.qt (Hm (Fv (Da (A1 C__law_same hr.m (Aa (qv 13) (Aa (qv 15) Ab))))) (Ia (Fv (Da (A1 C__law_same hr.m (Aa (qv 12) (Aa (qv 11) Ab)))))))) (Ag (Av Cz)) Ba)
   (Ad (Ay 16 Cq (A1 C__law_copy hr.m (Aa (qv 13) Ab)))
   (Ad (A7 (QW.qt (Hm (Fv (Da (A1 C__law_apart hr.m (Aa (Ak K (qv 13) Ac) (Aa (Ak K (qv 15) Ac) Ab))))) (Ia (Fv (Da (A1 C__law_same hr.m (Aa (qv 12) (Aa (qv 11) Ab)))))))) (Ag (Av Cz)) Ba)
   (Ad (A7 (A6 Jr (qv 8) Ac (A5 _)) (Ag (Av Cz)) Ba)
   (Ad (Ay 17 Cq (Ah (Aa Ar (Aa (A1 C__law_number hr.m (Aa (A1 C__law_cell hr.m (Aa (qv 0) (Aa Ac Ab))) Ab)) (Aa (Ah Ab) Ab)))))
   (Ad (Ay 15 Cq (A1 C__law_record hr.m (Aa (qv 1) (Aa (qv 3) (Aa (qv 4) (Aa (Ah (Aa Ar (Aa Em (Aa (Ah (Aa (qv 7) (Aa (qv 17) Ab))) Ab)))) (Aa (Au (B8 K) (qv 14) Ac) Ab)))))))
   (Ag (Av (A1 C__law_same hr.m (Aa (A1 C_go_on hr.m (Aa (A1 C__law_filled hr.m (Aa (qv 5) (Aa (qv 9) Ab))) (Aa (qv 16) (Aa (Ah (Aa Ac (Aa Ac Ab))) (Aa (qv 17) Ab))))) (Aa (qv 15) Ab))))))))))))))))))))))))))),?_⟩
  have bg:=big
  walk_at "r"
  refine ⟨a,1,rfl,S,by decide,by decide,fun z1=>?_⟩
  walk_at "r"
  refine ⟨z1,rfl,fun pn t0 t1 t2 H1 s1 _ hfx hpn=>?_⟩
  have S1:=S.same s1
  walk_at "r"
  refine ⟨a,0,rfl,S1,by decide,by decide,fun z0=>?_⟩
  walk_at "r"
  refine ⟨z0,0,rfl,by decide,by decide,fun o ho0 ho1=>?_⟩
  walk_at "r"
  refine ⟨a,0,rfl,S1,by decide,by decide,fun z0'=>?_⟩
  have c0:=Qg (o / 2) (show (3:Int)≠0 by decide)
  have c1:=Qd (o / 2) (show (0:Int) < 3 by decide)
  obtain ⟨cc,ecc⟩:∃ cc,cc=1 + o / 2 % 3:=⟨_,rfl⟩
  have hc0:0 < cc:=by omega
  have hc3:cc<=3:=by omega
  iterate 2 walk_at "r1"
  rw [<- ecc]
  clear ecc c0 c1
  refine s_gname ?_
  refine Zea (by assumption) ?_
  with_reducible refine s_seq ?_
  refine viaS (t:=Jg _ _ _) (R:=fun σ' H'=>∃ m:Nat,m<=57/\σ'=[some (.ref a),some (.ref pn),some (.int o),some (.int cc),some (.int (m:Nat)),none,none,none,none,none,none,none,none,none,none,none,none,none]/\Same H1 H') ?_ (fun Y hY=>?_)
  rotate_left
  ·walk_at "r"
   refine C2 (fun _=>?_) (fun _=>?_)
   ·walk_at "r"
    have d0:=Qg (o / 6) (show (58:Int)≠0 by decide)
    have d1:=Qd (o / 6) (show (0:Int) < 58 by decide)
    exact hY _ _ ⟨(o / 6 % 58).toNat,by omega,by rw [Sz d0]; rfl,Same.refl _⟩
   ·walk_at "r"
    have d0:=Qg z0' (show (9:Int)≠0 by decide)
    have d1:=Qd z0' (show (0:Int) < 9 by decide)
    exact hY _ _ ⟨(z0' % 9).toNat,by omega,by rw [Sz d0]; rfl,Same.refl _⟩
  rintro _ H2 ⟨m,hm,rfl,s2⟩
  have S2:=S1.same s2
  have hq:SqL K H2 pn [.str t0,.str t1,.str t2]:=SqL.of (s2 _ _ hpn)
  walk_at "r"
  refine ⟨pn,t0,t1,t2,cc,m,rfl,hq,hc0,hc3,by omega,fun tv H3 s3 htv=>?_⟩
  have S3:=S2.same s3
  have hq:=s3.seq hq
  walk_at "r"
  refine ⟨A9,fun ag1 hg1=>?_⟩
  obtain ⟨Hg1,sg1,eg1,z9⟩:=Aj hg1 (.tup [])
  rw [z9]
  have Sg1:=(Same.refl H3).trans sg1
  have hq:=sg1.seq hq
  have htv:=htv.same sg1
  walk_at "r"
  refine ⟨Bd,fun ag2 hg2=>?_⟩
  obtain ⟨Hg2,sg2,eg2,z9⟩:=Aj hg2 (.tup [.str "gap",.non,.ref ag1])
  rw [z9]
  have Sg2:=Sg1.trans sg2
  have hq:=sg2.seq hq
  have htv:=htv.same sg2
  have eg1:=sg2 _ _ eg1
  have TG:TrAt K Hg2 (.ref ag2) (Bq "gap" .non):=Dm eg2 eg1 rfl
  walk_at "r"
  refine ⟨a,3,rfl,S3.same Sg2,by decide,by decide,fun z3=>?_⟩
  walk_at "r"
  refine ⟨z3,rfl,fun i=>?_⟩
  walk_at "r"
  refine ⟨A9,fun ag3 hg3=>?_⟩
  obtain ⟨Hg3,sg3,eg3,z9⟩:=Aj hg3 (.tup [])
  rw [z9]
  have Sg3:=Sg2.trans sg3
  have hq:=sg3.seq hq
  have htv:=htv.same sg3
  have TG:=TG.same sg3
  walk_at "r"
  refine ⟨Bd,fun ag4 hg4=>?_⟩
  obtain ⟨Hg4,sg4,eg4,z9⟩:=Aj hg4 (.tup [.str "num",.int i,.ref ag3])
  rw [z9]
  have Sg4:=Sg3.trans sg4
  have hq:=sg4.seq hq
  have htv:=htv.same sg4
  have TG:=TG.same sg4
  have eg3:=sg4 _ _ eg3
  have TN:TrAt K Hg4 (.ref ag4) (Bq "num" (.int i)):=Dm eg4 eg3 rfl
  walk_at "r"
  refine ⟨a,2,rfl,S3.same Sg4,by decide,by decide,fun z2=>?_⟩
  walk_at "r"
  refine ⟨A9,fun ag5 hg5=>?_⟩
  obtain ⟨Hg5,sg5,eg5,z9⟩:=Aj hg5 (.tup [])
  rw [z9]
  have Sg5:=Sg4.trans sg5
  have hq:=sg5.seq hq
  have htv:=htv.same sg5
  have TG:=TG.same sg5
  have TN:=TN.same sg5
  walk_at "r"
  refine ⟨Bd,fun ag6 hg6=>?_⟩
  obtain ⟨Hg6,sg6,eg6,z9⟩:=Aj hg6 (.tup [.str "truth",.bl true,.ref ag5])
  rw [z9]
  have Sg6:=Sg5.trans sg6
  have hq:=sg6.seq hq
  have htv:=htv.same sg6
  have TG:=TG.same sg6
  have TN:=TN.same sg6
  have eg5:=sg6 _ _ eg5
  have TT:TrAt K Hg6 (.ref ag6) (Bq "truth" (.bl true)):=Dm eg6 eg5 rfl
  walk_at "r"
  refine ⟨a,3,rfl,S3.same Sg6,by decide,by decide,fun z3'=>?_⟩
  walk_at "r"
  refine ⟨z3',rfl,fun od=>?_⟩
  walk_at "r"
  refine ⟨A9,fun ag7 hg7=>?_⟩
  obtain ⟨Hg7,sg7,eg7,z9⟩:=Aj hg7 (.tup [])
  rw [z9]
  have Sg7:=Sg6.trans sg7
  have hq:=sg7.seq hq
  have htv:=htv.same sg7
  have TG:=TG.same sg7
  have TN:=TN.same sg7
  have TT:=TT.same sg7
  walk_at "r"
  refine ⟨Bd,fun ag8 hg8=>?_⟩
  obtain ⟨Hg8,sg8,eg8,z9⟩:=Aj hg8 (.tup [.str "odd",.str od,.ref ag7])
  rw [z9]
  have Sg8:=Sg7.trans sg8
  have hq:=sg8.seq hq
  have htv:=htv.same sg8
  have TG:=TG.same sg8
  have TN:=TN.same sg8
  have TT:=TT.same sg8
  have eg7:=sg8 _ _ eg7
  have TO:TrAt K Hg8 (.ref ag8) (Bq "odd" (.str od)):=Dm eg8 eg7 rfl
  walk_at "r"
  refine ⟨A3,fun ag9 hg9=>?_⟩
  obtain ⟨Hg9,sg9,eg9,z9⟩:=Aj hg9 (.tup [.ref ag4,.ref ag2])
  rw [z9]
  have Sg9:=Sg8.trans sg9
  have hq:=sg9.seq hq
  have htv:=htv.same sg9
  have TG:=TG.same sg9
  have TN:=TN.same sg9
  have TT:=TT.same sg9
  have TO:=TO.same sg9
  walk_at "r"
  refine ⟨Bd,fun ag10 hg10=>?_⟩
  obtain ⟨Hg10,sg10,eg10,z9⟩:=Aj hg10 (.tup [.str "plus",.non,.ref ag9])
  rw [z9]
  have Sg10:=Sg9.trans sg10
  have hq:=sg10.seq hq
  have htv:=htv.same sg10
  have TG:=TG.same sg10
  have TN:=TN.same sg10
  have TT:=TT.same sg10
  have TO:=TO.same sg10
  have eg9:=sg10 _ _ eg9
  have TP:TrAt K Hg10 (.ref ag10) (twoT "plus" (Bq "num" (.int i)) (Bq "gap" .non)):=Ib eg10 eg9 TN TG
  walk_at "r"
  have c0:=Qg (o / 348) (show (41:Int)≠0 by decide)
  have c1:=Qd (o / 348) (show (0:Int) < 41 by decide)
  obtain ⟨en,een⟩:∃ en:Nat,o / 348 % 41=(en:Int):=⟨(o / 348 % 41).toNat,(Sz c0).symm⟩
  rw [een] at c1 ⊢
  refine ⟨pn,t0,t1,t2,en,rfl,hq,by omega,fun ev HE sE TE=>?_⟩
  have SE:=Sg10.trans sE
  have hq:=sE.seq hq
  have htv:=htv.same sE
  have TG:=TG.same sE
  have TN:=TN.same sE
  have TT:=TT.same sE
  have TO:=TO.same sE
  have TP:=TP.same sE
  walk_at "r"
  refine ⟨sz6,fun af1 hf1=>?_⟩
  obtain ⟨Hf1,sf1,ef1,z9⟩:=Aj hf1 (.lst [.ref ag4,.ref ag6,.ref ag2,.ref ag8,.ref ag10,ev])
  rw [z9]
  have Sf1:=SE.trans sf1
  have hq:=sf1.seq hq
  have htv:=htv.same sf1
  have TG:=TG.same sf1
  have TN:=TN.same sf1
  have TT:=TT.same sf1
  have TO:=TO.same sf1
  have TP:=TP.same sf1
  have TE:=TE.same sf1
  obtain ⟨pk,epk⟩:∃ pk,pk=z2 % 6:=⟨_,rfl⟩
  have p0:=Qg z2 (show (6:Int)≠0 by decide)
  have p1:=Qd z2 (show (0:Int) < 6 by decide)
  rw [<- epk] at p0 p1
  obtain ⟨fv,hfv,hform⟩:∃ fv,Cm ([.ref ag4,.ref ag6,.ref ag2,.ref ag8,.ref ag10,ev]:List V) pk=some fv/\((pk=5/\fv=ev)\/(pk≠5/\∃ F1:Fm1,TrAt K Hf1 fv F1.t/\F1.Ok/\Cm ([.int 1,.int 1,.int 0,.int 1,.int 2]:List V) pk=some (.int F1.s)/\(¬ pk < 4->F1=.plus ("num",.int i) ("gap",.non)))):=by
   have h:pk=0\/pk=1\/pk=2\/pk=3\/pk=4\/pk=5:=by omega
   rcases h with h | h | h | h | h | h <;> subst h
   ·exact ⟨_,Bc (j:=0) rfl,.inr ⟨by decide,.leaf ("num",.int i),TN,Ik i,Bc (j:=0) rfl,fun z=>absurd (by decide) z⟩⟩
   ·exact ⟨_,Bc (j:=1) rfl,.inr ⟨by decide,.leaf ("truth",.bl true),TT,.inr (.inl ⟨rfl,_,rfl⟩),Bc (j:=1) rfl,fun z=>absurd (by decide) z⟩⟩
   ·exact ⟨_,Bc (j:=2) rfl,.inr ⟨by decide,gapF,TG,Ox,Bc (j:=2) rfl,fun z=>absurd (by decide) z⟩⟩
   ·exact ⟨_,Bc (j:=3) rfl,.inr ⟨by decide,.leaf ("odd",.str od),TO,.inr (.inr (.inr (.inl ⟨rfl,_,rfl⟩))),Bc (j:=3) rfl,fun z=>absurd (by decide) z⟩⟩
   ·exact ⟨_,Bc (j:=4) rfl,.inr ⟨by decide,.plus ("num",.int i) ("gap",.non),TP,⟨Ik i,Ox⟩,Bc (j:=4) rfl,fun _=>rfl⟩⟩
   ·exact ⟨_,Bc (j:=5) rfl,.inl ⟨rfl,rfl⟩⟩
  walk_at "r"
  rw [<- epk]
  refine Bp (SqL.of ef1) hfv ?_
  have S4:=S3.same Sf1
  clear epk
  walk_at "r"
  refine ⟨pn,t0,t1,t2,cc,_,m,.ref ag2,gapF,rfl,hq,hc0,hc3,by omega,TG,Ox,fun r1 rd1 av1 HA sA qA tA DA nA=>?_⟩
  obtain ⟨rv1,e1,al1⟩:=DA.ex
  walk_at "r"
  refine ⟨r1,rd1,av1,_,rv1,_,_,rfl,qA,e1,al1,Il hm gapF,fun r2 rd2 rv2 HB sB qB nB eB alB=>?_⟩
  walk_at "r"
  have sAB:=sA.trans sB
  have alC:Al (RwX K (fun b=>b=rd2) HB) rv2 (B3 t0 [t0,t1,t2] cc gapF.g m):=alB.mono (RwX.mono fun b h _=>.inl h)
  have rec1:∀ H',Same HA H'->IsD K H' 6 (.ref r1) (Lx (De t0 [t0,t1,t2] cc gapF.g m) (B3 t0 [t0,t1,t2] cc gapF.g m) (4 * (m:Int) + 3)):=fun H' e=>F7 (e.tup qA) (ThAt.same e.t _ _ tA) (e _ _ e1) (al1.mono fun v x h=>RwAt.same e.a v x h.1)
  have hnd:∀ H',Same HB H'->IsD K H' 6 (.ref r2) (Lx (De t0 [t0,t1,t2] cc gapF.g m) (B3 t0 [t0,t1,t2] cc gapF.g m) (4 * (m:Int) + 3)):=fun H' e=>F7 (e.tup qB) (ThAt.same (sB.trans e).t _ _ tA) (e _ _ eB) (alB.mono fun v x h=>RwAt.same e.a v x h.1)
  refine C2 (fun h=>?_) (fun h=>?_)
  ·have h5:pk=5:=V.int.inj (of_decide_eq_true h)
   obtain rfl:fv=ev:=by
    rcases hform with ⟨_,h⟩ | ⟨h,_⟩
    ·exact h
    ·exact absurd h5 h
   obtain ⟨l1,l2,l3,k0,l4⟩:=Zkk (n0:=t0) (ns:=[t0,t1,t2]) (c:=cc) (m:=m) (f:=t0) (x:=t1) (k:=en) (n:=4 * (m:Int) + 3) hfx (by omega) (by omega) (by omega)
   obtain ⟨rs0,ers⟩:=Zot t0 [t0,t1,t2] cc m
   walk_at "r"
   refine ⟨tv,.ref r2,fv,rfl,fun p H5 Y Z s5 hp hz=>?_,fun HC sC=>?_⟩
   ·have ee:=sAB.trans s5
    refine ⟨tv,fv,av1,wT t0 [t0,t1,t2] cc m gapF.t,Dd t0 t1 en,p,r2,rd2,[0],.flat .non,[],4 * (m:Int) + 3,rv2,⟨"gap",As [0],[],[]⟩,rs0,k0,rfl,htv.same ee,by rw [Mb]; have:=Zaa gapF; omega,hp,l1,by decide,l2,TE.same ee,by rw [l3,Mb,Zl9]; omega,s5.tup qB,by omega,s5 _ _ eB,?_,?_,Mz _ _ _,rfl,by rw [l3]; exact l4,hz⟩
    ·rw [<- ers]
     exact alC.mono (RwX.same s5.a)
    ·rw [<- ers]
     have:=Il (n0:=t0) (ns:=[t0,t1,t2]) (c:=cc) (show m<=57 by omega) gapF
     omega
   ·walk_at "r"
    exact ⟨.ref r2,.ref r1,_,6,rfl,by decide,hnd HC sC,rec1 HC (sB.trans sC),J7 hm gapF _ _,fun _ _=>q _⟩
  ·have h5:pk≠5:=fun z=>h (decide_eq_true (by rw [z]))
   obtain ⟨_,F1,TF,okF,hsF,hF4⟩:=hform.resolve_left (fun z=>h5 z.1)
   clear hform hfv
   walk_at "r"
   refine ⟨Cj,fun pp hpp=>?_⟩
   obtain ⟨HP,sP,eP,z9⟩:=Aj hpp (.tup [.int 0])
   rw [z9]
   walk_at "r"
   have sLP:=sAB.trans sP
   have sF3:=(fm_s F1).2
   refine Zc3 (fit1 (n:=4 * (m:Int) + 3) okF (by omega) (by omega)) hm (htv.same sLP) (SqT.of eP) (TF.same sLP) (sP.tup qB) (sP _ _ eB) (alC.mono (RwX.same sP.a)) (ThAt.same (sB.trans sP).t _ _ tA) (fun r3 rd3 av3 rv3 HD sD qD tD eD alD spD nD=>?_)
   have sLD:=sLP.trans sD
   walk_at "r"
   refine ⟨sz5,fun p6 h6=>?_⟩
   obtain ⟨H6,s6,e6,z9⟩:=Aj h6 (.lst [.int 1,.int 1,.int 0,.int 1,.int 2])
   rw [z9]
   walk_at "r"
   refine Bp (SqL.of e6) hsF ?_
   have sL6:=sLD.trans s6
   walk_at "r"
   refine ⟨pn,t0,t1,t2,cc,_,m,fv,F1,rfl,sL6.seq hq,hc0,hc3,by omega,TF.same sL6,okF,fun r4 rd4 av4 HG sG qG tG DG nG=>?_⟩
   obtain ⟨rv4,e4,al4⟩:=DG.ex
   have sDG:=s6.trans sG
   walk_at "r"
   refine ⟨.ref r3,.ref r4,_,6,rfl,by decide,F7 (sDG.tup qD) (ThAt.same sDG.t _ _ tD) (sDG _ _ eD) (alD.mono fun v x h=>RwAt.same sDG.a v x h.1),F7 qG tG e4 (al4.mono fun v x h=>h.1),J7 hm F1 _ _,fun HH sH=>?_⟩
   have sPG:=sD.trans sDG
   have sBG:=sP.trans sPG
   walk_at "r"
   refine ⟨.ref r2,.ref r1,_,6,rfl,by decide,hnd HH (sBG.trans sH),rec1 HH (sB.trans (sBG.trans sH)),J7 hm gapF _ _,fun HI sI=>?_⟩
   have sGI:=sH.trans sI
   have sDI:=sDG.trans sGI
   walk_at "r"
   refine ⟨r3,rd3,av3,_,rv3,_,_,rfl,sDI.tup qD,sDI _ _ eD,alD.mono (RwX.same sDI.a),Il hm F1,fun r5 rd5 rv5 HJ sJ qJ nJ eJ alJ=>?_⟩
   have sGJ:=sGI.trans sJ
   have sDJ:=sDG.trans sGJ
   have sPJ:=sD.trans sDJ
   have sBJ:=sP.trans sPJ
   walk_at "r"
   refine Aw (sDJ.tup qD) rfl ?_
   walk_at "r"
   refine Aw (sGJ.tup qG) rfl ?_
   walk_at "r"
   have nn:∀ {Ha Hb:Hp} {b:Addr},Same Ha Hb->Ha b≠none->Hb b≠none:=fun {Ha Hb b} e h z=>by
    cases hh:Ha b with
    | none=>exact h hh
    | some o=>rw [e _ _ hh] at z; cases z
   have hrd3:HD rd3≠none:=by rw [eD]; simp
   refine ⟨rd3,rd4,rv3,rv4,B3 t0 [t0,t1,t2] cc F1.g m,fun b=>HP b=none/\HD b≠none/\b≠rd3,rfl,sDJ _ _ eD,?_,fun z=>z.2.2 rfl,sGJ _ _ e4,?_,fun z=>nn s6 z.2.1 nG,Il hm F1,fun x hx=>(Zdm hm F1 x hx).2,fun HK sK=>?_⟩
   ·refine (spD.mono (B:=fun b=>¬ (HP b=none/\HD b≠none/\b≠rd3)) fun b h1 h2=>?_).same sDJ.a
    by_cases hb:b=rd3
    ·exact .inl hb
    ·exact .inr fun z=>h1 ⟨z,h2,hb⟩
   ·exact al4.mono fun v x h=>RwAt.same sGJ.a v x (RwAt.mono (fun b hb _=>.inr (nn s6 hb.2.1)) v x h.1)
   have nP:∀ b,HP b≠none->¬ (HP b=none/\HD b≠none/\b≠rd3):=fun b h z=>h z.1
   have lK:∀ (b:Addr) (xs:List V),HP b=some (.lst xs)->HK b=some (.lst xs):=fun b xs h=>sK.2 b xs (nP b (by rw [h]; simp)) (sPJ _ _ h)
   have tPK:SameT HP HK:=sPJ.t.trans sK.1
   have sAP:=sB.trans sP
   walk_at "r"
   refine ⟨.ref r2,.ref r1,_,6,rfl,by decide,F7 (n:=4 * (m:Int) + 3) (tPK.tup (sP.tup qB)) (ThAt.same (sAP.t.trans tPK) _ _ tA) (lK _ _ (sP _ _ eB)) (alB.mono fun v x h=>RwAt.same sK v x (RwAt.same sBJ.a v x (RwAt.mono (fun b hb hn=>absurd hb.1 (nn sP hn)) v x h.1))),F7 (tPK.tup (sAP.tup qA)) (ThAt.same (sAP.t.trans tPK) _ _ tA) (lK _ _ (sAP _ _ e1)) (al1.mono fun v x h=>RwAt.same sK v x (RwAt.same (sB.trans sBJ).a v x (RwAt.mono (fun b hb hn=>absurd hb.1 (nn sAP hn)) v x h.1))),J7 hm gapF _ _,fun HM sM=>?_⟩
   walk_at "r"
   refine C2 (fun _=>?_) (fun h4=>?_)
   ·walk_at "r"
    exact q _
   have hF:=hF4 (fun z=>h4 (decide_eq_true z))
   subst hF
   have tLM:=sLP.t.trans (tPK.trans sM.t)
   have SM:Script K HM a:=(Zll (S4.same sLP) sPJ sK nP).same sM
   have hqM:SqL K HM pn [.str t0,.str t1,.str t2]:=sM.seq (SqL.sa (sLP.seq hq) sPJ sK nP)
   have htv:=htv.sameT tLM
   have TN:=TN.sameT tLM
   have TF:=TF.sameT tLM
   have e5:HM rd5=some (.lst rv5):=sM _ _ (sK.2 _ _ (fun z=>nn sDI z.2.1 nJ) eJ)
   have q5:=sM.tup (sK.1.tup qJ)
   have al5:Al (RwX K (fun b=>b=rd5) HM) rv5 (B3 t0 [t0,t1,t2] cc (Fm1.g (.plus ("num",.int i) ("gap",.non))) m):=alJ.mono fun v x h=>RwX.same sM.a v x (RwX.mono (fun b hb _=>.inl hb) v x (RwX.same (sK.mono fun b hb=>.inr (nn sDI hb.2.1)) v x h))
   have t5:=ThAt.same (sDJ.t.trans (sK.1.trans sM.t)) _ _ tD
   walk_at "r"
   refine ⟨a,4,rfl,SM,by decide,by decide,fun z4=>?_⟩
   walk_at "r"
   refine ⟨z4,rfl,fun j=>?_⟩
   walk_at "r"
   refine ⟨A9,fun ak1 hk1=>?_⟩
   obtain ⟨Hk1,sk1,ek1,z9⟩:=Aj hk1 (.tup [])
   rw [z9]
   have Sk1:=(Same.refl HM).trans sk1
   have hqM:=sk1.seq hqM
   have htv:=htv.same sk1
   have TN:=TN.same sk1
   have TF:=TF.same sk1
   walk_at "r"
   refine ⟨Bd,fun ak2 hk2=>?_⟩
   obtain ⟨Hk2,sk2,ek2,z9⟩:=Aj hk2 (.tup [.str "num",.int j,.ref ak1])
   rw [z9]
   have Sk2:=Sk1.trans sk2
   have hqM:=sk2.seq hqM
   have htv:=htv.same sk2
   have TN:=TN.same sk2
   have TF:=TF.same sk2
   have ek1:=sk2 _ _ ek1
   have TJ:TrAt K Hk2 (.ref ak2) (Bq "num" (.int j)):=Dm ek2 ek1 rfl
   walk_at "r"
   refine ⟨A3,fun ak3 hk3=>?_⟩
   obtain ⟨Hk3,sk3,ek3,z9⟩:=Aj hk3 (.tup [.ref ag4,.ref ak2])
   rw [z9]
   have Sk3:=Sk2.trans sk3
   have hqM:=sk3.seq hqM
   have htv:=htv.same sk3
   have TN:=TN.same sk3
   have TF:=TF.same sk3
   have TJ:=TJ.same sk3
   walk_at "r"
   refine ⟨Bd,fun ak4 hk4=>?_⟩
   obtain ⟨Hk4,sk4,ek4,z9⟩:=Aj hk4 (.tup [.str "plus",.non,.ref ak3])
   rw [z9]
   have Sk4:=Sk3.trans sk4
   have hqM:=sk4.seq hqM
   have htv:=htv.same sk4
   have TN:=TN.same sk4
   have TF:=TF.same sk4
   have TJ:=TJ.same sk4
   have ek3:=sk4 _ _ ek3
   have TQ:TrAt K Hk4 (.ref ak4) (twoT "plus" (Bq "num" (.int i)) (Bq "num" (.int j))):=Ib ek4 ek3 TN TJ
   walk_at "r"
   refine ⟨pn,t0,t1,t2,cc,_,m,.ref ak4,.plus ("num",.int i) ("num",.int j),rfl,hqM,hc0,hc3,by omega,TQ,⟨Ik i,Ik j⟩,fun r7 rd7 av7 HR sR qR tR DR nR=>?_⟩
   walk_at "r"
   refine ⟨tv,fv,_,_,_,_,_,rfl,htv.same sR,TF.same sR,fun wv HS sS tS=>?_⟩
   walk_at "r"
   refine ⟨A3,fun p8 h8=>?_⟩
   obtain ⟨HT,s8,e8,z9⟩:=Aj h8 (.tup [.int 0,.int 1])
   rw [z9]
   have sRT:=sS.trans s8
   have sQT:=sR.trans sRT
   have sMT:=Sk4.trans sQT
   walk_at "r"
   refine Zc3 (fit2 (i:=i) (j:=j) (n:=4 * (m:Int) + 3 + Fm1.s (.plus ("num",.int i) ("gap",.non))) (by omega) (by omega)) hm (tS.same s8) (SqT.of e8) (TJ.same sQT) (sMT.tup q5) (sMT _ _ e5) (al5.mono (RwX.same sMT.a)) (ThAt.same sMT.t _ _ t5) (fun r9 rd9 av9 rv9 HU sU qU tU eU alU _ _=>?_)
   obtain ⟨rv7,e7,al7⟩:=DR.ex
   have sRU:=sRT.trans sU
   walk_at "r"
   exact ⟨.ref r9,.ref r7,_,6,rfl,by decide,F7 qU tU eU (alU.mono fun v x h=>h.1),F7 (sRU.tup qR) (ThAt.same sRU.t _ _ tR) (sRU _ _ e7) (al7.mono fun v x h=>RwAt.same sRU.a v x h.1),J7 hm (.plus ("num",.int i) ("num",.int j)) _ _,fun _ _=>q _⟩
end
end K57
namespace K57
open PySem L2
local macro_rules | `(tactic| walk_at "zA")=>`(tactic| exact (let +zeta a:=_; let +zeta b:=_; let +zeta c:=_; have +usedOnly q:(‹Stmt›:Stmt)=.Assign a b c:=rfl; .Assign a b c))
local macro_rules | `(tactic| walk_at "zC")=>`(tactic| exact (let +zeta a:=_; let +zeta b:=_; let +zeta c:=_; let +zeta d:=_; let +zeta e:=_; let +zeta f:=_; let +zeta g:=_; let +zeta h:=_; let +zeta i:=_; let +zeta j:=_; let +zeta k:=_; have +usedOnly q:(‹Stmt›:Stmt)=.ClassDef a b c d e f g h i j k:=rfl; .ClassDef a b c d e f g h i j k))
local macro_rules | `(tactic| walk_at "zF")=>`(tactic| exact (let +zeta a:=_; let +zeta b:=_; let +zeta c:=_; let +zeta d:=_; let +zeta e:=_; let +zeta f:=_; let +zeta g:=_; let +zeta h:=_; let +zeta i:=_; let +zeta j:=_; have +usedOnly q:(‹Stmt›:Stmt)=.FunctionDef a b c d e f g h i j:=rfl; .FunctionDef a b c d e f g h i j))
noncomputable def w0:Stmt:=by let +zeta s:=Aq 0; walk_at "zA"
noncomputable def w1:Stmt:=by let +zeta s:=Aq 1; walk_at "zC"
noncomputable def w2:Stmt:=by let +zeta s:=Aq 2; walk_at "zC"
noncomputable def w3:Stmt:=by let +zeta s:=Aq 3; walk_at "zC"
noncomputable def w4:Stmt:=by let +zeta s:=Aq 4; walk_at "zC"
noncomputable def w5:Stmt:=by let +zeta s:=Aq 5; walk_at "zA"
noncomputable def w6:Stmt:=by let +zeta s:=Aq 6; walk_at "zF"
noncomputable def w7:Stmt:=by let +zeta s:=Aq 7; walk_at "zA"
noncomputable def w8:Stmt:=by let +zeta s:=Aq 8; walk_at "zF"
noncomputable def w9:Stmt:=by let +zeta s:=Aq 9; walk_at "zF"
noncomputable def w10:Stmt:=by let +zeta s:=Aq 10; walk_at "zF"
noncomputable def w11:Stmt:=by let +zeta s:=Aq 11; walk_at "zF"
noncomputable def w12:Stmt:=by let +zeta s:=Aq 12; walk_at "zF"
noncomputable def w13:Stmt:=by let +zeta s:=Aq 13; walk_at "zF"
noncomputable def w14:Stmt:=by let +zeta s:=Aq 14; walk_at "zA"
noncomputable def w15:Stmt:=by let +zeta s:=Aq 15; walk_at "zF"
noncomputable def w16:Stmt:=by let +zeta s:=Aq 16; walk_at "zA"
noncomputable def w17:Stmt:=by let +zeta s:=Aq 17; walk_at "zF"
noncomputable def w18:Stmt:=by let +zeta s:=Aq 18; walk_at "zA"
noncomputable def w19:Stmt:=by let +zeta s:=Aq 19; walk_at "zF"
noncomputable def w20:Stmt:=by let +zeta s:=Aq 20; walk_at "zA"
noncomputable def w21:Stmt:=by let +zeta s:=Aq 21; walk_at "zA"
noncomputable def w22:Stmt:=by let +zeta s:=Aq 22; walk_at "zA"
noncomputable def w23:Stmt:=by let +zeta s:=Aq 23; walk_at "zA"
noncomputable def w24:Stmt:=by let +zeta s:=Aq 24; walk_at "zF"
noncomputable def w25:Stmt:=by let +zeta s:=Aq 25; walk_at "zF"
noncomputable def Zpe:Stmt:=by let +zeta s:=(Bz 26 0); walk_at "zF"
noncomputable def Zkz:Stmt:=by let +zeta s:=(Bz 26 1); walk_at "zF"
noncomputable def Zp8:Stmt:=by let +zeta s:=(Bz 26 2); walk_at "zF"
noncomputable def Zrs:Stmt:=by let +zeta s:=(Bz 26 3); walk_at "zF"
noncomputable def Znf:Stmt:=by let +zeta s:=(Bz 26 4); walk_at "zF"
noncomputable def Zl5:Stmt:=by let +zeta s:=(Bz 26 5); walk_at "zF"
noncomputable def Zqj:Stmt:=by let +zeta s:=(Bz 26 6); walk_at "zF"
noncomputable def Zru:Stmt:=by let +zeta s:=(Bz 26 7); walk_at "zF"
noncomputable def Zm9:Stmt:=by let +zeta s:=(Bz 26 8); walk_at "zF"
noncomputable def Zim:Stmt:=by let +zeta s:=(Bz 26 9); walk_at "zF"
noncomputable def Zm2:Stmt:=by let +zeta s:=(Bz 26 10); walk_at "zF"
noncomputable def Zla:Stmt:=by let +zeta s:=(Bz 26 11); walk_at "zF"
noncomputable def Zil:Stmt:=by let +zeta s:=(Bz 26 12); walk_at "zF"
noncomputable def w26:Stmt:=let +zeta a:=_; let +zeta b:=_; let +zeta c:=_; let +zeta d:=_; let +zeta e:=_; let +zeta f:=_; let +zeta g:=_; let +zeta h:=_; let +zeta i:=_; let +zeta j:=_; let +zeta k:=_; have +usedOnly q:Aq 26=.ClassDef a b c d e f g h i j k:=rfl; .ClassDef a b c [Zpe,Zkz,Zp8,Zrs,Znf,Zl5,Zqj,Zru,Zm9,Zim,Zm2,Zla,Zil] e f g h i j k
noncomputable def w27:Stmt:=by let +zeta s:=Aq 27; walk_at "zA"
noncomputable def w28:Stmt:=by let +zeta s:=Aq 28; walk_at "zF"
noncomputable def w29:Stmt:=by let +zeta s:=Aq 29; walk_at "zF"
noncomputable def w30:Stmt:=by let +zeta s:=Aq 30; walk_at "zF"
noncomputable def w31:Stmt:=by let +zeta s:=Aq 31; walk_at "zA"
noncomputable def w32:Stmt:=by let +zeta s:=Aq 32; walk_at "zF"
noncomputable def w33:Stmt:=by let +zeta s:=Aq 33; walk_at "zF"
noncomputable def w34:Stmt:=by let +zeta s:=Aq 34; walk_at "zF"
noncomputable def w35:Stmt:=by let +zeta s:=Aq 35; walk_at "zF"
noncomputable def w36:Stmt:=by let +zeta s:=Aq 36; walk_at "zF"
noncomputable def w37:Stmt:=by let +zeta s:=Aq 37; walk_at "zF"
noncomputable def w38:Stmt:=by let +zeta s:=Aq 38; walk_at "zF"
noncomputable def w39:Stmt:=by let +zeta s:=Aq 39; walk_at "zF"
noncomputable def w40:Stmt:=by let +zeta s:=Aq 40; walk_at "zF"
noncomputable def w41:Stmt:=by let +zeta s:=Aq 41; walk_at "zF"
noncomputable def w42:Stmt:=by let +zeta s:=Aq 42; walk_at "zF"
noncomputable def w43:Stmt:=by let +zeta s:=Aq 43; walk_at "zF"
noncomputable def w44:Stmt:=by let +zeta s:=Aq 44; walk_at "zF"
noncomputable def w45:Stmt:=by let +zeta s:=Aq 45; walk_at "zF"
noncomputable def w46:Stmt:=by let +zeta s:=Aq 46; walk_at "zF"
noncomputable def w47:Stmt:=by let +zeta s:=Aq 47; walk_at "zF"
noncomputable def w48:Stmt:=by let +zeta s:=Aq 48; walk_at "zF"
noncomputable def w49:Stmt:=by let +zeta s:=Aq 49; walk_at "zF"
noncomputable def PWc:Program:=let +zeta a:=_; let +zeta b:=_; let +zeta c:=_; let +zeta d:=_; let +zeta e:=_; let +zeta f:=_; let +zeta g:=_; let +zeta h:=_; let +zeta i:=_; let +zeta j:=_; have +usedOnly q:R7=⟨⟨a,b,c,d,e⟩,f,g,h,i,j⟩:=rfl; ⟨⟨[w0,w1,w2,w3,w4,w5,w6,w7,w8,w9,w10,w11,w12,w13,w14,w15,w16,w17,w18,w19,w20,w21,w22,w23,w24,w25,w26,w27,w28,w29,w30,w31,w32,w33,w34,w35,w36,w37,w38,w39,w40,w41,w42,w43,w44,w45,w46,w47,w48,w49],b,c,d,e⟩,f,g,h,i,j⟩
theorem e_PW:PWc=PWc:=rfl
name_quick x_PW for K57.PWc by K57.e_PW
end K57
noncomputable def PySem.W.Fast.tw10409269637633073541:PySem.Program:=PySem.W.Fast.tw18144468352720277309
theorem PySem.W.Fast.te10409269637633073541:R7=PySem.W.Fast.tw10409269637633073541:=(rfl:R7=K57.PWc).trans PySem.W.Fast.te18144468352720277309
namespace K57
open PySem L2
noncomputable def VWc:Program:={ R7 with main:={ R7.main with body:=[w1,w2,w3,w4,w6,w8,w9,w10,w11,w12,w13,w15,w17,w19,w21,w22,w23,w24,w25,w26,w28,w29,w30,w32,w33,w34,w35,w36,w37,w38,w39,w40,w41,w42,w43,w44,w45,w46,w47,w48,w49] } }
noncomputable def S0:List Stmt:=[w26]
noncomputable def S1:List Stmt:=[w0,w1]
noncomputable def S2:List Stmt:=[w27,w28,w29,w30,w31,w32,w33,w34,w35,w36,w37,w38,w39,w40]
noncomputable def S3:List Stmt:=[w25]
noncomputable def S4:List Stmt:=[w2]
noncomputable def S5:List Stmt:=[w41,w42,w43,w44,w45,w46,w47,w48,w49]
noncomputable def S6:List Stmt:=[w3]
noncomputable def S7:List Stmt:=[w4,w5,w6,w7,w8,w9,w10]
noncomputable def S8:List Stmt:=[w11,w12,w13,w14,w15,w16,w17,w18,w19,w20,w21,w22,w23,w24]
noncomputable def SB:Program×List (List Stmt):=(VWc,[S0,S1,S2,S3,S4,S5,S6,S7,S8])
theorem e_SB:SB=SB:=rfl
name_quick x_SB for K57.SB by K57.e_SB
end K57
noncomputable def PySem.W.Fast.tw254062777313689673:PySem.Program:=PySem.W.Fast.tw6368122072745370843
theorem PySem.W.Fast.te254062777313689673:K57.VWc=PySem.W.Fast.tw254062777313689673:=PySem.W.Fast.te6368122072745370843
noncomputable def PySem.W.Fast.tw14416150001860041826:List Ri:=PySem.W.Fast.tw2483666810603423463
theorem PySem.W.Fast.te14416150001860041826:K57.S0=PySem.W.Fast.tw14416150001860041826:=PySem.W.Fast.te2483666810603423463
noncomputable def PySem.W.Fast.tw4933115839471197861:List Ri:=PySem.W.Fast.tw8365821571712189538
theorem PySem.W.Fast.te4933115839471197861:K57.S1=PySem.W.Fast.tw4933115839471197861:=PySem.W.Fast.te8365821571712189538
noncomputable def PySem.W.Fast.tw10168822955792392586:List Ri:=PySem.W.Fast.tw13048086174410220573
theorem PySem.W.Fast.te10168822955792392586:K57.S2=PySem.W.Fast.tw10168822955792392586:=PySem.W.Fast.te13048086174410220573
noncomputable def PySem.W.Fast.tw5700457137622724080:List Ri:=PySem.W.Fast.tw15393586757701692619
theorem PySem.W.Fast.te5700457137622724080:K57.S3=PySem.W.Fast.tw5700457137622724080:=PySem.W.Fast.te15393586757701692619
noncomputable def PySem.W.Fast.tw3975225713600586996:List Ri:=PySem.W.Fast.tw11959359267252615094
theorem PySem.W.Fast.te3975225713600586996:K57.S4=PySem.W.Fast.tw3975225713600586996:=PySem.W.Fast.te11959359267252615094
noncomputable def PySem.W.Fast.tw4820850448289630069:List Ri:=PySem.W.Fast.tw3395298649143272014
theorem PySem.W.Fast.te4820850448289630069:K57.S5=PySem.W.Fast.tw4820850448289630069:=PySem.W.Fast.te3395298649143272014
noncomputable def PySem.W.Fast.tw14455512526445156279:List Ri:=PySem.W.Fast.tw12131088601570760831
theorem PySem.W.Fast.te14455512526445156279:K57.S6=PySem.W.Fast.tw14455512526445156279:=PySem.W.Fast.te12131088601570760831
noncomputable def PySem.W.Fast.tw15517598479070422077:List Ri:=PySem.W.Fast.tw3668363330947319295
theorem PySem.W.Fast.te15517598479070422077:K57.S7=PySem.W.Fast.tw15517598479070422077:=PySem.W.Fast.te3668363330947319295
noncomputable def PySem.W.Fast.tw961095036584469886:List Ri:=PySem.W.Fast.tw2428490127751747896
theorem PySem.W.Fast.te961095036584469886:K57.S8=PySem.W.Fast.tw961095036584469886:=PySem.W.Fast.te2428490127751747896
namespace K57
open PySem L2 PySem.W
noncomputable def zs (i j:Nat):Stmt:=match Aq i with | .ClassDef _ _ _ b _ _ _ _ _ _ _=>b.getD j (.Pass ⟨0,0,0,0⟩) | s=>s
noncomputable def ze (P:Params) (s:Str) (t:Tok) (v:Value):DictEntry:=⟨PyData.keyHash P s,.str s t,v⟩
noncomputable abbrev B:=Qx
noncomputable def evb (l:List Obj):Bool->List Obj:=@List.rec Obj (fun _=>Bool->List Obj) (fun _=>[]) (fun a _ ih b=>@Bool.rec (fun _=>List Obj) (ih true) (a :: ih false) b) l
noncomputable def tO (l:List Obj):B:=@Nat.rec (fun _=>List Obj->B) (fun _=>.nil) (fun _ ih l=>@List.rec Obj (fun _=>B) .nil (fun x r _=>.node x (ih (evb r true)) (ih (evb r false))) l) 12 l
noncomputable def zv:List (Str×Tok)->List Value
 | []=>[]
 | (a,b) :: t=>.str a b :: zv t
noncomputable def zu (l:List (Str×Tok)):Obj:=⟨.type "tuple",none,.seq ⟨zv l⟩,#[]⟩
noncomputable def zt (c:String) (d:Data):Obj:=⟨.type c,none,d,#[]⟩
noncomputable def zf (n q:Str) (s:Stmt) (m:Str) (t:Tok) (c:Addr):Obj:=⟨.type "function",none,.func (Rr n q (Gx s) (E3 s) (Az s) .none .none .none (.str m t) none (.ref c) .none),#[]⟩
noncomputable def zh (n q:Str) (s:Stmt):Obj:=⟨.none,none,.func ⟨n,q,Gx s,.stmts (E3 s),Az s,0,[],.none,.none,.none,.none,none,.none,.none,0⟩,#[]⟩
noncomputable def zk (n q:Str) (t:Tok) (l a g:Int) (r:Addr) (b:Bool) (x:Value) (u:Int) (v:Tok):Obj:=⟨.type "code",none,.fields #[.str n t,.str q (t + 1),.str "/claim/cut.py" (t + 2),.int l 0,.int a 0,.int 0 0,.int 0 0,.int g 0,.ref r,.bool b,.int 181 0,.ref (r + 1),.none,.none,.none,x,.int u 0,.int l 0,.str "/claim/cut.py" v],#[]⟩
noncomputable def zw:List (Int×Int×Addr)->List Value
 | []=>[]
 | (a,b,c) :: t=>.int a 0 :: .int b 0 :: .ref c :: zw t
noncomputable def zy (l:List (Int×Int×Addr)):Obj:=⟨.none,none,.fields ⟨zw l⟩,#[]⟩
noncomputable def zc (n q:Str) (t:Tok) (l a g:Int) (r:Addr) (u:Int) (v:Tok):Obj:=⟨.type "code",none,.fields #[.str n t,.str q (t + 1),.str "/claim/cut.py" (t + 2),.int l 0,.int a 0,.int 0 0,.int 0 0,.int g 0,.ref r,.bool true,.int 181 0,.ref (r + 1),.none,.ref (r + 2),.ref (r + 3),.ref (r + 4),.int u 0,.int l 0,.str "/claim/cut.py" v],#[]⟩
noncomputable def zb (n:Str):=zc n n
noncomputable def zi (n:Str):=zf n n
noncomputable def zj (n:Str):=zh n n
noncomputable def d0 (P:Params):List DictEntry:=[ze P "__name__" 165 (.str "gapscribe.errors" 187),ze P "__doc__" 166 .none,ze P "__package__" 167 .none,ze P "__loader__" 168 (.builtin "__main__.__loader__#opaque"),ze P "__spec__" 169 .none,ze P "__annotations__" 170 (.ref 6),ze P "__builtins__" 171 (.ref 4),ze P "__file__" 173 (.str "/claim/cut.py" 172),ze P "__cached__" 174 .none,ze P "GapError" 206 (.ref 24),ze P "NoDeed" 222 (.ref 37)]
noncomputable def z0 (P:Params):Obj:=zt "dict" (.dict ⟨d0 P⟩ 11)
noncomputable def z1:Obj:=zt "tuple" (.seq #[])
noncomputable def z2:Obj:=zy [(2,0,20),(4,0,33)]
noncomputable def z3:Obj:=zk "<module>" "<module>" 182 1 0 0 11 false .none 185 186
noncomputable def z4:Obj:=Obj.mk (.type "frame") none Data.plain #[some (.ref 13),some (.ref 3),some (.ref 3),none,some (.str "__main__" 164),none,some (.ref 0)]
noncomputable def z5:Obj:=zt "tuple" (.seq #[.type "ValueError"])
noncomputable def h0_0 (P:Params) (t:List Obj):List Obj:=(boot_o_0 P) :: (boot_o_1 P) :: (boot_o_2 P) :: (z0 P) :: (boot_o_4 P) :: (boot_o_5 P) :: (boot_o_6 P) :: (boot_o_7 P) :: (boot_o_8 P) :: (boot_o_9 P) :: (boot_o_10 P) :: z1 :: z2 :: z3 :: z4 :: z5 :: t
noncomputable def z6:Obj:=zt "builtin_function_or_method" (.fields #[.builtin "type.__prepare__",.type "type"])
noncomputable def z7 (P:Params):Obj:=zt "dict" (.dict #[ze P "__module__" 196 (.str "gapscribe.errors" 187),ze P "__qualname__" 198 (.str "GapError" 197),ze P "__firstlineno__" 200 (.int 2 199),ze P "__static_attributes__" 201 (.ref 22)] 4)
noncomputable def z8:Obj:=Obj.mk .none none (.fields #[]) #[]
noncomputable def z9:Obj:=zk "GapError" "GapError" 191 2 0 0 18 false .none 194 195
noncomputable def z10:Obj:=Obj.mk (.type "frame") none Data.plain #[some (.ref 20),some (.ref 3),some (.ref 17),none,some (.str "gapscribe.errors" 187),none,some (.ref 0)]
noncomputable def z11 (P:Params):Obj:=zt "dict" (.dict #[ze P "__module__" 196 (.str "gapscribe.errors" 187),ze P "__firstlineno__" 200 (.int 2 199),ze P "__static_attributes__" 201 (.ref 22),ze P "__weakref__" 203 (.ref 25),ze P "__doc__" 204 .none] 3)
noncomputable def z12:Obj:=Obj.mk (.type "type") none (.cls (ClassData.mk "GapError" [.type "ValueError"] [.ref 24,.type "ValueError",.type "Exception",.type "BaseException",.type "object"] 23 "GapError" true [] [.ref 37] false none false)) #[some (.ref 15),none,some (.str "GapError" 189),some (.str "GapError" 197),some (.builtin "ValueError.__new__"),some (.bool true)]
noncomputable def z13:Obj:=zt "getset_descriptor" (.fields #[.str "__weakref__" 202,.ref 24,.builtin "ExceptionGroup.__weakref__",.none])
noncomputable def z14:Obj:=zt "super" (.fields #[.ref 24,.ref 24,.ref 24])
noncomputable def z15:Obj:=zt "builtin_function_or_method" (.fields #[.builtin "object.__init_subclass__",.ref 24])
noncomputable def z16:Obj:=zt "tuple" (.seq #[.ref 24])
noncomputable def z17 (P:Params):Obj:=zt "dict" (.dict #[ze P "__module__" 214 (.str "gapscribe.errors" 187),ze P "__qualname__" 216 (.str "NoDeed" 215),ze P "__firstlineno__" 218 (.int 4 217),ze P "__static_attributes__" 219 (.ref 35)] 4)
noncomputable def h1_0 (P:Params) (t:List Obj):List Obj:=z6 :: (z7 P) :: z1 :: z8 :: z9 :: z10 :: z1 :: (z11 P) :: z12 :: z13 :: z14 :: z15 :: z16 :: z6 :: (z17 P) :: z1 :: t
noncomputable def z18:Obj:=zk "NoDeed" "NoDeed" 209 4 0 0 31 false .none 212 213
noncomputable def z19:Obj:=Obj.mk (.type "frame") none Data.plain #[some (.ref 33),some (.ref 3),some (.ref 30),none,some (.str "gapscribe.errors" 187),none,some (.ref 0)]
noncomputable def z20 (P:Params):Obj:=zt "dict" (.dict #[ze P "__module__" 214 (.str "gapscribe.errors" 187),ze P "__firstlineno__" 218 (.int 4 217),ze P "__static_attributes__" 219 (.ref 35),ze P "__doc__" 220 .none] 2)
noncomputable def z21:Obj:=Obj.mk (.type "type") none (.cls (ClassData.mk "NoDeed" [.ref 24] [.ref 37,.ref 24,.type "ValueError",.type "Exception",.type "BaseException",.type "object"] 36 "NoDeed" true [] [] false none false)) #[some (.ref 28),none,some (.str "NoDeed" 207),some (.str "NoDeed" 215),some (.builtin "ValueError.__new__"),some (.bool true)]
noncomputable def z22:Obj:=zt "super" (.fields #[.ref 37,.ref 37,.ref 37])
noncomputable def z23:Obj:=zt "builtin_function_or_method" (.fields #[.builtin "object.__init_subclass__",.ref 37])
noncomputable def h2_0 (P:Params) (t:List Obj):List Obj:=z8 :: z18 :: z19 :: z1 :: (z20 P) :: z21 :: z22 :: z23 :: t
noncomputable def Rtree_78:Params->B:=fun P=>tO (h0_0 P (h1_0 P (h2_0 P [])))
noncomputable def d1 (P:Params):List DictEntry:=d0 P++[ze P "TooLong" 238 (.ref 49)]
noncomputable def z24 (P:Params):Obj:=zt "dict" (.dict ⟨d1 P⟩ 12)
noncomputable def z25:Obj:=zy [(2,0,20),(4,0,33),(6,0,45)]
noncomputable def h3_0 (P:Params) (t:List Obj):List Obj:=(boot_o_0 P) :: (boot_o_1 P) :: (boot_o_2 P) :: (z24 P) :: (boot_o_4 P) :: (boot_o_5 P) :: (boot_o_6 P) :: (boot_o_7 P) :: (boot_o_8 P) :: (boot_o_9 P) :: (boot_o_10 P) :: z1 :: z25 :: z3 :: z4 :: z5 :: t
noncomputable def z26:Obj:=Obj.mk (.type "type") none (.cls (ClassData.mk "GapError" [.type "ValueError"] [.ref 24,.type "ValueError",.type "Exception",.type "BaseException",.type "object"] 23 "GapError" true [] [.ref 37,.ref 49] false none false)) #[some (.ref 15),none,some (.str "GapError" 189),some (.str "GapError" 197),some (.builtin "ValueError.__new__"),some (.bool true)]
noncomputable def h4_0 (P:Params) (t:List Obj):List Obj:=z6 :: (z7 P) :: z1 :: z8 :: z9 :: z10 :: z1 :: (z11 P) :: z26 :: z13 :: z14 :: z15 :: z16 :: z6 :: (z17 P) :: z1 :: t
noncomputable def z27 (P:Params):Obj:=zt "dict" (.dict #[ze P "__module__" 230 (.str "gapscribe.errors" 187),ze P "__qualname__" 232 (.str "TooLong" 231),ze P "__firstlineno__" 234 (.int 6 233),ze P "__static_attributes__" 235 (.ref 47)] 4)
noncomputable def z28:Obj:=zk "TooLong" "TooLong" 225 6 0 0 43 false .none 228 229
noncomputable def z29:Obj:=Obj.mk (.type "frame") none Data.plain #[some (.ref 45),some (.ref 3),some (.ref 42),none,some (.str "gapscribe.errors" 187),none,some (.ref 0)]
noncomputable def Fg (P:Params) (t:List Obj):List Obj:=z8 :: z18 :: z19 :: z1 :: (z20 P) :: z21 :: z22 :: z23 :: z16 :: z6 :: (z27 P) :: z1 :: z8 :: z28 :: z29 :: z1 :: t
noncomputable def z30 (P:Params):Obj:=zt "dict" (.dict #[ze P "__module__" 230 (.str "gapscribe.errors" 187),ze P "__firstlineno__" 234 (.int 6 233),ze P "__static_attributes__" 235 (.ref 47),ze P "__doc__" 236 .none] 2)
noncomputable def z31:Obj:=Obj.mk (.type "type") none (.cls (ClassData.mk "TooLong" [.ref 24] [.ref 49,.ref 24,.type "ValueError",.type "Exception",.type "BaseException",.type "object"] 48 "TooLong" true [] [] false none false)) #[some (.ref 40),none,some (.str "TooLong" 223),some (.str "TooLong" 231),some (.builtin "ValueError.__new__"),some (.bool true)]
noncomputable def z32:Obj:=zt "super" (.fields #[.ref 49,.ref 49,.ref 49])
noncomputable def z33:Obj:=zt "builtin_function_or_method" (.fields #[.builtin "object.__init_subclass__",.ref 49])
noncomputable def h6_0 (P:Params) (t:List Obj):List Obj:=(z30 P) :: z31 :: z32 :: z33 :: t
noncomputable def Rtree_93:Params->B:=fun P=>tO (h3_0 P (h4_0 P (Fg P (h6_0 P []))))
noncomputable def d2 (P:Params):List DictEntry:=[ze P "__name__" 165 (.str "gapscribe.places" 273),ze P "__doc__" 166 .none,ze P "__package__" 167 .none,ze P "__loader__" 168 (.builtin "__main__.__loader__#opaque"),ze P "__spec__" 169 .none,ze P "__annotations__" 170 (.ref 6),ze P "__builtins__" 171 (.ref 4),ze P "__file__" 173 (.str "/claim/cut.py" 172),ze P "__cached__" 174 .none,ze P "GapError" 206 (.ref 24),ze P "NoDeed" 222 (.ref 37),ze P "TooLong" 238 (.ref 49),ze P "NoPlace" 263 (.ref 68),ze P "is_whole" 272 (.ref 77),ze P "placed_forms" 286 (.ref 84),ze P "has_part" 294 (.ref 91),ze P "forms_down_to" 304 (.ref 98)]
noncomputable def z34 (P:Params):Obj:=zt "dict" (.dict ⟨d2 P⟩ 17)
noncomputable def z35:Obj:=zy [(2,0,20),(4,0,33),(6,0,45),(8,0,57),(13,0,76),(16,0,83),(25,0,90),(27,0,97)]
noncomputable def h7_0 (P:Params) (t:List Obj):List Obj:=(boot_o_0 P) :: (boot_o_1 P) :: (boot_o_2 P) :: (z34 P) :: (boot_o_4 P) :: (boot_o_5 P) :: (boot_o_6 P) :: (boot_o_7 P) :: (boot_o_8 P) :: (boot_o_9 P) :: (boot_o_10 P) :: z1 :: z35 :: z3 :: z4 :: z5 :: t
noncomputable def z36:Obj:=Obj.mk (.type "type") none (.cls (ClassData.mk "GapError" [.type "ValueError"] [.ref 24,.type "ValueError",.type "Exception",.type "BaseException",.type "object"] 23 "GapError" true [] [.ref 37,.ref 49,.ref 68] false none false)) #[some (.ref 15),none,some (.str "GapError" 189),some (.str "GapError" 197),some (.builtin "ValueError.__new__"),some (.bool true)]
noncomputable def F5 (P:Params) (t:List Obj):List Obj:=z6 :: (z7 P) :: z1 :: z8 :: z9 :: z10 :: z1 :: (z11 P) :: z36 :: z13 :: z14 :: z15 :: z16 :: z6 :: (z17 P) :: z1 :: t
noncomputable def d3 (P:Params):List DictEntry:=[ze P "__module__" 246 (.str "gapscribe.errors" 187),ze P "__qualname__" 248 (.str "NoPlace" 247),ze P "__firstlineno__" 250 (.int 8 249),ze P "__init__" 258 (.ref 65),ze P "__static_attributes__" 260 (.ref 66)]
noncomputable def z37 (P:Params):Obj:=zt "dict" (.dict ⟨d3 P⟩ 5)
noncomputable def z38:Obj:=zy [(10,4,64)]
noncomputable def z39:Obj:=zk "NoPlace" "NoPlace" 241 8 0 0 55 false .none 244 245
noncomputable def z40:Obj:=Obj.mk (.type "frame") none Data.plain #[some (.ref 57),some (.ref 3),some (.ref 54),none,some (.str "gapscribe.errors" 187),none,some (.ref 0)]
noncomputable def z41:Obj:=zu [("self",254),("place",255)]
noncomputable def z42:Obj:=zh "__init__" "NoPlace.__init__" (Bz 4 0)
noncomputable def Fp (P:Params) (t:List Obj):List Obj:=(z30 P) :: z31 :: z32 :: z33 :: z16 :: z6 :: (z37 P) :: z1 :: z38 :: z39 :: z40 :: z1 :: z8 :: z41 :: z1 :: z42 :: t
noncomputable def z43:Obj:=zc "__init__" "NoPlace.__init__" 251 10 2 3 59 256 257
noncomputable def z44:Obj:=zf "__init__" "NoPlace.__init__" (Bz 4 0) "gapscribe.errors" 187 64
noncomputable def z45:Obj:=zu [("place",259)]
noncomputable def z46 (P:Params):Obj:=zt "dict" (.dict #[ze P "__module__" 246 (.str "gapscribe.errors" 187),ze P "__firstlineno__" 250 (.int 8 249),ze P "__init__" 258 (.ref 65),ze P "__static_attributes__" 260 (.ref 66),ze P "__doc__" 261 .none] 2)
noncomputable def z47:Obj:=Obj.mk (.type "type") none (.cls (ClassData.mk "NoPlace" [.ref 24] [.ref 68,.ref 24,.type "ValueError",.type "Exception",.type "BaseException",.type "object"] 67 "NoPlace" true [] [] false none false)) #[some (.ref 52),none,some (.str "NoPlace" 239),some (.str "NoPlace" 247),some (.builtin "ValueError.__new__"),some (.bool true)]
noncomputable def z48:Obj:=zt "super" (.fields #[.ref 68,.ref 68,.ref 68])
noncomputable def z49:Obj:=zt "builtin_function_or_method" (.fields #[.builtin "object.__init_subclass__",.ref 68])
noncomputable def z50:Obj:=zu [("thing",269)]
noncomputable def z51:Obj:=zj "is_whole" K2
noncomputable def z52:Obj:=zb "is_whole" 266 13 1 3 71 270 271
noncomputable def z53:Obj:=zi "is_whole" K2 "gapscribe.forms" 264 76
noncomputable def Ga (P:Params) (t:List Obj):List Obj:=z43 :: z44 :: z45 :: (z46 P) :: z47 :: z48 :: z49 :: z1 :: z8 :: z50 :: z1 :: z51 :: z52 :: z53 :: z1 :: z8 :: t
noncomputable def z54:Obj:=zu [("tree",278),("told",279),("waiting",280),("pair",281),("number",282),("part",283)]
noncomputable def z55:Obj:=zj "placed_forms" Je
noncomputable def z56:Obj:=zb "placed_forms" 275 16 1 3 78 284 285
noncomputable def z57:Obj:=zi "placed_forms" Je "gapscribe.places" 273 83
noncomputable def z58:Obj:=zu [("form",290),("number",291)]
noncomputable def z59:Obj:=zj "has_part" Kz
noncomputable def z60:Obj:=zb "has_part" 287 25 2 3 85 292 293
noncomputable def z61:Obj:=zi "has_part" Kz "gapscribe.places" 273 90
noncomputable def z62:Obj:=zu [("tree",298),("place",299),("passed",300),("number",301)]
noncomputable def F9 (P:Params) (t:List Obj):List Obj:=z54 :: z1 :: z55 :: z56 :: z57 :: z1 :: z8 :: z58 :: z1 :: z59 :: z60 :: z61 :: z1 :: z8 :: z62 :: z1 :: t
noncomputable def z63:Obj:=zj "forms_down_to" Kw
noncomputable def z64:Obj:=zb "forms_down_to" 295 27 2 3 92 302 303
noncomputable def z65:Obj:=zi "forms_down_to" Kw "gapscribe.places" 273 97
noncomputable def Zis (P:Params) (t:List Obj):List Obj:=z63 :: z64 :: z65 :: t
noncomputable def Rtree_143:Params->B:=fun P=>tO (h7_0 P (F5 P (Fg P (Fp P (Ga P (F9 P (Zis P [])))))))
noncomputable def d4 (P:Params):List DictEntry:=[ze P "__name__" 165 (.str "gapscribe.machine" 364),ze P "__doc__" 166 .none,ze P "__package__" 167 .none,ze P "__loader__" 168 (.builtin "__main__.__loader__#opaque"),ze P "__spec__" 169 .none,ze P "__annotations__" 170 (.ref 6),ze P "__builtins__" 171 (.ref 4),ze P "__file__" 173 (.str "/claim/cut.py" 172),ze P "__cached__" 174 .none,ze P "GapError" 206 (.ref 24),ze P "NoDeed" 222 (.ref 37),ze P "TooLong" 238 (.ref 49),ze P "NoPlace" 263 (.ref 68),ze P "is_whole" 272 (.ref 77),ze P "placed_forms" 286 (.ref 84),ze P "has_part" 294 (.ref 91),ze P "forms_down_to" 304 (.ref 98),ze P "form_at" 312 (.ref 105),ze P "with_part" 322 (.ref 112),ze P "with_at" 334 (.ref 119),ze P "refuse_no_gap" 343 (.ref 126),ze P "is_finished" 353 (.ref 133),ze P "names_bound" 363 (.ref 140),ze P "MOST_STEPS" 367 (.int 500 366),ze P "PARTS_AWAITED" 390 (.ref 141),ze P "WORDS_WITH_AROUND" 395 (.ref 148),ze P "are_numbers" 401 (.ref 153)]
noncomputable def z66 (P:Params):Obj:=zt "dict" (.dict ⟨d4 P⟩ 27)
noncomputable def z67:Obj:=zy [(2,0,20),(4,0,33),(6,0,45),(8,0,57),(13,0,76),(16,0,83),(25,0,90),(27,0,97),(34,0,104),(36,0,111),(39,0,118),(45,0,125),(49,0,132),(52,0,139),(64,0,152)]
noncomputable def Zip (P:Params) (t:List Obj):List Obj:=(boot_o_0 P) :: (boot_o_1 P) :: (boot_o_2 P) :: (z66 P) :: (boot_o_4 P) :: (boot_o_5 P) :: (boot_o_6 P) :: (boot_o_7 P) :: (boot_o_8 P) :: (boot_o_9 P) :: (boot_o_10 P) :: z1 :: z67 :: z3 :: z4 :: z5 :: t
noncomputable def z68:Obj:=zu [("tree",308),("place",309)]
noncomputable def z69:Obj:=zj "form_at" Jz
noncomputable def z70:Obj:=zb "form_at" 305 34 2 3 99 310 311
noncomputable def z71:Obj:=zi "form_at" Jz "gapscribe.places" 273 104
noncomputable def z72:Obj:=zu [("form",316),("number",317),("part",318),("parts",319)]
noncomputable def z73:Obj:=zj "with_part" Ju
noncomputable def z74:Obj:=zb "with_part" 313 36 3 3 106 320 321
noncomputable def G7 (P:Params) (t:List Obj):List Obj:=z63 :: z64 :: z65 :: z1 :: z8 :: z68 :: z1 :: z69 :: z70 :: z71 :: z1 :: z8 :: z72 :: z1 :: z73 :: z74 :: t
noncomputable def z75:Obj:=zi "with_part" Ju "gapscribe.places" 273 111
noncomputable def z76:Obj:=zu [("tree",326),("place",327),("form",328),("made",329),("number",330),("above",331)]
noncomputable def z77:Obj:=zj "with_at" Jh
noncomputable def z78:Obj:=zb "with_at" 323 39 3 3 113 332 333
noncomputable def z79:Obj:=zi "with_at" Jh "gapscribe.places" 273 118
noncomputable def z80:Obj:=zu [("form",340)]
noncomputable def z81:Obj:=zj "refuse_no_gap" J6
noncomputable def z82:Obj:=zb "refuse_no_gap" 337 45 1 3 120 341 342
noncomputable def z83:Obj:=zi "refuse_no_gap" J6 "gapscribe.deeds" 335 125
noncomputable def Gv (P:Params) (t:List Obj):List Obj:=z75 :: z1 :: z8 :: z76 :: z1 :: z77 :: z78 :: z79 :: z1 :: z8 :: z80 :: z1 :: z81 :: z82 :: z83 :: z1 :: t
noncomputable def z84:Obj:=zu [("thing",349),("rows",350)]
noncomputable def z85:Obj:=zj "is_finished" Kq
noncomputable def z86:Obj:=zb "is_finished" 346 49 2 3 127 351 352
noncomputable def z87:Obj:=zi "is_finished" Kq "gapscribe.rows" 344 132
noncomputable def z88:Obj:=zu [("form",359),("number",360)]
noncomputable def z89:Obj:=zj "names_bound" K4
noncomputable def z90:Obj:=zb "names_bound" 356 52 2 3 134 361 362
noncomputable def z91:Obj:=zi "names_bound" K4 "gapscribe.scopes" 354 139
noncomputable def z92 (P:Params):Obj:=zt "dict" (.dict #[ze P "plus" 368 (.ref 142),ze P "minus" 371 (.ref 143),ze P "less" 374 (.ref 144),ze P "call" 377 (.ref 145),ze P "if" 380 (.ref 146),ze P "let" 382 (.ref 147)] 6)
noncomputable def z93:Obj:=zt "tuple" (.seq #[.int 1 369,.int 0 370])
noncomputable def z94:Obj:=zt "tuple" (.seq #[.int 1 372,.int 0 373])
noncomputable def Gy (P:Params) (t:List Obj):List Obj:=z8 :: z84 :: z1 :: z85 :: z86 :: z87 :: z1 :: z8 :: z88 :: z1 :: z89 :: z90 :: z91 :: (z92 P) :: z93 :: z94 :: t
noncomputable def z95:Obj:=zt "tuple" (.seq #[.int 1 375,.int 0 376])
noncomputable def z96:Obj:=zt "tuple" (.seq #[.int 1 378,.int 0 379])
noncomputable def z97:Obj:=zt "tuple" (.seq #[.int 0 381])
noncomputable def z98:Obj:=zt "tuple" (.seq #[.int 0 383])
noncomputable def z99:Obj:=zu [("gap",391),("fn",392),("rec",393),("if",394)]
noncomputable def z100:Obj:=zj "are_numbers" Jo
noncomputable def Zab:Obj:=zk "are_numbers" "are_numbers" 396 64 1 3 149 true (.ref 151) 399 400
noncomputable def Nl:Obj:=zi "are_numbers" Jo "gapscribe.machine" 364 152
noncomputable def Zpw (P:Params) (t:List Obj):List Obj:=z95 :: z96 :: z97 :: z98 :: z99 :: z1 :: z8 :: z100 :: Zab :: Nl :: t
noncomputable def Rtree_200:Params->B:=fun P=>tO (Zip P (F5 P (Fg P (Fp P (Ga P (F9 P (G7 P (Gv P (Gy P (Zpw P []))))))))))
noncomputable def d5 (P:Params):List DictEntry:=d4 P++[ze P "reckoned" 410 (.ref 160)]
noncomputable def z103 (P:Params):Obj:=zt "dict" (.dict ⟨d5 P⟩ 28)
noncomputable def z104:Obj:=zy [(2,0,20),(4,0,33),(6,0,45),(8,0,57),(13,0,76),(16,0,83),(25,0,90),(27,0,97),(34,0,104),(36,0,111),(39,0,118),(45,0,125),(49,0,132),(52,0,139),(64,0,152),(66,0,159)]
noncomputable def Zpm (P:Params) (t:List Obj):List Obj:=(boot_o_0 P) :: (boot_o_1 P) :: (boot_o_2 P) :: (z103 P) :: (boot_o_4 P) :: (boot_o_5 P) :: (boot_o_6 P) :: (boot_o_7 P) :: (boot_o_8 P) :: (boot_o_9 P) :: (boot_o_10 P) :: z1 :: z104 :: z3 :: z4 :: z5 :: t
noncomputable def z105:Obj:=zu [("word",405),("left",406),("right",407)]
noncomputable def z106:Obj:=zj "reckoned" Jn
noncomputable def z107:Obj:=zb "reckoned" 402 66 3 3 154 408 409
noncomputable def Hh (P:Params) (t:List Obj):List Obj:=z95 :: z96 :: z97 :: z98 :: z99 :: z1 :: z8 :: z100 :: Zab :: Nl :: z1 :: z8 :: z105 :: z1 :: z106 :: z107 :: t
noncomputable def Li:Obj:=zi "reckoned" Jn "gapscribe.machine" 364 159
noncomputable def Zr6 (P:Params) (t:List Obj):List Obj:=Li :: t
noncomputable def Rtree_211:Params->B:=fun P=>tO (Zpm P (F5 P (Fg P (Fp P (Ga P (F9 P (G7 P (Gv P (Gy P (Hh P (Zr6 P [])))))))))))
noncomputable def d6 (P:Params):List DictEntry:=d5 P++[ze P "Machine" 560 (.ref 259)]
noncomputable def z109 (P:Params):Obj:=zt "dict" (.dict ⟨d6 P⟩ 29)
noncomputable def z110:Obj:=zy [(2,0,20),(4,0,33),(6,0,45),(8,0,57),(13,0,76),(16,0,83),(25,0,90),(27,0,97),(34,0,104),(36,0,111),(39,0,118),(45,0,125),(49,0,132),(52,0,139),(64,0,152),(66,0,159),(72,0,166)]
noncomputable def Zns (P:Params) (t:List Obj):List Obj:=(boot_o_0 P) :: (boot_o_1 P) :: (boot_o_2 P) :: (z109 P) :: (boot_o_4 P) :: (boot_o_5 P) :: (boot_o_6 P) :: (boot_o_7 P) :: (boot_o_8 P) :: (boot_o_9 P) :: (boot_o_10 P) :: z1 :: z110 :: z3 :: z4 :: z5 :: t
noncomputable def d7 (P:Params):List DictEntry:=[ze P "__module__" 418 (.str "gapscribe.machine" 364),ze P "__qualname__" 420 (.str "Machine" 419),ze P "__firstlineno__" 422 (.int 72 421),ze P "__init__" 431 (.ref 174),ze P "make_steps" 439 (.ref 181),ze P "new_row" 451 (.ref 188),ze P "thing_of_form" 460 (.ref 195),ze P "thing_of_parts" 470 (.ref 202),ze P "thing_at_the_end" 480 (.ref 209),ze P "come_to" 486 (.ref 214),ze P "thing_of_leaf" 498 (.ref 221),ze P "go_further" 509 (.ref 228),ze P "taken_things" 518 (.ref 235),ze P "is_function" 526 (.ref 242),ze P "call" 535 (.ref 249),ze P "go_within" 547 (.ref 256),ze P "__static_attributes__" 553 (.ref 257)]
noncomputable def z111 (P:Params):Obj:=zt "dict" (.dict ⟨d7 P⟩ 17)
noncomputable def z112:Obj:=zy [(74,4,173),(82,4,180),(87,4,187),(92,4,194),(96,4,201),(101,4,208),(110,4,213),(120,4,220),(128,4,227),(142,4,234),(147,4,241),(150,4,248),(154,4,255)]
noncomputable def z113:Obj:=zk "Machine" "Machine" 413 72 0 0 164 false .none 416 417
noncomputable def z114:Obj:=Obj.mk (.type "frame") none Data.plain #[some (.ref 166),some (.ref 3),some (.ref 163),none,some (.str "gapscribe.machine" 364),none,some (.ref 0)]
noncomputable def z115:Obj:=zu [("self",426),("tree",427),("steps",428)]
noncomputable def z116:Obj:=zh "__init__" "Machine.__init__" Jx
noncomputable def Zav:Obj:=zc "__init__" "Machine.__init__" 423 74 3 3 168 429 430
noncomputable def Zbx:Obj:=zf "__init__" "Machine.__init__" Jx "gapscribe.machine" 364 173
noncomputable def Lw (P:Params) (t:List Obj):List Obj:=Li :: z1 :: z6 :: (z111 P) :: z1 :: z112 :: z113 :: z114 :: z1 :: z8 :: z115 :: z1 :: z116 :: Zav :: Zbx :: z1 :: t
noncomputable def z119:Obj:=zu [("self",435),("many",436)]
noncomputable def z120:Obj:=zh "make_steps" "Machine.make_steps" Ir
noncomputable def z121:Obj:=zc "make_steps" "Machine.make_steps" 432 82 2 3 175 437 438
noncomputable def z122:Obj:=zf "make_steps" "Machine.make_steps" Ir "gapscribe.machine" 364 180
noncomputable def z123:Obj:=zu [("self",443),("word",444),("place",445),("operands",446),("around",447),("kept",448)]
noncomputable def z124:Obj:=zh "new_row" "Machine.new_row" J1
noncomputable def z125:Obj:=zc "new_row" "Machine.new_row" 440 87 5 3 182 449 450
noncomputable def z126:Obj:=zf "new_row" "Machine.new_row" J1 "gapscribe.machine" 364 187
noncomputable def z127:Obj:=zu [("self",455),("place",456),("around",457)]
noncomputable def K9 (P:Params) (t:List Obj):List Obj:=z8 :: z119 :: z1 :: z120 :: z121 :: z122 :: z1 :: z8 :: z123 :: z1 :: z124 :: z125 :: z126 :: z1 :: z8 :: z127 :: t
noncomputable def z128:Obj:=zh "thing_of_form" "Machine.thing_of_form" G9
noncomputable def z129:Obj:=zc "thing_of_form" "Machine.thing_of_form" 452 92 3 3 189 458 459
noncomputable def z130:Obj:=zf "thing_of_form" "Machine.thing_of_form" G9 "gapscribe.machine" 364 194
noncomputable def z131:Obj:=zu [("self",464),("place",465),("operands",466),("around",467)]
noncomputable def z132:Obj:=zh "thing_of_parts" "Machine.thing_of_parts" Kt
noncomputable def z133:Obj:=zc "thing_of_parts" "Machine.thing_of_parts" 461 96 4 3 196 468 469
noncomputable def z134:Obj:=zf "thing_of_parts" "Machine.thing_of_parts" Kt "gapscribe.machine" 364 201
noncomputable def z135:Obj:=zu [("self",474),("place",475),("around",476),("parts_came",477)]
noncomputable def z136:Obj:=zh "thing_at_the_end" "Machine.thing_at_the_end" Ii
noncomputable def Ks (P:Params) (t:List Obj):List Obj:=z1 :: z128 :: z129 :: z130 :: z1 :: z8 :: z131 :: z1 :: z132 :: z133 :: z134 :: z1 :: z8 :: z135 :: z1 :: z136 :: t
noncomputable def z137:Obj:=zc "thing_at_the_end" "Machine.thing_at_the_end" 471 101 1 3 203 478 479
noncomputable def z138:Obj:=zf "thing_at_the_end" "Machine.thing_at_the_end" Ii "gapscribe.machine" 364 208
noncomputable def z139:Obj:=zh "come_to" "Machine.come_to" Ix
noncomputable def z140:Obj:=zk "come_to" "Machine.come_to" 481 110 3 3 210 true (.ref 212) 484 485
noncomputable def z141:Obj:=zf "come_to" "Machine.come_to" Ix "gapscribe.machine" 364 213
noncomputable def z142:Obj:=zu [("self",490),("word",491),("note",492),("place",493),("around",494),("bound",495)]
noncomputable def z143:Obj:=zh "thing_of_leaf" "Machine.thing_of_leaf" J8
noncomputable def z144:Obj:=zc "thing_of_leaf" "Machine.thing_of_leaf" 487 120 5 3 215 496 497
noncomputable def z145:Obj:=zf "thing_of_leaf" "Machine.thing_of_leaf" J8 "gapscribe.machine" 364 220
noncomputable def Ku (P:Params) (t:List Obj):List Obj:=z137 :: z138 :: z1 :: z8 :: z139 :: z140 :: z141 :: z1 :: z8 :: z142 :: z1 :: z143 :: z144 :: z145 :: z1 :: z8 :: t
noncomputable def z146:Obj:=zu [("self",502),("place",503),("around",504),("word",505),("operands",506)]
noncomputable def z147:Obj:=zh "go_further" "Machine.go_further" Jw
noncomputable def z148:Obj:=zc "go_further" "Machine.go_further" 499 128 3 3 222 507 508
noncomputable def z149:Obj:=zf "go_further" "Machine.go_further" Jw "gapscribe.machine" 364 227
noncomputable def z150:Obj:=zu [("self",513),("many",514),("taken",515)]
noncomputable def z151:Obj:=zh "taken_things" "Machine.taken_things" Ji
noncomputable def z152:Obj:=zc "taken_things" "Machine.taken_things" 510 142 2 3 229 516 517
noncomputable def z153:Obj:=zf "taken_things" "Machine.taken_things" Ji "gapscribe.machine" 364 234
noncomputable def z154:Obj:=zu [("self",522),("thing",523)]
noncomputable def K5 (P:Params) (t:List Obj):List Obj:=z146 :: z1 :: z147 :: z148 :: z149 :: z1 :: z8 :: z150 :: z1 :: z151 :: z152 :: z153 :: z1 :: z8 :: z154 :: z1 :: t
noncomputable def z155:Obj:=zh "is_function" "Machine.is_function" Jy
noncomputable def Zaf:Obj:=zc "is_function" "Machine.is_function" 519 147 2 3 236 524 525
noncomputable def z157:Obj:=zf "is_function" "Machine.is_function" Jy "gapscribe.machine" 364 241
noncomputable def z158:Obj:=zu [("self",530),("operands",531),("row",532)]
noncomputable def z159:Obj:=zh "call" "Machine.call" K0
noncomputable def z160:Obj:=zc "call" "Machine.call" 527 150 2 3 243 533 534
noncomputable def z161:Obj:=zf "call" "Machine.call" K0 "gapscribe.machine" 364 248
noncomputable def z162:Obj:=zu [("self",539),("place",540),("number",541),("around",542),("things",543),("names",544)]
noncomputable def z163:Obj:=zh "go_within" "Machine.go_within" Jj
noncomputable def z164:Obj:=zc "go_within" "Machine.go_within" 536 154 5 3 250 545 546
noncomputable def Mg (P:Params) (t:List Obj):List Obj:=z155 :: Zaf :: z157 :: z1 :: z8 :: z158 :: z1 :: z159 :: z160 :: z161 :: z1 :: z8 :: z162 :: z1 :: z163 :: z164 :: t
noncomputable def N1:Obj:=zf "go_within" "Machine.go_within" Jj "gapscribe.machine" 364 255
noncomputable def z166:Obj:=zu [("forms",548),("rows",549),("steps",550),("things",551),("waiting",552)]
noncomputable def d8 (P:Params):List DictEntry:=[ze P "__module__" 418 (.str "gapscribe.machine" 364),ze P "__firstlineno__" 422 (.int 72 421),ze P "__init__" 431 (.ref 174),ze P "make_steps" 439 (.ref 181),ze P "new_row" 451 (.ref 188),ze P "thing_of_form" 460 (.ref 195),ze P "thing_of_parts" 470 (.ref 202),ze P "thing_at_the_end" 480 (.ref 209),ze P "come_to" 486 (.ref 214),ze P "thing_of_leaf" 498 (.ref 221),ze P "go_further" 509 (.ref 228),ze P "taken_things" 518 (.ref 235),ze P "is_function" 526 (.ref 242),ze P "call" 535 (.ref 249),ze P "go_within" 547 (.ref 256),ze P "__static_attributes__" 553 (.ref 257),ze P "__dict__" 555 (.ref 260),ze P "__weakref__" 557 (.ref 261),ze P "__doc__" 558 .none]
noncomputable def Zaj (P:Params):Obj:=zt "dict" (.dict ⟨d8 P⟩ 4)
noncomputable def Ow:Obj:=Obj.mk (.type "type") none (.cls (ClassData.mk "Machine" [.type "object"] [.ref 259,.type "object"] 258 "Machine" true [] [] false none false)) #[none,none,some (.str "Machine" 411),some (.str "Machine" 419),some (.builtin "object.__new__"),some (.bool true)]
noncomputable def z169:Obj:=zt "getset_descriptor" (.fields #[.str "__dict__" 554,.ref 259,.builtin "function.__dict__",.builtin "function.__dict__#set"])
noncomputable def z170:Obj:=zt "getset_descriptor" (.fields #[.str "__weakref__" 556,.ref 259,.builtin "ExceptionGroup.__weakref__",.none])
noncomputable def z171:Obj:=zt "super" (.fields #[.ref 259,.ref 259,.ref 259])
noncomputable def z172:Obj:=zt "builtin_function_or_method" (.fields #[.builtin "object.__init_subclass__",.ref 259])
noncomputable def Zmu (P:Params) (t:List Obj):List Obj:=N1 :: z166 :: (Zaj P) :: Ow :: z169 :: z170 :: z171 :: z172 :: t
noncomputable def Rtree_316:Params->B:=fun P=>tO (Zns P (F5 P (Fg P (Fp P (Ga P (F9 P (G7 P (Gv P (Gy P (Hh P (Lw P (K9 P (Ks P (Ku P (K5 P (Mg P (Zmu P [])))))))))))))))))
noncomputable def Znh (P:Params) (t:List Obj):List Obj:=(boot_o_0 P) :: (boot_o_1 P) :: (boot_o_2 P) :: (z103 P) :: (boot_o_4 P) :: (boot_o_5 P) :: (boot_o_6 P) :: (boot_o_7 P) :: (boot_o_8 P) :: (boot_o_9 P) :: (boot_o_10 P) :: z1 :: z110 :: z3 :: z4 :: z5 :: t
noncomputable def d9 (P:Params):List DictEntry:=[ze P "__module__" 418 (.str "gapscribe.machine" 364),ze P "__qualname__" 420 (.str "Machine" 419),ze P "__firstlineno__" 422 (.int 72 421),ze P "__init__" 431 (.ref 174),ze P "make_steps" 439 (.ref 181),ze P "new_row" 451 (.ref 188),ze P "thing_of_form" 460 (.ref 195),ze P "thing_of_parts" 470 (.ref 202),ze P "thing_at_the_end" 480 (.ref 209),ze P "come_to" 486 (.ref 214),ze P "thing_of_leaf" 498 (.ref 221),ze P "go_further" 509 (.ref 228),ze P "taken_things" 518 (.ref 235)]
noncomputable def z173 (P:Params):Obj:=zt "dict" (.dict ⟨d9 P⟩ 13)
noncomputable def z174:Obj:=zy [(74,4,173),(82,4,180),(87,4,187),(92,4,194),(96,4,201),(101,4,208),(110,4,213),(120,4,220),(128,4,227),(142,4,234)]
noncomputable def Zkc (P:Params) (t:List Obj):List Obj:=Li :: z1 :: z6 :: (z173 P) :: z1 :: z174 :: z113 :: z114 :: z1 :: z8 :: z115 :: z1 :: z116 :: Zav :: Zbx :: z1 :: t
noncomputable def Zng (P:Params) (t:List Obj):List Obj:=z155 :: Zaf :: t
noncomputable def Rtree_398:Params->B:=fun P=>tO (Znh P (F5 P (Fg P (Fp P (Ga P (F9 P (G7 P (Gv P (Gy P (Hh P (Zkc P (K9 P (Ks P (Ku P (K5 P (Zng P []))))))))))))))))
noncomputable def d10 (P:Params):List DictEntry:=[ze P "__name__" 165 (.str "law_gapscribe_k57_lets_that_double" 593),ze P "__doc__" 166 .none,ze P "__package__" 167 .none,ze P "__loader__" 168 (.builtin "__main__.__loader__#opaque"),ze P "__spec__" 169 .none,ze P "__annotations__" 170 (.ref 6),ze P "__builtins__" 171 (.ref 4),ze P "__file__" 173 (.str "/claim/cut.py" 172),ze P "__cached__" 174 .none,ze P "GapError" 206 (.ref 24),ze P "NoDeed" 222 (.ref 37),ze P "TooLong" 238 (.ref 49),ze P "NoPlace" 263 (.ref 68),ze P "is_whole" 272 (.ref 77),ze P "placed_forms" 286 (.ref 84),ze P "has_part" 294 (.ref 91),ze P "forms_down_to" 304 (.ref 98),ze P "form_at" 312 (.ref 105),ze P "with_part" 322 (.ref 112),ze P "with_at" 334 (.ref 119),ze P "refuse_no_gap" 343 (.ref 126),ze P "is_finished" 353 (.ref 133),ze P "names_bound" 363 (.ref 140),ze P "MOST_STEPS" 367 (.int 500 366),ze P "PARTS_AWAITED" 390 (.ref 141),ze P "WORDS_WITH_AROUND" 395 (.ref 148),ze P "are_numbers" 401 (.ref 153),ze P "reckoned" 410 (.ref 160),ze P "Machine" 560 (.ref 259),ze P "thing_now" 570 (.ref 270),ze P "thing_of_row" 576 (.ref 275),ze P "go_on" 592 (.ref 282),ze P "_law_cell" 602 (.ref 289),ze P "_law_mixed" 610 (.ref 296),ze P "_law_same" 619 (.ref 303),ze P "_law_names" 636 (.ref 310),ze P "_law_number" 643 (.ref 317),ze P "_law_odd" 651 (.ref 324),ze P "_law_comes" 666 (.ref 331),ze P "_law_joined" 677 (.ref 338),ze P "_law_copy" 683 (.ref 343)]
noncomputable def z175 (P:Params):Obj:=zt "dict" (.dict ⟨d10 P⟩ 41)
noncomputable def z176:Obj:=zy [(2,0,20),(4,0,33),(6,0,45),(8,0,57),(13,0,76),(16,0,83),(25,0,90),(27,0,97),(34,0,104),(36,0,111),(39,0,118),(45,0,125),(49,0,132),(52,0,139),(64,0,152),(66,0,159),(72,0,166),(158,0,269),(160,0,274),(169,0,281),(178,0,288),(182,0,295),(184,0,302),(201,0,309),(217,0,316),(223,0,323),(226,0,330),(238,0,337),(247,0,342)]
noncomputable def Zm7 (P:Params) (t:List Obj):List Obj:=(boot_o_0 P) :: (boot_o_1 P) :: (boot_o_2 P) :: (z175 P) :: (boot_o_4 P) :: (boot_o_5 P) :: (boot_o_6 P) :: (boot_o_7 P) :: (boot_o_8 P) :: (boot_o_9 P) :: (boot_o_10 P) :: z1 :: z176 :: z3 :: z4 :: z5 :: t
noncomputable def z177:Obj:=zu [("thing",566),("became",567)]
noncomputable def z178:Obj:=zj "thing_now" K7
noncomputable def z179:Obj:=zb "thing_now" 563 158 2 3 264 568 569
noncomputable def z180:Obj:=zi "thing_now" K7 "gapscribe.going" 561 269
noncomputable def Za8 (P:Params) (t:List Obj):List Obj:=N1 :: z166 :: (Zaj P) :: Ow :: z169 :: z170 :: z171 :: z172 :: z1 :: z8 :: z177 :: z1 :: z178 :: z179 :: z180 :: z1 :: t
noncomputable def z181:Obj:=zj "thing_of_row" K6
noncomputable def z182:Obj:=zk "thing_of_row" "thing_of_row" 571 160 4 3 271 true (.ref 273) 574 575
noncomputable def z183:Obj:=zi "thing_of_row" K6 "gapscribe.going" 561 274
noncomputable def z184:Obj:=zu [("tree",580),("record",581),("place",582),("form",583),("answer",584),("rows",585),("steps",586),("machine",587),("became",588),("row",589)]
noncomputable def z185:Obj:=zj "go_on" Ic
noncomputable def z186:Obj:=zb "go_on" 577 169 4 3 276 590 591
noncomputable def z187:Obj:=zi "go_on" Ic "gapscribe.going" 561 281
noncomputable def z188:Obj:=zu [("_law_script",598),("_law_k",599)]
noncomputable def z189:Obj:=zj "_law_cell" J0
noncomputable def N5 (P:Params) (t:List Obj):List Obj:=z8 :: z181 :: z182 :: z183 :: z1 :: z8 :: z184 :: z1 :: z185 :: z186 :: z187 :: z1 :: z8 :: z188 :: z1 :: z189 :: t
noncomputable def z190:Obj:=zb "_law_cell" 595 178 2 3 283 600 601
noncomputable def z191:Obj:=zi "_law_cell" J0 "law_gapscribe_k57_lets_that_double" 593 288
noncomputable def z192:Obj:=zu [("_law_cell_here",606),("_law_k",607)]
noncomputable def z193:Obj:=zj "_law_mixed" Kh
noncomputable def z194:Obj:=zb "_law_mixed" 603 182 2 3 290 608 609
noncomputable def z195:Obj:=zi "_law_mixed" Kh "law_gapscribe_k57_lets_that_double" 593 295
noncomputable def z196:Obj:=zu [("_law_found",614),("_law_due",615),("_law_k",616)]
noncomputable def z197:Obj:=zj "_law_same" Hi
noncomputable def z198:Obj:=zb "_law_same" 611 184 2 3 297 617 618
noncomputable def z199:Obj:=zi "_law_same" Hi "law_gapscribe_k57_lets_that_double" 593 302
noncomputable def Nf (P:Params) (t:List Obj):List Obj:=z190 :: z191 :: z1 :: z8 :: z192 :: z1 :: z193 :: z194 :: z195 :: z1 :: z8 :: z196 :: z1 :: z197 :: z198 :: z199 :: t
noncomputable def z200:Obj:=zu [("_law_cell_here",623),("_law_many",624),("_law_signs",625),("_law_kept",626),("_law_size",627),("_law_at",628),("_law_names_here",629),("_law_k",630),("_law_word",631),("_law_j",632),("_law_step",633)]
noncomputable def z201:Obj:=zj "_law_names" Jq
noncomputable def z202:Obj:=zb "_law_names" 620 201 2 3 304 634 635
noncomputable def z203:Obj:=zi "_law_names" Jq "law_gapscribe_k57_lets_that_double" 593 309
noncomputable def z204:Obj:=zu [("_law_cell_here",640)]
noncomputable def z205:Obj:=zj "_law_number" Kc
noncomputable def z206:Obj:=zb "_law_number" 637 217 1 3 311 641 642
noncomputable def z207:Obj:=zi "_law_number" Kc "law_gapscribe_k57_lets_that_double" 593 316
noncomputable def Zac (P:Params) (t:List Obj):List Obj:=z1 :: z8 :: z200 :: z1 :: z201 :: z202 :: z203 :: z1 :: z8 :: z204 :: z1 :: z205 :: z206 :: z207 :: z1 :: z8 :: t
noncomputable def z208:Obj:=zu [("_law_cell_here",647),("_law_signs",648)]
noncomputable def z209:Obj:=zj "_law_odd" Jd
noncomputable def z210:Obj:=zb "_law_odd" 644 223 1 3 318 649 650
noncomputable def z211:Obj:=zi "_law_odd" Jd "law_gapscribe_k57_lets_that_double" 593 323
noncomputable def z212:Obj:=zu [("_law_form",655),("_law_place",656),("_law_around",657),("_law_rows",658),("_law_word",659),("_law_note",660),("_law_parts",661),("_law_name",662),("_law_thing",663)]
noncomputable def z213:Obj:=zj "_law_comes" Kx
noncomputable def z214:Obj:=zb "_law_comes" 652 226 4 3 325 664 665
noncomputable def z215:Obj:=zi "_law_comes" Kx "law_gapscribe_k57_lets_that_double" 593 330
noncomputable def z216:Obj:=zu [("_law_word",670),("_law_place",671),("_law_one",672),("_law_other",673),("_law_rows",674)]
noncomputable def Oh (P:Params) (t:List Obj):List Obj:=z208 :: z1 :: z209 :: z210 :: z211 :: z1 :: z8 :: z212 :: z1 :: z213 :: z214 :: z215 :: z1 :: z8 :: z216 :: z1 :: t
noncomputable def z217:Obj:=zj "_law_joined" K1
noncomputable def Oi:Obj:=zb "_law_joined" 667 238 5 3 332 675 676
noncomputable def Nb:Obj:=zi "_law_joined" K1 "law_gapscribe_k57_lets_that_double" 593 337
noncomputable def z220:Obj:=zj "_law_copy" Ko
noncomputable def My:Obj:=zk "_law_copy" "_law_copy" 678 247 1 3 339 true (.ref 341) 681 682
noncomputable def Oq:Obj:=zi "_law_copy" Ko "law_gapscribe_k57_lets_that_double" 593 342
noncomputable def Znm (P:Params) (t:List Obj):List Obj:=z217 :: Oi :: Nb :: z1 :: z8 :: z220 :: My :: Oq :: t
noncomputable def Rtree_483:Params->B:=fun P=>tO (Zm7 P (F5 P (Fg P (Fp P (Ga P (F9 P (G7 P (Gv P (Gy P (Hh P (Lw P (K9 P (Ks P (Ku P (K5 P (Mg P (Za8 P (N5 P (Nf P (Zac P (Oh P (Znm P []))))))))))))))))))))))
noncomputable def d11 (P:Params):List DictEntry:=d10 P++[ze P "_law_turned" 692 (.ref 350),ze P "_law_tree" 705 (.ref 357),ze P "_law_first" 715 (.ref 364),ze P "_law_record" 731 (.ref 371),ze P "_law_apart" 740 (.ref 378),ze P "_law_endless" 750 (.ref 385),ze P "_law_late" 761 (.ref 392),ze P "_law_filled" 769 (.ref 399),ze P "law" 793 (.ref 406)]
noncomputable def z223 (P:Params):Obj:=zt "dict" (.dict ⟨d11 P⟩ 50)
noncomputable def z224:Obj:=zy [(2,0,20),(4,0,33),(6,0,45),(8,0,57),(13,0,76),(16,0,83),(25,0,90),(27,0,97),(34,0,104),(36,0,111),(39,0,118),(45,0,125),(49,0,132),(52,0,139),(64,0,152),(66,0,159),(72,0,166),(158,0,269),(160,0,274),(169,0,281),(178,0,288),(182,0,295),(184,0,302),(201,0,309),(217,0,316),(223,0,323),(226,0,330),(238,0,337),(247,0,342),(250,0,349),(252,0,356),(259,0,363),(265,0,370),(277,0,377),(285,0,384),(290,0,391),(297,0,398),(299,0,405)]
noncomputable def Zfd (P:Params) (t:List Obj):List Obj:=(boot_o_0 P) :: (boot_o_1 P) :: (boot_o_2 P) :: (z223 P) :: (boot_o_4 P) :: (boot_o_5 P) :: (boot_o_6 P) :: (boot_o_7 P) :: (boot_o_8 P) :: (boot_o_9 P) :: (boot_o_10 P) :: z1 :: z224 :: z3 :: z4 :: z5 :: t
noncomputable def z225:Obj:=zu [("_law_names_here",687),("_law_count",688),("_law_k",689)]
noncomputable def z226:Obj:=zj "_law_turned" Jl
noncomputable def z227:Obj:=zb "_law_turned" 684 250 3 3 344 690 691
noncomputable def z228:Obj:=zi "_law_turned" Jl "law_gapscribe_k57_lets_that_double" 593 349
noncomputable def Zhj (P:Params) (t:List Obj):List Obj:=z217 :: Oi :: Nb :: z1 :: z8 :: z220 :: My :: Oq :: z1 :: z8 :: z225 :: z1 :: z226 :: z227 :: z228 :: z1 :: t
noncomputable def z229:Obj:=zu [("_law_names_here",696),("_law_count",697),("_law_many",698),("_law_last",699),("_law_tree_here",700),("_law_k",701),("_law_ahead",702)]
noncomputable def z230:Obj:=zj "_law_tree" Ky
noncomputable def z231:Obj:=zb "_law_tree" 693 252 3 3 351 703 704
noncomputable def z232:Obj:=zi "_law_tree" Ky "law_gapscribe_k57_lets_that_double" 593 356
noncomputable def z233:Obj:=zu [("_law_form",709),("_law_rows",710),("_law_left",711),("_law_right",712)]
noncomputable def z234:Obj:=zj "_law_first" Ke
noncomputable def z235:Obj:=zb "_law_first" 706 259 2 3 358 713 714
noncomputable def z236:Obj:=zi "_law_first" Ke "law_gapscribe_k57_lets_that_double" 593 363
noncomputable def z237:Obj:=zu [("_law_names_here",719),("_law_count",720),("_law_many",721),("_law_form",722),("_law_steps",723),("_law_rows",724),("_law_thing",725),("_law_around",726),("_law_place",727),("_law_k",728)]
noncomputable def Zch (P:Params) (t:List Obj):List Obj:=z8 :: z229 :: z1 :: z230 :: z231 :: z232 :: z1 :: z8 :: z233 :: z1 :: z234 :: z235 :: z236 :: z1 :: z8 :: z237 :: t
noncomputable def z238:Obj:=zj "_law_record" Ki
noncomputable def z239:Obj:=zb "_law_record" 716 265 5 3 365 729 730
noncomputable def z240:Obj:=zi "_law_record" Ki "law_gapscribe_k57_lets_that_double" 593 370
noncomputable def z241:Obj:=zu [("_law_rows",735),("_law_due",736),("_law_k",737)]
noncomputable def z242:Obj:=zj "_law_apart" Jm
noncomputable def z243:Obj:=zb "_law_apart" 732 277 2 3 372 738 739
noncomputable def z244:Obj:=zi "_law_apart" Jm "law_gapscribe_k57_lets_that_double" 593 377
noncomputable def z245:Obj:=zu [("_law_names_here",744),("_law_many",745),("_law_form",746),("_law_k",747)]
noncomputable def z246:Obj:=zj "_law_endless" Kl
noncomputable def Zfk (P:Params) (t:List Obj):List Obj:=z1 :: z238 :: z239 :: z240 :: z1 :: z8 :: z241 :: z1 :: z242 :: z243 :: z244 :: z1 :: z8 :: z245 :: z1 :: z246 :: t
noncomputable def z247:Obj:=zb "_law_endless" 741 285 2 3 379 748 749
noncomputable def z248:Obj:=zi "_law_endless" Kl "law_gapscribe_k57_lets_that_double" 593 384
noncomputable def z249:Obj:=zu [("_law_tree_here",754),("_law_record_here",755),("_law_form",756),("_law_late_here",757),("e",758)]
noncomputable def z250:Obj:=zj "_law_late" K3
noncomputable def z251:Obj:=zb "_law_late" 751 290 3 3 386 759 760
noncomputable def z252:Obj:=zi "_law_late" K3 "law_gapscribe_k57_lets_that_double" 593 391
noncomputable def z253:Obj:=zu [("_law_tree_here",765),("_law_form",766)]
noncomputable def z254:Obj:=zj "_law_filled" Kd
noncomputable def z255:Obj:=zb "_law_filled" 762 297 2 3 393 767 768
noncomputable def z256:Obj:=zi "_law_filled" Kd "law_gapscribe_k57_lets_that_double" 593 398
noncomputable def Zfp (P:Params) (t:List Obj):List Obj:=z247 :: z248 :: z1 :: z8 :: z249 :: z1 :: z250 :: z251 :: z252 :: z1 :: z8 :: z253 :: z1 :: z254 :: z255 :: z256 :: t
noncomputable def z257:Obj:=zu [("_law_script",773),("_law_names_here",774),("_law_other",775),("_law_count",776),("_law_many",777),("_law_tree_here",778),("_law_gap",779),("_law_number_here",780),("_law_pick",781),("_law_form",782),("_law_steps",783),("_law_record_here",784),("_law_handed",785),("_law_found",786),("_law_more",787),("_law_due",788),("_law_kept",789),("_law_last",790)]
noncomputable def z258:Obj:=zj "law" Kb
noncomputable def z259:Obj:=zb "law" 770 299 1 3 400 791 792
noncomputable def z260:Obj:=zi "law" Kb "law_gapscribe_k57_lets_that_double" 593 405
noncomputable def Zgx (P:Params) (t:List Obj):List Obj:=z1 :: z8 :: z257 :: z1 :: z258 :: z259 :: z260 :: t
noncomputable def Rtree_548:Params->B:=fun P=>tO (Zfd P (F5 P (Fg P (Fp P (Ga P (F9 P (G7 P (Gv P (Gy P (Hh P (Lw P (K9 P (Ks P (Ku P (K5 P (Mg P (Za8 P (N5 P (Nf P (Zac P (Oh P (Zhj P (Zch P (Zfk P (Zfp P (Zgx P []))))))))))))))))))))))))))
noncomputable def Rheap_549:Params->Heap:=fun P=>⟨⟨Zfd P (F5 P (Fg P (Fp P (Ga P (F9 P (G7 P (Gv P (Gy P (Hh P (Lw P (K9 P (Ks P (Ku P (K5 P (Mg P (Za8 P (N5 P (Nf P (Zac P (Oh P (Zhj P (Zch P (Zfk P (Zfp P (Zgx P [])))))))))))))))))))))))))⟩,Life.mk [] [] [] 0 [] [] false #[] [] 0 false false false 0 [2000,10,10] false 0 true [] [] 0 false⟩
noncomputable def KK:Params->O7:=fun P=>(nat_lit 2,boot_o_2 P) :: (nat_lit 3,z223 P) :: (nat_lit 23,z11 P) :: (nat_lit 24,z36) :: (nat_lit 36,z20 P) :: (nat_lit 37,z21) :: (nat_lit 48,z30 P) :: (nat_lit 49,z31) :: (nat_lit 67,z46 P) :: (nat_lit 68,z47) :: (nat_lit 76,z52) :: (nat_lit 77,z53) :: (nat_lit 83,z56) :: (nat_lit 84,z57) :: (nat_lit 90,z60) :: (nat_lit 91,z61) :: (nat_lit 97,z64) :: (nat_lit 98,z65) :: (nat_lit 104,z70) :: (nat_lit 105,z71) :: (nat_lit 111,z74) :: (nat_lit 112,z75) :: (nat_lit 118,z78) :: (nat_lit 119,z79) :: (nat_lit 125,z82) :: (nat_lit 126,z83) :: (nat_lit 132,z86) :: (nat_lit 133,z87) :: (nat_lit 139,z90) :: (nat_lit 140,z91) :: (nat_lit 141,z92 P) :: (nat_lit 142,z93) :: (nat_lit 143,z94) :: (nat_lit 144,z95) :: (nat_lit 145,z96) :: (nat_lit 146,z97) :: (nat_lit 147,z98) :: (nat_lit 148,z99) :: (nat_lit 152,Zab) :: (nat_lit 153,Nl) :: (nat_lit 159,z107) :: (nat_lit 160,Li) :: (nat_lit 173,Zav) :: (nat_lit 174,Zbx) :: (nat_lit 180,z121) :: (nat_lit 181,z122) :: (nat_lit 187,z125) :: (nat_lit 188,z126) :: (nat_lit 194,z129) :: (nat_lit 195,z130) :: (nat_lit 201,z133) :: (nat_lit 202,z134) :: (nat_lit 208,z137) :: (nat_lit 209,z138) :: (nat_lit 213,z140) :: (nat_lit 214,z141) :: (nat_lit 220,z144) :: (nat_lit 221,z145) :: (nat_lit 227,z148) :: (nat_lit 228,z149) :: (nat_lit 234,z152) :: (nat_lit 235,z153) :: (nat_lit 241,Zaf) :: (nat_lit 242,z157) :: (nat_lit 248,z160) :: (nat_lit 249,z161) :: (nat_lit 255,z164) :: (nat_lit 256,N1) :: (nat_lit 258,Zaj P) :: (nat_lit 259,Ow) :: (nat_lit 269,z179) :: (nat_lit 270,z180) :: (nat_lit 274,z182) :: (nat_lit 275,z183) :: (nat_lit 281,z186) :: (nat_lit 282,z187) :: (nat_lit 288,z190) :: (nat_lit 289,z191) :: (nat_lit 295,z194) :: (nat_lit 296,z195) :: (nat_lit 302,z198) :: (nat_lit 303,z199) :: (nat_lit 309,z202) :: (nat_lit 310,z203) :: (nat_lit 316,z206) :: (nat_lit 317,z207) :: (nat_lit 323,z210) :: (nat_lit 324,z211) :: (nat_lit 330,z214) :: (nat_lit 331,z215) :: (nat_lit 337,Oi) :: (nat_lit 338,Nb) :: (nat_lit 342,My) :: (nat_lit 343,Oq) :: (nat_lit 349,z227) :: (nat_lit 350,z228) :: (nat_lit 356,z231) :: (nat_lit 357,z232) :: (nat_lit 363,z235) :: (nat_lit 364,z236) :: (nat_lit 370,z239) :: (nat_lit 371,z240) :: (nat_lit 377,z243) :: (nat_lit 378,z244) :: (nat_lit 384,z247) :: (nat_lit 385,z248) :: (nat_lit 391,z251) :: (nat_lit 392,z252) :: (nat_lit 398,z255) :: (nat_lit 399,z256) :: (nat_lit 405,z259) :: (nat_lit 406,z260) :: []
noncomputable def KA:List Addr:=[2,3,23,24,36,37,48,49,67,68,76,77,83,84,90,91,97,98,104,105,111,112,118,119,125,126,132,133,139,140,141,142,143,144,145,146,147,148,152,153,159,160,173,174,180,181,187,188,194,195,201,202,208,209,213,214,220,221,227,228,234,235,241,242,248,249,255,256,258,259,269,270,274,275,281,282,288,289,295,296,302,303,309,310,316,317,323,324,330,331,337,338,342,343,349,350,356,357,363,364,370,371,377,378,384,385,391,392,398,399,405,406]
noncomputable def RB (P:Params):List Qx×List Heap:=([Rtree_78 P,Rtree_93 P,Rtree_143 P,Rtree_200 P,Rtree_211 P,Rtree_316 P,Rtree_398 P,Rtree_483 P,Rtree_548 P],[Rheap_549 P])
theorem e_RB:RB=RB:=rfl
name_quick x_RB for K57.RB by K57.e_RB
end K57
namespace PySem.W.Fast
noncomputable def tw15041494106460170341:Q8->Qx:=tw10294888946107456943
theorem te15041494106460170341:K57.Rtree_78=tw15041494106460170341:=te10294888946107456943
noncomputable def tw9654201621160719775:Q8->Qx:=tw16481080293687970826
theorem te9654201621160719775:K57.Rtree_93=tw9654201621160719775:=te16481080293687970826
noncomputable def tw1796290515869023902:Q8->Qx:=tw529940372382933137
theorem te1796290515869023902:K57.Rtree_143=tw1796290515869023902:=te529940372382933137
noncomputable def tw18285078999843656102:Q8->Qx:=tw16740541894631507506
theorem te18285078999843656102:K57.Rtree_200=tw18285078999843656102:=te16740541894631507506
noncomputable def tw16127807607335991163:Q8->Qx:=tw12906836739708159100
theorem te16127807607335991163:K57.Rtree_211=tw16127807607335991163:=te12906836739708159100
noncomputable def tw13188418589757566984:Q8->Qx:=tw11533246477351346223
theorem te13188418589757566984:K57.Rtree_316=tw13188418589757566984:=te11533246477351346223
noncomputable def tw3928509493652089035:Q8->Qx:=tw1924766546794757882
theorem te3928509493652089035:K57.Rtree_398=tw3928509493652089035:=te1924766546794757882
noncomputable def tw13966699456650152854:Q8->Qx:=tw5671186624018301212
theorem te13966699456650152854:K57.Rtree_483=tw13966699456650152854:=te5671186624018301212
noncomputable def tw18038644526930466739:Q8->Qx:=tw4383050658070708625
theorem te18038644526930466739:K57.Rtree_548=tw18038644526930466739:=te4383050658070708625
noncomputable def tw10727556654296994478:Q8->PySem.Heap:=tw6764423920946271011
theorem te10727556654296994478:K57.Rheap_549=tw10727556654296994478:=te6764423920946271011
end PySem.W.Fast
local macro_rules | `(tactic| walk_at "gd")=>`(tactic| (refine' ⟨?ka,_,L2.fun_mk ?kl ?kc ?kk⟩; (case ka=>k_is); (case kl=>k_is); (case kc=>k_is); (case kk=>k_is)))
local macro_rules | `(tactic| walk_at "gm")=>`(tactic| (refine' ⟨?ka,?ki,_,L2.fun_mk ?kl ?kc ?kk⟩; (case ka=>k_is); (case ki=>k_is); (case kl=>k_is); (case kc=>k_is); (case kk=>k_is)))
namespace K57
open PySem L2
noncomputable abbrev Zbo:=Zep
theorem all1 {α:Type} {P:List α->Prop} (h:∀ a,P [a]):∀ us:List α,us.length=1->P us
 | [a],_=>h a
theorem all2 {α:Type} {P:List α->Prop} (h:∀ a b,P [a,b]):∀ us:List α,us.length=2->P us
 | [a,b],_=>h a b
theorem all3 {α:Type} {P:List α->Prop} (h:∀ a b c,P [a,b,c]):∀ us:List α,us.length=3->P us
 | [a,b,c],_=>h a b c
theorem all4 {α:Type} {P:List α->Prop} (h:∀ a b c d,P [a,b,c,d]):∀ us:List α,us.length=4->P us
 | [a,b,c,d],_=>h a b c d
theorem all5 {α:Type} {P:List α->Prop} (h:∀ a b c d e,P [a,b,c,d,e]):∀ us:List α,us.length=5->P us
 | [a,b,c,d,e],_=>h a b c d e
local macro_rules | `(tactic| walk_at "bi")=>`(tactic| first | exact fun _ _ _ _ _ _=>K57.all1 fun _=>rfl | exact fun _ _ _ _ _ _=>K57.all2 fun _ _=>rfl | exact fun _ _ _ _ _ _=>K57.all3 fun _ _ _=>rfl | exact fun _ _ _ _ _ _=>K57.all4 fun _ _ _ _=>rfl | exact fun _ _ _ _ _ _=>K57.all5 fun _ _ _ _ _=>rfl)
theorem Zhm {P:Program} {w:World} {K:O7} {mg:Str->Option Value} {base:Heap} {f:Addr} {fd:FuncData} (F:Fun K "_law_same" "_law_same" Hi f fd) (T:Txt K mg)
  (mk:∀ n,FnOk P w K mg base An (n + 1) f fd ["_law_found", "_law_due"] (G3 K n)->A8 P w K mg base (n + 1) "_law_same" ["_law_found", "_law_due"] (G3 K n)):∀ n,FnOk P w K mg base An (n + 1) f fd ["_law_found", "_law_due"] (G3 K n)
 | 0=>by
  have no:∀ vs H Q E,¬ G3 K 0 vs H Q E:=by
   rintro vs H Q E ⟨x,y,d,m,_,h,_⟩
   exact absurd h (V8 _)
  exact ⟨fun vs H Q E h=>absurd h (no _ _ _ _),fun A outer s H args us vs Q E _ _ _ _ h=>absurd h (no _ _ _ _)⟩
 | n + 1=>Zi8 F T (mk n (Zhm F T mk n))
theorem Zst {K:O7} {GE:Addr} {ddG:Option Addr} {cdG:ClassData} {slG:Array (Option Value)} {cG:Value} (ho:K.lookup GE=some ⟨cG,ddG,.cls cdG,slG⟩) (hok:Tk K cdG.ns=true) (hni:Ps K cdG.ns "__init__" = some none):R5 K VE (.ref GE :: VE)=true/\(Rg K GE).isSome=true:=by
 have e:R5 K VE VE=true:=by unfold R5; rfl
 refine ⟨?_,by unfold Rg; rw [ho]; rfl⟩
 unfold R5
 dsimp only
 rw [ho]
 dsimp only
 rw [hok,hni,e]
 simp
theorem Zju {K:O7} {C GE:Addr} {ddC:Option Addr} {cdC:ClassData} {slC:Array (Option Value)} {k0 k1 k2 k3 k5:Option Value} (hC:K.lookup C=some ⟨.type "type",ddC,.cls cdC,slC⟩) (hm:cdC.mro=.ref C :: .ref GE :: VE) (hs:slC.toList=[k0,k1,k2,k3,some (.builtin "ValueError.__new__"),k5]) (hd:cdC.hasDel=false) (h:R5 K VE (.ref GE :: VE)=true):excI K C=true/\((Rg K C).any fun cd=>Iu cd.mro)=true:=by
 refine ⟨?_,?_⟩
 ·unfold excI
  rw [hC]
  simp only [hm,hs]
  rw [hd,h]
  simp
 ·unfold Rg
  rw [hC]
  dsimp only
  show Iu cdC.mro=true
  rw [hm]
  show Iu VE=true
  decide
theorem Zan {K:O7} {C X:Addr} {b:Bool} {c:Value} {dd:Option Addr} {cd:ClassData} {sl:Array (Option Value)} (hX:K.lookup X=some ⟨c,dd,.cls cd,sl⟩) (ht:Rp K (.ref X)=some (.type "type")) (hs:Qh K (.ref C) (.ref X)=some b) (hn:b=false->(C == X)=false):P4 K (.ref C) (.ref X)=some b:=by
 unfold P4
 by_cases h:((Value.ref C) == (Value.ref X))=true
 ·rw [if_pos h]
  have e:=beq_iff_eq.mp h
  injection e with e
  subst e
  cases b with
  | true=>rfl
  | false=>have:=hn rfl; simp at this
 ·rw [if_neg h]
  unfold PySem.W.kitCls
  dsimp only
  rw [if_pos]
  ·exact hs
  ·rw [ht]
   unfold Rg
   rw [hX]
   simp
theorem Zjr {K:O7} {C:Addr} (hs:Qh K (.ref C) (.type "ValueError")=some true):P4 K (.ref C) (.type "ValueError")=some true:=by
 unfold P4
 rw [if_neg (by intro h; have:=beq_iff_eq.mp h; cases this)]
 unfold PySem.W.kitCls
 dsimp only
 rw [if_pos (by rfl)]
 exact hs
theorem Zke {K:O7} {C GE:Addr} {ddC:Option Addr} {cdC:ClassData} {slC:Array (Option Value)} {k0 k1 k2 k3 k5:Option Value} (hC:K.lookup C=some ⟨.type "type",ddC,.cls cdC,slC⟩) (hm:cdC.mro=.ref C :: .ref GE :: VE) (hs:slC.toList=[k0,k1,k2,k3,some (.builtin "ValueError.__new__"),k5]) (hd:cdC.hasDel=false) (h:R5 K VE (.ref GE :: VE)=true) (hok:Tk K cdC.ns=true) (hni:Ps K cdC.ns "__init__" = some none):Sm K C VE "ValueError.__new__" = true:=by
 unfold Sm
 rw [hC]
 simp only [hm,hs]
 rw [hd,h,hok,hni]
 simp
noncomputable def Gz (t1 t2 t3 t4 t5 t6:Addr):List (Str×V):=[("plus",.ref t1),("minus",.ref t2),("less",.ref t3),("call",.ref t4),("if",.ref t5),("let",.ref t6)]
theorem Zsj {t1 t2 t3 t4 t5 t6:Addr}:((Gz t1 t2 t3 t4 t5 t6).map (·.1)).Nodup:=by
 show (["plus", "minus", "less", "call", "if", "let"]:List Str).Nodup
 decide +kernel
theorem Zhx {K:O7} {t1 t2 t3 t4 t5 t6:Addr} (h1:∀ H,SqT K H t1 ([1,0].map V.int)) (h2:∀ H,SqT K H t2 ([1,0].map V.int)) (h3:∀ H,SqT K H t3 ([1,0].map V.int)) (h4:∀ H,SqT K H t4 ([1,0].map V.int)) (h5:∀ H,SqT K H t5 ([0].map V.int)) (h6:∀ H,SqT K H t6 ([0].map V.int)) (wd:Str) :
  (C9 (Gz t1 t2 t3 t4 t5 t6) wd).isSome=(Bf wd).isSome/\∀ ns,Bf wd=some ns->∃ b,C9 (Gz t1 t2 t3 t4 t5 t6) wd=some (.ref b)/\∀ H,SqT K H b (ns.map V.int):=by
 by_cases e1:wd = "plus"
 ·subst e1
  have p:Bf "plus" = some [1,0]:=by decide +kernel
  exact ⟨by rw [p]; rfl,fun ns h=>by rw [p] at h; cases h; exact ⟨t1,rfl,h1⟩⟩
 by_cases e2:wd = "minus"
 ·subst e2
  have p:Bf "minus" = some [1,0]:=by decide +kernel
  exact ⟨by rw [p]; rfl,fun ns h=>by rw [p] at h; cases h; exact ⟨t2,rfl,h2⟩⟩
 by_cases e3:wd = "less"
 ·subst e3
  have p:Bf "less" = some [1,0]:=by decide +kernel
  exact ⟨by rw [p]; rfl,fun ns h=>by rw [p] at h; cases h; exact ⟨t3,rfl,h3⟩⟩
 by_cases e4:wd = "call"
 ·subst e4
  have p:Bf "call" = some [1,0]:=by decide +kernel
  exact ⟨by rw [p]; rfl,fun ns h=>by rw [p] at h; cases h; exact ⟨t4,rfl,h4⟩⟩
 by_cases e5:wd = "if"
 ·subst e5
  have p:Bf "if" = some [0]:=by decide +kernel
  exact ⟨by rw [p]; rfl,fun ns h=>by rw [p] at h; cases h; exact ⟨t5,rfl,h5⟩⟩
 by_cases e6:wd = "let"
 ·subst e6
  have p:Bf "let" = some [0]:=by decide +kernel
  exact ⟨by rw [p]; rfl,fun ns h=>by rw [p] at h; cases h; exact ⟨t6,rfl,h6⟩⟩
 have p:Bf wd=none:=by
  unfold Bf
  rw [if_neg (by simp [e1,e2,e3,e4]),if_neg (by simp [e5,e6])]
 have q:C9 (Gz t1 t2 t3 t4 t5 t6) wd=none:=by
  unfold C9 Gz
  simp [Pg e1,Pg e2,Pg e3,Pg e4,Pg e5,Pg e6]
 rw [p,q]
 exact ⟨rfl,fun ns h=>nomatch h⟩
noncomputable abbrev Gd (K:O7) (n:Str) (st:Stmt) (f:Addr):Prop:=Ps K mainGlobals n=some (some (.ref f))/\∃ fd,Fun K n n st f fd
noncomputable abbrev Gm (K:O7) (C:Addr) (n q:Str) (st:Stmt) (f:Addr):Prop:=Px K (.ref C) n=some (some (.ref f))/\U3 K (.ref f)=true/\∃ fd,Fun K n q st f fd
noncomputable abbrev Bi (n q:Str) (st:Stmt) (ps:List Str):Prop:=∀ (kV doc pm:Value) (an:Option Addr) (cdv ct:Value) (us:List Value),us.length=ps.length->bindArgs (Rr n q (Gx st) (E3 st) (Az st) .none kV doc pm an cdv ct) ⟨us,[]⟩=pure (ps.zip us)
section
variable {P:Program} {w:World} {K:O7} {mg:Str->Option Value} {base h:Heap} (X:K.In h) (G:h.Ns mainGlobals mg) {n q:Str} {st:Stmt} {f C:Addr} {k:Nat} {ps:List Str} {sp:Sp}
include X G
theorem cal (g:Gd K n st f) (ok:∀ fd,Fun K n n st f fd->FnOk P w K mg base An k f fd ps sp) (b:Bi n n st ps:=by walk_at "bi"):A8 P w K mg base k n ps sp:=by
 obtain ⟨a,fd,F⟩:=g
 exact Zgi (ok fd F) (U0 X G a) F.kp (F.binds b)
theorem calx (g:Gd K n st f) (ok:∀ fd,Fun K n n st f fd->FnOk P w K mg base (Bl P w) k f fd ps sp) (b:Bi n n st ps:=by walk_at "bi"):He P w K mg base k n ps sp:=by
 obtain ⟨a,fd,F⟩:=g
 exact Zon (ok fd F) (U0 X G a) F.kp (F.binds b)
omit X G
theorem met {CX:B7} (cl:Cls K C) (g:Gm K C n q st f) (ok:∀ fd,Fun K n q st f fd->FnOk P w K mg base CX k f fd ps sp) (b:Bi n q st ps:=by walk_at "bi"):Ck CX P w K mg base k C n ps sp:=by
 obtain ⟨a,i,fd,F⟩:=g
 exact ⟨f,fd,ok fd F,cl,⟨a,i,F.kp⟩,F.binds b⟩
end
theorem all_mk {l:V4} {w:World} {K:O7} {h:Heap} {mg:Str->Option Value} {fa f1 f2 f3 f4 f5 f6 f7 f8 f9 f10 f11 f12 f13 f14 f15 f16 f17 f18 f19 f20 f21 f22 f23 f24 f25 f26 f27 f28 f29 f30 f31 f32 f33:Addr} (X:K.In h) (G:h.Ns mainGlobals mg) (hfa:mg "law" = some (.ref fa))
  (a1:Gd K "is_whole" K2 f1) (a2:Gd K "placed_forms" Je f2) (a3:Gd K "has_part" Kz f3) (a4:Gd K "forms_down_to" Kw f4) (a5:Gd K "form_at" Jz f5) (a6:Gd K "with_part" Ju f6) (a7:Gd K "with_at" Jh f7) (a8:Gd K "refuse_no_gap" J6 f8) (a9:Gd K "is_finished" Kq f9) (a10:Gd K "names_bound" K4 f10) (a11:Gd K "are_numbers" Jo f11) (a12:Gd K "reckoned" Jn f12) (a13:Gd K "thing_now" K7 f13) (a14:Gd K "thing_of_row" K6 f14) (a15:Gd K "go_on" Ic f15)
  (a16:Gd K "_law_cell" J0 f16) (a17:Gd K "_law_mixed" Kh f17) (a18:Gd K "_law_same" Hi f18) (a19:Gd K "_law_names" Jq f19) (a20:Gd K "_law_number" Kc f20) (a21:Gd K "_law_odd" Jd f21) (a22:Gd K "_law_comes" Kx f22) (a23:Gd K "_law_joined" K1 f23) (a24:Gd K "_law_copy" Ko f24) (a25:Gd K "_law_turned" Jl f25) (a26:Gd K "_law_tree" Ky f26) (a27:Gd K "_law_first" Ke f27) (a28:Gd K "_law_record" Ki f28) (a29:Gd K "_law_apart" Jm f29) (a30:Gd K "_law_endless" Kl f30)
  (a31:Gd K "_law_late" K3 f31) (a32:Gd K "_law_filled" Kd f32) (a33:Gd K "law" Kb f33) (z1:Ps K mainGlobals "isinstance" = some none) (z2:Ps K mainGlobals "int" = some none) (z3:Ps K mainGlobals "bool" = some none) (z4:Ps K mainGlobals "reversed" = some none) (z5:Ps K mainGlobals "list" = some none) (z6:Ps K mainGlobals "enumerate" = some none) (z7:Ps K mainGlobals "len" = some none) (z8:Ps K mainGlobals "zip" = some none) (z9:Ps K mainGlobals "all" = some none)
  (z10:Ps K mainGlobals "tuple" = some none) (z11:Ps K mainGlobals "range" = some none) (z12:Ps K mainGlobals "str" = some none) (z13:Ps K mainGlobals "ValueError" = some none) (z14:Ps K mainGlobals "dict" = some none) {u1:Tok} (b1:Ps K mainGlobals "MOST_STEPS" = some (some (.int 500 u1))) {wa pa t1 t2 t3 t4 t5 t6:Addr} {wo o1 o2 o3 o4 o5 o6:Option Addr} {wi i1 i2 i3 i4 i5 i6:Array Value} {wn pn n1 n2 n3 n4 n5 n6:Nat} {ws s1 s2 s3 s4 s5 s6:Array (Option Value)} {pi:Array DictEntry} (b2:Ps K mainGlobals "WORDS_WITH_AROUND" = some (some (.ref wa)))
  (b3:K.lookup wa=some ⟨.type "tuple",wo,.seq wi wn,ws⟩) (b4:D7 wi.toList=some (WA.map V.str)) (b5:Ps K mainGlobals "PARTS_AWAITED" = some (some (.ref pa))) (b6:K.lookup pa=some ⟨.type "dict",none,.dict pi pn,#[]⟩) (b7:(pa == sysModules)=false) (b8:Ents w.params pi.toList (Gz t1 t2 t3 t4 t5 t6)) (gt1:K.lookup t1=some ⟨.type "tuple",o1,.seq i1 n1,s1⟩) (gu1:D7 i1.toList=some ([1,0].map V.int)) (gt2:K.lookup t2=some ⟨.type "tuple",o2,.seq i2 n2,s2⟩) (gu2:D7 i2.toList=some ([1,0].map V.int)) (gt3:K.lookup t3=some ⟨.type "tuple",o3,.seq i3 n3,s3⟩)
  (gu3:D7 i3.toList=some ([1,0].map V.int)) (gt4:K.lookup t4=some ⟨.type "tuple",o4,.seq i4 n4,s4⟩) (gu4:D7 i4.toList=some ([1,0].map V.int)) (gt5:K.lookup t5=some ⟨.type "tuple",o5,.seq i5 n5,s5⟩) (gu5:D7 i5.toList=some ([0].map V.int)) (gt6:K.lookup t6=some ⟨.type "tuple",o6,.seq i6 n6,s6⟩) (gu6:D7 i6.toList=some ([0].map V.int)) {GE TL NP ND AM g1 g2 g3 g4 g5 g6 g7 g8 g9 g10 g11 g12 g13:Addr} {cG cN cM cP cD:Value} {dG dN dT dM dP dD:Option Addr} {kG kT kP kD:ClassData} {lG lN lT lM lP lD:Array (Option Value)} {eN eM:Array DictEntry}
  {nN nM:Nat} {j0 j1 j2 j3 j5:Option Value} (x1:Ps K mainGlobals "GapError" = some (some (.ref GE))) (x2:K.lookup GE=some ⟨cG,dG,.cls kG,lG⟩) (x3:K.lookup kG.ns=some ⟨cN,dN,.dict eN nN,lN⟩) (x4:(eN.toList.all fun e=>match e.key with | .str _ _=>true | _=>false)=true) (x5:Ps K kG.ns "__init__" = some none) (x6:Rp K (.ref GE)=some (.type "type")) (x7:Qh K (.ref GE) (.type "BaseException")=some true) (x8:Vr K (.builtin "object.__class__") "__get__" = some (some (.builtin "getset_descriptor.__get__")))
  (x9:V1 K (.builtin "object.__class__")=some true) (y1:Ps K mainGlobals "TooLong" = some (some (.ref TL))) (y2:K.lookup TL=some ⟨.type "type",dT,.cls kT,lT⟩) (y3:kT.mro=.ref TL :: .ref GE :: VE) (y4:lT.toList=[j0,j1,j2,j3,some (.builtin "ValueError.__new__"),j5]) (y5:kT.hasDel=false) (y6:K.lookup kT.ns=some ⟨cM,dM,.dict eM nM,lM⟩) (y7:(eM.toList.all fun e=>match e.key with | .str _ _=>true | _=>false)=true) (y8:Ps K kT.ns "__init__" = some none) (y9:Rp K (.ref TL)=some (.type "type")) (ya:Sd K TL=true)
  (yb:Px K (.ref TL) "__getattribute__" = some (some (.builtin "BaseException.__getattribute__"))) (yc:Px K (.ref TL) "__getattr__" = some none) (yd:Px K (.ref TL) "__setattr__" = some (some (.builtin "object.__setattr__"))) (ye:Qh K (.ref TL) (.ref GE)=some true) (yf:Qh K (.ref TL) (.ref TL)=some true) (yg:Qh K (.ref TL) (.type "BaseException")=some true) (yh:Px K (.ref TL) "__class__" = some (some (.builtin "object.__class__"))) (yi:Qh K (.ref TL) (.type "ValueError")=some true)
  (vP1:Ps K mainGlobals "NoPlace" = some (some (.ref NP))) (vP2:K.lookup NP=some ⟨cP,dP,.cls kP,lP⟩) (vP3:Rp K (.ref NP)=some (.type "type")) (vP4:Qh K (.ref TL) (.ref NP)=some false) (vP5:(TL == NP)=false) (vD1:Ps K mainGlobals "NoDeed" = some (some (.ref ND))) (vD2:K.lookup ND=some ⟨cD,dD,.cls kD,lD⟩) (vD3:Rp K (.ref ND)=some (.type "type")) (vD4:Qh K (.ref TL) (.ref ND)=some false) (vD5:(TL == ND)=false) (m0:Ps K mainGlobals "Machine" = some (some (.ref AM))) (m1:Tc K AM Str.empty=true)
  (m2:Sd K AM=true) (m3:Vq K AM=true) (m4:Px K (.ref AM) "__setattr__" = some (some (.builtin "object.__setattr__"))) (m5:V0 K AM=true) (m6:Q6 K (.ref AM)=true) (m7:Px K (.ref AM) "forms" = some none) (m8:Px K (.ref AM) "rows" = some none) (m9:Px K (.ref AM) "waiting" = some none) (ma:Px K (.ref AM) "things" = some none) (mb:Px K (.ref AM) "steps" = some none) (h1:Gm K AM "__init__" "Machine.__init__" Jx g1) (h2:Gm K AM "make_steps" "Machine.make_steps" Ir g2)
  (h3:Gm K AM "new_row" "Machine.new_row" J1 g3) (h4:Gm K AM "thing_of_leaf" "Machine.thing_of_leaf" J8 g4) (h5:Gm K AM "come_to" "Machine.come_to" Ix g5) (h6:Gm K AM "taken_things" "Machine.taken_things" Ji g6) (h7:Gm K AM "go_further" "Machine.go_further" Jw g7) (h8:Gm K AM "thing_at_the_end" "Machine.thing_at_the_end" Ii g8) (h9:Gm K AM "thing_of_form" "Machine.thing_of_form" G9 g9) (h10:Gm K AM "thing_of_parts" "Machine.thing_of_parts" Kt g10)
  (h11:Gm K AM "go_within" "Machine.go_within" Jj g11) (h12:Gm K AM "is_function" "Machine.is_function" Jy g12) (h13:Gm K AM "call" "Machine.call" K0 g13) :
  ∃ fd:FuncData,(∀ (s:Shared) (v:Value),BindsTo s fd ⟨[v],[]⟩ [("_law_script",v)])/\∀ base:Heap,K.In base->base.Ns mainGlobals mg->FnOk l.prog w K mg base An 10 fa fd ["_law_script"] (Zbo K):=by
 obtain ⟨aL,fd,FL⟩:=a33
 have e:=hfa.symm.trans (U0 X G aL)
 cases e
 have FX:=FL
 obtain ⟨_,_,kV,doc,pm,an,cdv,ct,_,ef,_,_⟩:=FL.ex
 refine ⟨fd,fun s v=>by rw [ef]; exact .of_eq rfl,fun base _ _=>?_⟩
 have gl:=fun {n v}=>@U0 K h mg n v X G
 have no:=fun {n}=>@PySem.W.mg_none_of K h mg n X G
 have T:Txt K mg:=⟨no z1,no z2,no z3,no z4,no z5,no z6,no z7,no z8,no z9,no z10,no z11,no z12,no z13,no z14⟩
 have GMS:Ea mg "MOST_STEPS" (.int 500):=⟨_,gl b1,⟨_,rfl⟩⟩
 have GWA:Ea mg "WORDS_WITH_AROUND" (.ref wa):=⟨_,gl b2,rfl⟩
 have HWA:=Gh b3 b4 (by decide)
 have GPA:Ea mg "PARTS_AWAITED" (.ref pa):=⟨_,gl b5,rfl⟩
 have HPA:Fs l.prog w K pa (Gz t1 t2 t3 t4 t5 t6):=Zs3 b6 b7 b8 Zsj
 have HPK:=Zhx (K:=K) (Gh gt1 gu1 (by decide)) (Gh gt2 gu2 (by decide)) (Gh gt3 gu3 (by decide)) (Gh gt4 gu4 (by decide)) (Gh gt5 gu5 (by decide)) (Gh gt6 gu6 (by decide))
 obtain ⟨tG,iG⟩:=Zst x2 (by unfold Tk; rw [x3]; show (eN.all fun e=>match e.key with | .str _ _=>true | _=>false)=true; rw [<- Array.all_toList]; exact x4) x5
 have gG:=gl x1
 have XG:J4 K GE:=⟨x6,iG,x7⟩
 have rTL:=Zke y2 y3 y4 y5 tG (by unfold Tk; rw [y6]; show (eM.all fun e=>match e.key with | .str _ _=>true | _=>false)=true; rw [<- Array.all_toList]; exact y7) y8
 have gTL:=gl y1
 have gNP:=gl vP1
 have gND:=gl vD1
 have TLK:TLc K TL GE NP ND:=⟨ye,Zan y2 y9 yf (fun h=>nomatch h),Zjr yi,by simp only [PySem.W.kitAny,Zan vP2 vP3 vP4 fun _=>vP5,Zan vD2 vD3 vD4 fun _=>vD5],{ toExC:=⟨(Zju y2 y3 y4 y5 tG).2,ya,yb,yc,yd,y9⟩,ca:=yh,cg:=x8,ct:=x9 }⟩
 have clM:Cls K AM:=⟨m1,m2,m3,m4⟩
 have MCx:Mc K AM:=⟨clM,m7,m8,m9,ma,mb⟩
 have me:=fun {CX k n q st f ps sp}=>@met l.prog w K mg base n q st f AM k ps sp CX clM
 have ca:=fun {k n st f ps sp}=>@cal l.prog w K mg base h X G n st f k ps sp
 have cx:=fun {k n st f ps sp}=>@calx l.prog w K mg base h X G n st f k ps sp
 have C_is_whole:=ca a1 fun _ F=>Zlg F T
 have C_placed_forms:=ca a2 fun _ F=>Zrh F T
 have C_has_part:=ca a3 fun _ F=>Zky F T C_is_whole
 have C_forms_down_to:=ca a4 fun _ F=>Zry F T C_has_part
 have C_form_at:=ca a5 fun _ F=>Zk5 F T C_forms_down_to
 have C_with_part:=ca a6 fun _ F=>Zit F T
 have C_with_at:=ca a7 fun _ F=>Zi1 F T C_forms_down_to C_with_part
 have C_refuse_no_gap:=ca a8 fun _ F=>Zs2 F T
 have C_is_finished:=ca a9 fun _ F=>Zm1 F T
 have C_names_bound:=ca a10 fun _ F=>Zk2 F T
 have C_are_numbers:=ca a11 fun _ F=>Zqr F T
 have C_reckoned:=ca a12 fun _ F=>Zii F T
 have C_thing_now:=ca a13 fun _ F=>Ziv F T
 have M1:=me h2 fun _ F=>Zj7 F T MCx GMS
 have M2:=me h3 fun _ F=>Zs4 F T MCx GWA HWA
 have M3:=me h4 fun _ F=>Ziu F T MCx M2
 have M5:=me h6 fun _ F=>Zmp F T MCx
 have MW:=me h11 fun _ F=>Zi4 F T MCx C_names_bound
 have MI:=me h12 fun _ F=>Ziq F T MCx C_is_finished
 have MCa:=me h13 fun _ F=>Zof F T MCx MW
 have M6:=me h7 fun _ F=>Zpd F T MCx GPA HPA HPK M5 M2 MW MCa MI C_are_numbers C_reckoned
 have M1L:=me h2 fun _ F=>Zmh F T MCx GMS rTL gTL
 have M4X:=me h5 fun _ F=>Zfz (Zht (Zrr F T MCx GPA HPA HPK M1 M3)) (Zml F T MCx GPA HPA HPK M1L M3)
 have FE:=fun {fd} (F:Fun K "thing_at_the_end" "Machine.thing_at_the_end" Ii g8 fd)=>Zoa F T MCx M4X M6
 have M7:=me h8 fun _ F=>Zq0 (FE F)
 have M7L:=me h8 fun _ F=>Zm3 (FE F)
 have MFX:=me h9 fun _ F=>Zfz (Zht (Zq6 F T MCx M7)) (Zk9 F T MCx M7L)
 have MP:=me h10 fun _ F=>Zqa F T MCx M7
 have MkM:Oj An l.prog w K mg base 2 "Machine" AM ["self", "tree", "steps"] (Nm K AM):=by
  obtain ⟨a,i,fd,F⟩:=h1
  exact ⟨g1,fd,Zig F T MCx C_placed_forms M1,⟨m5,a,i,m6⟩,gl m0,F.binds (by walk_at "bi")⟩
 have C_thing_of_row:=cx a14 fun _ F=>Zq8 F T MCx GPA HPA HPK C_thing_now M2 MFX MP
 have FG:=fun {fd} (F:Fun K "go_on" "go_on" Ic f15 fd)=>Zn8 F T MCx C_refuse_no_gap C_form_at C_with_at C_thing_now C_thing_of_row MkM
 have C_go_on:=ca a15 fun _ F=>Zma (FG F)
 have C_go_onL:=cx a15 fun _ F=>Zsi (FG F)
 have C__law_cell:=ca a16 fun _ F=>Zoj F T
 have C__law_mixed:=ca a17 fun _ F=>Zh4 F T
 have C__law_same:=ca a18 fun _ F=>Zhm F T (fun n h=>Zgi h (gl a18.1) F.kp (F.binds (by walk_at "bi"))) 8
 have C__law_names:=ca a19 fun _ F=>Zjx F T C__law_mixed
 have C__law_number:=ca a20 fun _ F=>Zlk F T
 have C__law_odd:=ca a21 fun _ F=>Zl7 F T
 have C__law_comes:=ca a22 fun _ F=>Zrb F T
 have C__law_joined:=ca a23 fun _ F=>Zo2 F T
 have C__law_copy:=ca a24 fun _ F=>Zob F T
 have C__law_turned:=ca a25 fun _ F=>Zo5 F T
 have C__law_tree:=ca a26 fun _ F=>Zlc F T C__law_turned
 have C__law_first:=ca a27 fun _ F=>Zjv F T C__law_comes C__law_joined
 have C__law_record:=ca a28 fun _ F=>Zjp F T C__law_first C__law_turned C__law_joined
 have C__law_apart:=ca a29 fun _ F=>Zqx F T
 have C__law_endless:=ca a30 fun _ F=>Zqn F T
 have C__law_late:=ca a31 fun _ F=>Zs0 F T C_go_onL XG gG gTL gNP gND TLK
 have C__law_filled:=ca a32 fun _ F=>Zqt F T
 exact Zl3 FX T C__law_cell C__law_mixed C__law_names C__law_number C__law_odd C__law_tree C__law_endless C__law_record C__law_copy C_go_on C__law_late C__law_filled C__law_apart C__law_same
theorem walk {l:V4} {q:Program} {loose:List Str} {XP:(Str->Option Value)->Heap->Prop} {YP:World->Heap->Prop} {d:DefRec} {K:Params->O7} (hn:l.most=some 63) (hdf:d.params.defaults=[])
  (hY:∀ (w:World) (h:Heap),YP w h->(K w.params).In h)
  (F:∀ (w:World) (mg:Str->Option Value) (fa:Addr) (h:Heap),(K w.params).In h->h.Ns mainGlobals mg->mg d.name=some (.ref fa) ->
   ∃ fd:FuncData,(∀ (s:Shared) (u:Value),BindsTo s fd ⟨[u],[]⟩ [("_law_script",u)])/\∀ base:Heap,(K w.params).In base->base.Ns mainGlobals mg->FnOk l.prog w (K w.params) mg base An 10 fa fd ["_law_script"] (Zbo (K w.params))) :
  PySem.W.WalkO q loose XP YP l.row.toRowW d [] (fun f vs=>PySem.call f vs) :=
 L2.walk_of (n:=63) (k:=10) (x := "_law_script") (CX:=fun _=>An) (sp:=fun w=>Zbo (K w.params)) hn (by decide) hdf ⟨rfl,by decide,by decide⟩ hY F (fun _ _ a ns hl _ hS=>⟨a,ns,rfl,hS,hl,fun _=>rfl⟩) fun _ _ _ _ _ z=>z
end K57
open PySem PySem.W PyProof.Rows
set_option maxRecDepth 100000 in
set_option maxHeartbeats 0 in
theorem PySem.Challenge.cw_gapscribe_k57_lets_that_double_holds : PySem.Challenge.rw_gapscribe_k57_lets_that_double.Holds := by
 w_on; o_law; o_head (PySem.W.kHook K57.KK K57.KA (fun _=>by kernel_rfl)); (case hw=>w_witness2)
 k_fill
 refine K57.walk (l:=PySem.Challenge.rw_gapscribe_k57_lets_that_double) rfl rfl (fun w h Y=>PySem.W.kIn_of Y) ?F
 case F =>
  intro w mg fa h KX G hmg
  refine' K57.all_mk KX G hmg ?a1 ?a2 ?a3 ?a4 ?a5 ?a6 ?a7 ?a8 ?a9 ?a10 ?a11 ?a12 ?a13 ?a14 ?a15 ?a16 ?a17 ?a18 ?a19 ?a20 ?a21 ?a22 ?a23 ?a24 ?a25 ?a26 ?a27 ?a28 ?a29 ?a30 ?a31 ?a32 ?a33 ?z1 ?z2 ?z3 ?z4 ?z5 ?z6 ?z7 ?z8 ?z9 ?z10 ?z11 ?z12 ?z13 ?z14 ?b1 ?b2 ?b3 ?b4 ?b5 ?b6 ?b7 ?b8 ?gt1 ?gu1 ?gt2 ?gu2 ?gt3 ?gu3 ?gt4 ?gu4 ?gt5 ?gu5 ?gt6 ?gu6 ?x1 ?x2 ?x3 ?x4 ?x5 ?x6 ?x7 ?x8 ?x9 ?y1 ?y2 ?y3 ?y4 ?y5 ?y6 ?y7 ?y8 ?y9 ?ya ?yb ?yc ?yd ?ye ?yf ?yg ?yh ?yi ?vP1 ?vP2 ?vP3 ?vP4 ?vP5 ?vD1 ?vD2 ?vD3 ?vD4 ?vD5 ?m0 ?m1 ?m2 ?m3 ?m4 ?m5 ?m6 ?m7 ?m8 ?m9 ?ma ?mb ?h1 ?h2 ?h3 ?h4 ?h5 ?h6 ?h7 ?h8 ?h9 ?h10 ?h11 ?h12 ?h13
  (case a1=>walk_at "gd")
  (case a2=>walk_at "gd")
  (case a3=>walk_at "gd")
  (case a4=>walk_at "gd")
  (case a5=>walk_at "gd")
  (case a6=>walk_at "gd")
  (case a7=>walk_at "gd")
  (case a8=>walk_at "gd")
  (case a9=>walk_at "gd")
  (case a10=>walk_at "gd")
  (case a11=>walk_at "gd")
  (case a12=>walk_at "gd")
  (case a13=>walk_at "gd")
  (case a14=>walk_at "gd")
  (case a15=>walk_at "gd")
  (case a16=>walk_at "gd")
  (case a17=>walk_at "gd")
  (case a18=>walk_at "gd")
  (case a19=>walk_at "gd")
  (case a20=>walk_at "gd")
  (case a21=>walk_at "gd")
  (case a22=>walk_at "gd")
  (case a23=>walk_at "gd")
  (case a24=>walk_at "gd")
  (case a25=>walk_at "gd")
  (case a26=>walk_at "gd")
  (case a27=>walk_at "gd")
  (case a28=>walk_at "gd")
  (case a29=>walk_at "gd")
  (case a30=>walk_at "gd")
  (case a31=>walk_at "gd")
  (case a32=>walk_at "gd")
  (case a33=>walk_at "gd")
  (case z1=>k_is)
  (case z2=>k_is)
  (case z3=>k_is)
  (case z4=>k_is)
  (case z5=>k_is)
  (case z6=>k_is)
  (case z7=>k_is)
  (case z8=>k_is)
  (case z9=>k_is)
  (case z10=>k_is)
  (case z11=>k_is)
  (case z12=>k_is)
  (case z13=>k_is)
  (case z14=>k_is)
  (case b1=>k_is)
  (case b2=>k_is)
  (case b3=>k_is)
  (case b4=>rfl)
  (case b5=>k_is)
  (case b6=>k_is)
  (case b7=>rfl)
  (case b8=>(repeat (first | exact .nil | refine .cons rfl ?_)))
  (case gt1=>k_is)
  (case gu1=>rfl)
  (case gt2=>k_is)
  (case gu2=>rfl)
  (case gt3=>k_is)
  (case gu3=>rfl)
  (case gt4=>k_is)
  (case gu4=>rfl)
  (case gt5=>k_is)
  (case gu5=>rfl)
  (case gt6=>k_is)
  (case gu6=>rfl)
  (case x1=>k_is)
  (case x2=>k_is)
  (case x3=>k_is)
  (case x4=>rfl)
  (case x5=>k_is)
  (case x6=>k_is)
  (case x7=>k_is)
  (case x8=>k_is)
  (case x9=>k_is)
  (case y1=>k_is)
  (case y2=>k_is)
  (case y3=>rfl)
  (case y4=>rfl)
  (case y5=>rfl)
  (case y6=>k_is)
  (case y7=>rfl)
  (case y8=>k_is)
  (case y9=>k_is)
  (case ya=>k_is)
  (case yb=>k_is)
  (case yc=>k_is)
  (case yd=>k_is)
  (case ye=>k_is)
  (case yf=>k_is)
  (case yg=>k_is)
  (case yh=>k_is)
  (case yi=>k_is)
  (case vP1=>k_is)
  (case vP2=>k_is)
  (case vP3=>k_is)
  (case vP4=>k_is)
  (case vP5=>rfl)
  (case vD1=>k_is)
  (case vD2=>k_is)
  (case vD3=>k_is)
  (case vD4=>k_is)
  (case vD5=>rfl)
  (case m0=>k_is)
  (case m1=>k_is)
  (case m2=>k_is)
  (case m3=>k_is)
  (case m4=>k_is)
  (case m5=>k_is)
  (case m6=>k_is)
  (case m7=>k_is)
  (case m8=>k_is)
  (case m9=>k_is)
  (case ma=>k_is)
  (case mb=>k_is)
  (case h1=>walk_at "gm")
  (case h2=>walk_at "gm")
  (case h3=>walk_at "gm")
  (case h4=>walk_at "gm")
  (case h5=>walk_at "gm")
  (case h6=>walk_at "gm")
  (case h7=>walk_at "gm")
  (case h8=>walk_at "gm")
  (case h9=>walk_at "gm")
  (case h10=>walk_at "gm")
  (case h11=>walk_at "gm")
  (case h12=>walk_at "gm")
  (case h13=>walk_at "gm")
#print axioms PySem.Challenge.cw_gapscribe_k57_lets_that_double_holds
